package frame

import (
	"encoding/binary"
	"strings"

	"drover/api"
)

// The model: the words of the chapter, written down a second time and in another way than the program has it.

func slowSum(parts ...string) int {
	data := strings.Join(parts, "")
	if len(data)%2 == 1 {
		data += "\x00"
	}
	total := 0
	for i := 0; i < len(data); i += 2 {
		total += 256*int(data[i]) + int(data[i+1])
	}
	for total >= 65536 {
		total = total%65536 + total/65536
	}
	return 65535 - total
}

func number(n uint64, size int) string {
	all := binary.BigEndian.AppendUint64(nil, n)
	return string(all[8-size:])
}

// with is s with the two bytes of n at a place.
func with(s string, place, n int) string {
	return s[:place] + number(uint64(n), 2) + s[place+2:]
}

// slowBytes are 'Its bytes', of a right packet: laid down with 00 00 in the places of the sums, which are put in behind it.
func slowBytes(p api.Packet) string {
	var outer, head, part string
	outer = number(p.To, 6) + number(p.From, 6)
	if p.Vlan != 0 {
		outer += "\x81\x00" + number(uint64(p.Vlan)-4096, 2)
	}
	outer += number(uint64(p.Type), 2)
	if p.Type != 0x800 {
		return outer + p.Data
	}
	ports := number(uint64(p.Sport), 2) + number(uint64(p.Dport), 2)
	pseudo := number(uint64(p.Src), 4) + number(uint64(p.Dst), 4) + "\x00" + number(uint64(p.Proto), 1)
	switch p.Proto {
	case 17:
		part = ports + number(uint64(8+len(p.Data)), 2) + "\x00\x00" + p.Data
		n := slowSum(pseudo, number(uint64(len(part)), 2), part)
		if n == 0 {
			n = 65535
		}
		part = with(part, 6, n)
	case 6:
		part = ports + "\x00\x00\x00\x00\x00\x00\x00\x00\x50\x10\xff\xff\x00\x00\x00\x00" + p.Data
		part = with(part, 16, slowSum(pseudo, number(uint64(len(part)), 2), part))
	default:
		part = p.Data
	}
	head = "\x45\x00" + number(uint64(20+len(part)), 2) + "\x00\x00\x00\x00" + number(uint64(p.Life), 1) + number(uint64(p.Proto), 1) + "\x00\x00" + pseudo[:8]
	head = with(head, 10, slowSum(head))
	return outer + head + part
}

func at(s string, place, size int) int {
	n := 0
	for _, b := range []byte(s[place : place+size]) {
		n = n*256 + int(b)
	}
	return n
}

// slowParse is P3.2, place by place, without writing anything again.
func slowParse(s string) (api.Packet, api.Errno) {
	none := api.Packet{}
	if len(s) > 1500 {
		return none, api.ErrBig
	}
	if len(s) < 14 {
		return none, api.ErrBytes
	}
	p := api.Packet{To: uint64(at(s, 0, 6)), From: uint64(at(s, 6, 6)), Type: at(s, 12, 2)}
	rest := s[14:]
	if p.Type == 0x8100 {
		if len(s) < 18 || at(s, 14, 2) > 4095 {
			return none, api.ErrBytes
		}
		p.Vlan, p.Type = 4096+at(s, 14, 2), at(s, 16, 2)
		rest = s[18:]
	}
	if p.Type < 0x600 || p.Type == 0x8100 {
		return none, api.ErrBytes
	}
	if p.Type != 0x800 {
		p.Data = rest
		return p, api.OK
	}
	e := slowInner(&p, rest)
	if e != api.OK {
		return none, e
	}
	return p, api.OK
}

func slowInner(p *api.Packet, s string) api.Errno {
	if len(s) < 20 || at(s, 0, 2) != 0x4500 || at(s, 2, 2) != len(s) || at(s, 4, 4) != 0 {
		return api.ErrBytes
	}
	p.Life, p.Proto, p.Src, p.Dst = at(s, 8, 1), at(s, 9, 1), uint32(at(s, 12, 4)), uint32(at(s, 16, 4))
	wrong := at(s, 10, 2) != slowSum(with(s[:20], 10, 0))
	part := s[20:]
	pseudo := s[12:20] + "\x00" + s[9:10] + number(uint64(len(part)), 2)
	skip := 0
	switch p.Proto {
	case 17:
		if len(part) < 8 || at(part, 4, 2) != len(part) {
			return api.ErrBytes
		}
		want := slowSum(pseudo, with(part, 6, 0))
		if want == 0 {
			want = 65535
		}
		wrong = wrong || at(part, 6, 2) != want
		skip = 8
	case 6:
		if len(part) < 20 || at(part, 4, 8) != 0 || at(part, 12, 4) != 0x5010ffff || at(part, 18, 2) != 0 {
			return api.ErrBytes
		}
		wrong = wrong || at(part, 16, 2) != slowSum(pseudo, with(part, 16, 0))
		skip = 20
	}
	if wrong {
		return api.ErrSum
	}
	if skip > 0 {
		p.Sport, p.Dport = at(part, 0, 2), at(part, 2, 2)
	}
	p.Data = part[skip:]
	return api.OK
}
