package field

import (
	"math/big"

	"drover/api"
)

// The model: the chapter's table, row by row, and its promises over the rows, in numbers without a bound.

// row is one of the table. Its place is a pointer into a packet, so that one row reads and writes.
type row struct {
	field, bits int
	place       func(s *Seen) any
	needs       string // "", "inner" or "ports"
	put         bool   // whether Put may
}

var rows = []row{
	{1, 32, func(s *Seen) any { return &s.In }, "", false},
	{2, 64, func(s *Seen) any { return &s.Meta }, "", true},
	{3, 13, func(s *Seen) any { return &s.P.Vlan }, "", true},
	{4, 16, func(s *Seen) any { return &s.P.Type }, "", false},
	{5, 32, func(s *Seen) any { return &s.P.Src }, "inner", true},
	{6, 32, func(s *Seen) any { return &s.P.Dst }, "inner", true},
	{7, 8, func(s *Seen) any { return &s.P.Proto }, "inner", false},
	{8, 16, func(s *Seen) any { return &s.P.Sport }, "ports", true},
	{9, 16, func(s *Seen) any { return &s.P.Dport }, "ports", true},
}

// rowOf is the row of a field that there is; nil: there is none.
func rowOf(s Seen, field int) *row {
	inner := s.P.Type == 2048
	ports := map[int]bool{6: inner, 17: inner}
	for i, r := range rows {
		if r.field == field && (r.needs == "" || r.needs == "inner" && inner || r.needs == "ports" && ports[s.P.Proto]) {
			return &rows[i]
		}
	}
	return nil
}

func slowWidth(field int) int {
	for _, r := range rows {
		if r.field == field {
			return r.bits
		}
	}
	return 0
}

// tooMuch is the first number that has more bits.
func tooMuch(bits int) *big.Int { return new(big.Int).Lsh(big.NewInt(1), uint(bits)) }

func slowGet(s Seen, field int) (uint64, api.Errno) {
	r := rowOf(s, field)
	if r == nil {
		return 0, api.ErrField
	}
	n := new(big.Int)
	switch x := r.place(&s).(type) {
	case *int:
		n.SetInt64(int64(*x))
	case *uint32:
		n.SetUint64(uint64(*x))
	case *uint64:
		n.SetUint64(*x)
	}
	return n.Mod(n, tooMuch(r.bits)).Uint64(), api.OK
}

func slowPut(s Seen, field int, v uint64) (Seen, api.Errno) {
	r := rowOf(s, field)
	if r == nil || !r.put {
		return Seen{}, api.ErrField
	}
	if new(big.Int).SetUint64(v).Cmp(tooMuch(r.bits)) >= 0 {
		return Seen{}, api.ErrArg
	}
	if field == 3 && (v < 4096 || v > 8191) {
		return Seen{}, api.ErrArg
	}
	if field == 3 && s.P.Vlan == 0 {
		return Seen{}, api.ErrNone
	}
	switch x := r.place(&s).(type) {
	case *int:
		*x = int(v)
	case *uint32:
		*x = uint32(v)
	case *uint64:
		*x = v
	}
	return s, api.OK
}
