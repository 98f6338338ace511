package wire

import (
	"strings"

	"drover/act"
	"drover/api"
	"drover/instr"
	"drover/match"
	"drover/nums"
)

const (
	zeros      = "\x00\x00\x00\x00"
	ones       = "\xff\xff\xff\xff"
	changed    = 2       // why a PortStatus is sent
	nameSize   = 32      // the bytes of a port's hardware address and name, all 00
	speedSize  = 24      // the bytes behind a port's state, all 00
	checkFlag  = 2       // among a FlowMod's flags
	meterFlags = 5       // what a MeterMod counts by
	bandHead   = 0x10010 // what a meter's band begins with
	bucketSize = 16      // a bucket's bytes ahead of its actions
	noPort     = maxWord // the Watch 0
)

// body is what stands behind the head of a message that is right.
func body(m Message) string {
	switch m.Kind {
	case Error:
		return put(m.Type, 2) + put(m.Code, 2) + m.Data
	case Echo, EchoBack:
		return m.Data
	case PortStatus:
		return portBody(m.Port, m.Live)
	case PacketOut:
		return packetBody(m)
	case FlowMod:
		return flowBody(m)
	case GroupMod:
		return groupBody(m.Command, m.Group)
	case MeterMod:
		return meterBody(m.Command, m.Meter)
	}
	return ""
}

func portBody(port int, live bool) string {
	down := 1
	if live {
		down = 0
	}
	return put(changed, 1) + zeros[1:] + zeros + put(port, 4) + strings.Repeat("\x00", nameSize) +
		put(down, 4) + strings.Repeat("\x00", speedSize)
}

func packetBody(m Message) string {
	l := actions(m.Actions...)
	return ones + put(m.Port, 4) + put(len(l), 2) + zeros + zeros[2:] + l + m.Data
}

func flowBody(m Message) string {
	flags := 0
	if m.Check {
		flags = checkFlag
	}
	x := m.Entry
	// A message that is right has right tests and does what is right, so that nothing can be wrong.
	tests, _ := match.Encode(x.Tests...)
	does, _ := instr.Encode(x)
	return strings.Repeat(zeros, 4) + put(x.Table, 1) + put(m.Command, 1) + zeros + put(x.Priority, 2) +
		strings.Repeat(ones, 3) + put(flags, 2) + zeros[2:] + tests + does
}

func groupBody(command int, g api.Group) string {
	s := put(command, 2) + put(g.Kind-1, 1) + zeros[3:] + put(g.ID, 4)
	for _, b := range g.Buckets {
		s += bucketBytes(b)
	}
	return s
}

func bucketBytes(b api.Bucket) string {
	watch := b.Watch
	if watch == 0 {
		watch = noPort
	}
	l := actions(b.Actions...)
	return put(bucketSize+len(l), 2) + put(b.Weight, 2) + put(watch, 4) + ones + zeros + l
}

func meterBody(command int, m Meter) string {
	return put(command, 2) + put(meterFlags, 2) + put(m.ID, 4) + put(bandHead, 4) + put(m.Rate, 4) + put(m.Burst, 4) + zeros
}

// read is the message that bytes would be of, if they are those of one.
func read(data string) Message {
	r := nums.Read(data)
	r.Bytes(1)
	m := Message{Kind: number(r, 1)}
	r.Bytes(2)
	m.Xid = number(r, 4)
	switch m.Kind {
	case Error:
		m.Type, m.Code, m.Data = number(r, 2), number(r, 2), rest(r)
	case Echo, EchoBack:
		m.Data = rest(r)
	case PortStatus:
		m.Port, m.Live = readPort(r)
	case PacketOut:
		m.Port, m.Actions, m.Data = readPacket(r)
	case FlowMod:
		m.Command, m.Check, m.Entry = readFlow(r)
	case GroupMod:
		m.Command, m.Group = readGroup(r)
	case MeterMod:
		m.Command, m.Meter = readMeter(r)
	}
	return m
}

func readPort(r *nums.Reader) (int, bool) {
	r.Bytes(8)
	port := number(r, 4)
	r.Bytes(nameSize)
	return port, number(r, 4) == 0
}

func readPacket(r *nums.Reader) (int, []api.Action, string) {
	r.Bytes(4)
	port, size := number(r, 4), number(r, 2)
	r.Bytes(6)
	return port, readActions(r, size), rest(r)
}

func readFlow(r *nums.Reader) (int, bool, api.Entry) {
	r.Bytes(16)
	table, command := number(r, 1), number(r, 1)
	r.Bytes(4)
	priority := number(r, 2)
	r.Bytes(12)
	check := number(r, 2) == checkFlag
	r.Bytes(2)
	left := rest(r)
	// Where match or instr tells an error there are no tests, or an entry that does nothing: what is written again is another text.
	tests, n, _ := match.Decode(left)
	x, _ := instr.Decode(table, left[n:])
	x.Priority, x.Tests = priority, tests
	return command, check, x
}

func readGroup(r *nums.Reader) (int, api.Group) {
	command := number(r, 2)
	g := api.Group{Kind: number(r, 1) + 1}
	r.Bytes(1)
	g.ID = number(r, 4)
	for r.Left() > 0 {
		g.Buckets = append(g.Buckets, readBucket(r))
	}
	return command, g
}

// readBucket leaves nothing to read, if there are too few bytes or the bucket says that it has too few.
func readBucket(r *nums.Reader) api.Bucket {
	size := number(r, 2)
	b := api.Bucket{Weight: number(r, 2), Watch: number(r, 4)}
	if b.Watch == noPort {
		b.Watch = 0
	}
	r.Bytes(8)
	b.Actions = readActions(r, size-bucketSize)
	return b
}

func readMeter(r *nums.Reader) (int, Meter) {
	command := number(r, 2)
	r.Bytes(2)
	m := Meter{ID: number(r, 4)}
	r.Bytes(4)
	m.Rate, m.Burst = number(r, 4), number(r, 4)
	return command, m
}

// readActions is none where act tells an error: what is written again has another length there.
func readActions(r *nums.Reader, size int) []api.Action {
	l, _ := act.Decode(r.Bytes(size))
	return l
}

func number(r *nums.Reader, size int) int { return int(r.Num(size)) }

func rest(r *nums.Reader) string { return r.Bytes(r.Left()) }

// actions is for those that are right, so that nothing can be wrong.
func actions(l ...api.Action) string {
	s, _ := act.Encode(l...)
	return s
}

// put is for numbers that fit, so that nothing can be wrong.
func put(n, size int) string {
	s, _ := nums.Put(uint64(n), size)
	return s
}
