package wire

import (
	"drover/act"
	"drover/api"
	"drover/instr"
	"drover/match"
)

const (
	maxHalf          = 1<<16 - 1 // the greatest number of two bytes
	maxWord          = 1<<32 - 1 // of four
	maxErrorData     = 64
	maxEchoData      = 1000
	maxFlowCommand   = 4
	maxCommand       = 2 // of the other messages that have one
	maxBuckets       = 16
	maxBucketActions = 8
)

// right is whether a message has what its Kind has, and nothing else.
func right(m Message) bool {
	return within(m.Xid, 0, maxWord) && rightOwn(m) && isEmpty(withoutOwn(m))
}

// rightOwn is whether what a message's Kind has is right; the rest does not count.
func rightOwn(m Message) bool {
	switch m.Kind {
	case Hello, Barrier, BarrierBack:
		return true
	case Error:
		return within(m.Type, 0, maxHalf) && within(m.Code, 0, maxHalf) && len(m.Data) <= maxErrorData
	case Echo, EchoBack:
		return len(m.Data) <= maxEchoData
	case PortStatus:
		return within(m.Port, 1, api.MaxPorts)
	case PacketOut:
		return within(m.Port, 0, api.MaxPorts) && rightActions(m.Actions...) && len(m.Data) <= api.MaxBytes
	case FlowMod:
		return within(m.Command, 0, maxFlowCommand) && rightEntry(m.Entry)
	case GroupMod:
		return within(m.Command, 0, maxCommand) && rightGroup(m.Group)
	case MeterMod:
		return within(m.Command, 0, maxCommand) && rightMeter(m.Meter)
	}
	return false
}

// withoutOwn is a message without what its Kind has.
func withoutOwn(m Message) Message {
	switch m.Kind {
	case Error:
		m.Type, m.Code, m.Data = 0, 0, ""
	case Echo, EchoBack:
		m.Data = ""
	case PortStatus:
		m.Port, m.Live = 0, false
	case PacketOut:
		m.Port, m.Actions, m.Data = 0, nil, ""
	case FlowMod:
		m.Command, m.Check, m.Entry = 0, false, api.Entry{}
	case GroupMod:
		m.Command, m.Group = 0, api.Group{}
	case MeterMod:
		m.Command, m.Meter = 0, Meter{}
	}
	return m
}

// isEmpty is whether a message has nothing beside its Kind and its Xid.
func isEmpty(m Message) bool {
	return m.Command == 0 && !m.Check && isEmptyEntry(m.Entry) && isEmptyGroup(m.Group) && m.Meter == (Meter{}) &&
		m.Type == 0 && m.Code == 0 && m.Port == 0 && !m.Live && len(m.Actions) == 0 && m.Data == ""
}

func isEmptyEntry(x api.Entry) bool {
	return x.Table == 0 && x.Priority == 0 && len(x.Tests) == 0 && len(x.Apply) == 0 && len(x.Write) == 0 &&
		!x.Clear && x.Meta == 0 && x.MetaMask == 0 && x.Meter == 0 && x.Goto == 0
}

func isEmptyGroup(g api.Group) bool {
	return g.ID == 0 && g.Kind == 0 && len(g.Buckets) == 0
}

func rightEntry(x api.Entry) bool {
	return within(x.Priority, 0, maxHalf) && match.Right(x.Tests...) == api.OK && instr.Right(x) == api.OK
}

func rightGroup(g api.Group) bool {
	if !within(g.ID, 1, maxHalf) || !within(g.Kind, api.All, api.Failover) || len(g.Buckets) > maxBuckets {
		return false
	}
	for _, b := range g.Buckets {
		if !rightBucket(b) {
			return false
		}
	}
	return true
}

func rightBucket(b api.Bucket) bool {
	return within(b.Watch, 0, maxHalf) && within(b.Weight, 0, maxHalf) &&
		len(b.Actions) <= maxBucketActions && rightActions(b.Actions...)
}

func rightMeter(m Meter) bool {
	return within(m.ID, 1, api.MaxMeters) && within(m.Rate, 0, maxWord) && within(m.Burst, 0, maxWord)
}

// rightActions is whether all are right, and no more than bytes can be made of.
func rightActions(l ...api.Action) bool {
	_, e := act.Encode(l...)
	return e == api.OK
}

func within(n, least, most int) bool { return n >= least && n <= most }
