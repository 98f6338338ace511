package device

import (
	"slices"

	"drover/api"
	"drover/field"
	"drover/frame"
	"drover/meter"
	"drover/pipe"
	"drover/wire"
)

// Commands of messages.
const (
	flowAdd          = 0
	flowModifyStrict = 2 // 1 is not strict
	flowDelete       = 3
	flowDeleteStrict = 4

	add    = 0 // of a group or a meter
	modify = 1
	remove = 2
)

// handle does what a message asks for, and is its answer, if it has one. With a refusal it has done nothing.
func (d *Device) handle(m wire.Message, bytes string) (string, []pipe.Out) {
	var outs []pipe.Out
	var f fault
	switch m.Kind {
	case wire.Echo:
		return bytesOf(wire.Message{Kind: wire.EchoBack, Xid: m.Xid, Data: m.Data}), nil
	case wire.Barrier:
		return bytesOf(wire.Message{Kind: wire.BarrierBack, Xid: m.Xid}), nil
	case wire.EchoBack, wire.BarrierBack, wire.PortStatus:
		f = wrongKind
	case wire.PacketOut:
		outs, f = d.send(m)
	case wire.FlowMod:
		f = d.changeFlows(m)
	case wire.GroupMod:
		f = d.changeGroups(m.Command, m.Group)
	case wire.MeterMod:
		f = d.changeMeters(m.Command, m.Meter)
	}
	if f == (fault{}) {
		return "", outs
	}
	return refusal(f, m.Xid, bytes), nil
}

// send lets the controller's own packet leave.
func (d *Device) send(m wire.Message) ([]pipe.Out, fault) {
	p, e := frame.Parse(m.Data)
	if e != api.OK {
		return nil, wrongBytes
	}
	outs, _ := pipe.Act(d.parts(), field.Seen{In: m.Port, P: p}, m.Actions, 0)
	return outs, fault{}
}

func (d *Device) changeFlows(m wire.Message) fault {
	x := m.Entry
	if m.Command == flowDelete || m.Command == flowDeleteStrict {
		// What the entry would do is nothing to a deletion, so that what it would need may be gone already.
		return flowFault(d.flows.Delete(x, m.Command == flowDeleteStrict))
	}
	if f := d.missing(x); f != (fault{}) {
		return f
	}
	if m.Command == flowAdd {
		return flowFault(d.flows.Add(x, m.Check))
	}
	return flowFault(d.flows.Modify(x, m.Command == flowModifyStrict))
}

// missing tells what an entry leads to that is not there.
func (d *Device) missing(x api.Entry) fault {
	switch {
	case x.Meter != 0 && !d.hasMeter(x.Meter):
		return noMeter
	case slices.ContainsFunc(groupsOf(x), func(id int) bool { return !d.hasGroup(id) }):
		return noGroupOfEntry
	}
	return fault{}
}

func (d *Device) changeGroups(command int, g api.Group) fault {
	switch command {
	case add:
		return groupFault(d.groups.Add(g))
	case modify:
		return groupFault(d.groups.Modify(g))
	}
	e := d.groups.Delete(g.ID)
	if e == api.OK {
		d.forget(func(x api.Entry) bool { return slices.Contains(groupsOf(x), g.ID) })
	}
	return groupFault(e)
}

func (d *Device) changeMeters(command int, m wire.Meter) fault {
	is := d.hasMeter(m.ID)
	switch {
	case command == add && is:
		return meterTwice
	case command != add && !is:
		return noMeter
	case command == remove:
		d.meters[m.ID], d.made[m.ID] = nil, wire.Meter{}
		d.forget(func(x api.Entry) bool { return x.Meter == m.ID })
	default:
		// A message that is right has a right rate and burst, so that nothing can be wrong.
		d.meters[m.ID], _ = meter.New(m.Rate, m.Burst)
		d.made[m.ID] = m
	}
	return fault{}
}

// forget deletes the entries that can't be any more. Strictly each means itself alone.
func (d *Device) forget(gone func(x api.Entry) bool) {
	for number := range api.MaxTables {
		for _, x := range d.flows.List(number) {
			if gone(x) {
				d.flows.Delete(x, true)
			}
		}
	}
}

func groupsOf(x api.Entry) []int {
	var l []int
	for _, a := range slices.Concat(x.Apply, x.Write) {
		if a.Kind == api.ToGroup {
			l = append(l, int(a.Value))
		}
	}
	return l
}
