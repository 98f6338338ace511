package device

import (
	"drover/api"
	"drover/wire"
)

const (
	version      = 4 // what every message's bytes begin with
	headSize     = 8 // the bytes ahead of a message's body
	maxErrorData = 64
)

// fault is the Type and the Code of a refusal; 0/0 is none.
type fault struct{ kind, code int }

var (
	wrongBytes     = fault{1, 0}
	wrongKind      = fault{1, 1}
	noGroupOfEntry = fault{2, 9}
	wrongFlow      = fault{5, 0}
	fullTable      = fault{5, 1}
	clash          = fault{5, 3}
	groupTwice     = fault{6, 0}
	wrongGroup     = fault{6, 1}
	fullGroups     = fault{6, 3}
	loop           = fault{6, 7}
	noGroup        = fault{6, 8}
	meterTwice     = fault{12, 2}
	noMeter        = fault{12, 3}
)

// flowFault is how a FlowMod is refused of an error of table.
func flowFault(e api.Errno) fault {
	switch e {
	case api.OK:
		return fault{}
	case api.ErrFull:
		return fullTable
	case api.ErrClash:
		return clash
	}
	return wrongFlow
}

// groupFault is how a GroupMod is refused of an error of group.
func groupFault(e api.Errno) fault {
	switch e {
	case api.OK:
		return fault{}
	case api.ErrTwice:
		return groupTwice
	case api.ErrNone:
		return noGroup
	case api.ErrFull:
		return fullGroups
	case api.ErrLoop:
		return loop
	}
	return wrongGroup
}

// passOver is the answer to bytes that begin with no message, and how many of them are done with. Where they don't even tell how long they are, nothing behind them can be read either.
func passOver(data string) (string, int) {
	size := number(data[2:4])
	if data[0] != version || size < headSize {
		return "", len(data)
	}
	return refusal(wrongBytes, number(data[4:headSize]), data[:size]), size
}

// refusal is the answer to bytes that are one message, or should be.
func refusal(f fault, xid int, bytes string) string {
	data := bytes[:min(len(bytes), maxErrorData)]
	return bytesOf(wire.Message{Kind: wire.Error, Xid: xid, Type: f.kind, Code: f.code, Data: data})
}

// bytesOf is for messages that are right, so that nothing can be wrong.
func bytesOf(m wire.Message) string {
	s, _ := wire.Encode(m)
	return s
}

func number(s string) int {
	n := 0
	for i := range len(s) {
		n = n<<8 | int(s[i])
	}
	return n
}
