package instr

import (
	"encoding/hex"
	"fmt"
	"regexp"
	"strconv"
	"strings"

	"drover/act"
	"drover/api"
)

// The model: the chapter's words over digits, with the numbers of the limits written out.

func slowActs(l []api.Action) api.Errno {
	for _, a := range l {
		if !act.Right(a) {
			return api.ErrAct
		}
	}
	if len(l) > 32 {
		return api.ErrBig
	}
	return api.OK
}

func slowRight(x api.Entry) api.Errno {
	for _, c := range []struct {
		wrong bool
		e     api.Errno
	}{
		{x.Table < 0 || x.Table > 7, api.ErrTable},
		{slowActs(x.Apply) != api.OK, slowActs(x.Apply)},
		{slowActs(x.Write) != api.OK, slowActs(x.Write)},
		{x.Meter < 0 || x.Meter > 16, api.ErrMeter},
		{x.Meta != x.Meta&x.MetaMask, api.ErrInstr},
		{x.Goto != 0 && x.Goto <= x.Table, api.ErrInstr},
		{x.Goto > 7, api.ErrInstr},
	} {
		if c.wrong {
			return c.e
		}
	}
	return api.OK
}

// slowList is the digits of actions that are right, with those that stand ahead of them.
func slowList(number int, l []api.Action) string {
	digits := ""
	for _, a := range l {
		s, _ := act.Encode(a)
		digits += hex.EncodeToString([]byte(s))
	}
	return fmt.Sprintf("%04x%04x00000000%s", number, 8+len(digits)/2, digits)
}

// slowParts is the digits of each part that there is, in the table's order.
func slowParts(x api.Entry) []string {
	var l []string
	if x.Meter != 0 {
		l = append(l, fmt.Sprintf("00060008%08x", x.Meter))
	}
	if len(x.Apply) != 0 {
		l = append(l, slowList(4, x.Apply))
	}
	if x.Clear {
		l = append(l, "0005000800000000")
	}
	if len(x.Write) != 0 {
		l = append(l, slowList(3, x.Write))
	}
	if x.MetaMask != 0 {
		l = append(l, fmt.Sprintf("0002001800000000%016x%016x", x.Meta, x.MetaMask))
	}
	if x.Goto != 0 {
		l = append(l, fmt.Sprintf("00010008%02x000000", x.Goto))
	}
	return l
}

func slowEncode(x api.Entry) (string, api.Errno) {
	if e := slowRight(x); e != api.OK {
		return "", e
	}
	return unhex(strings.Join(slowParts(x), "")), api.OK
}

// forms are what the digits of parts look like, in the table's order.
var forms = []*regexp.Regexp{
	regexp.MustCompile("^00060008(.{8})$"),
	regexp.MustCompile("^0004....0{8}(.*)$"),
	regexp.MustCompile("^0005000800000000$"),
	regexp.MustCompile("^0003....0{8}(.*)$"),
	regexp.MustCompile("^0002001800000000(.{16})(.{16})$"),
	regexp.MustCompile("^00010008(..)000000$"),
}

// slowForm is which form digits have, from 1 on, and what stands in its brackets; 0: none.
func slowForm(digits string) (int, []string) {
	for i, f := range forms {
		if found := f.FindStringSubmatch(digits); found != nil {
			return i + 1, found[1:]
		}
	}
	return 0, nil
}

// slowPart lays down what one part says, and answers its place in the table; 0: it is none.
func slowPart(x *api.Entry, digits string) int {
	place, found := slowForm(digits)
	ok := place != 0
	switch place {
	case 1:
		x.Meter = int(unnumber(found[0]))
		ok = x.Meter != 0
	case 2:
		x.Apply, ok = slowActions(found[0])
	case 3:
		x.Clear = true
	case 4:
		x.Write, ok = slowActions(found[0])
	case 5:
		x.Meta, x.MetaMask = unnumber(found[0]), unnumber(found[1])
		ok = x.MetaMask != 0
	case 6:
		x.Goto = int(unnumber(found[0]))
		ok = x.Goto != 0
	}
	if !ok {
		return 0
	}
	return place
}

func slowActions(digits string) ([]api.Action, bool) {
	l, e := act.Decode(unhex(digits))
	return l, e == api.OK && len(l) > 0
}

func slowDecode(table int, data string) (api.Entry, api.Errno) {
	if table < 0 || table > 7 {
		return api.Entry{}, api.ErrTable
	}
	x := api.Entry{Table: table}
	last := 0
	for data != "" {
		if len(data) < 4 || len(data) < int(data[2])*256+int(data[3]) {
			return api.Entry{}, api.ErrEnd
		}
		n := int(data[2])*256 + int(data[3])
		if n < 8 {
			return api.Entry{}, api.ErrBytes
		}
		place := slowPart(&x, hex.EncodeToString([]byte(data[:n])))
		if place == 0 {
			return api.Entry{}, api.ErrBytes
		}
		if place <= last {
			return api.Entry{}, api.ErrInstr
		}
		last = place
		data = data[n:]
	}
	if e := slowRight(x); e != api.OK {
		return api.Entry{}, e
	}
	return x, api.OK
}

func unnumber(digits string) uint64 {
	n, err := strconv.ParseUint(digits, 16, 64)
	if err != nil {
		panic(err)
	}
	return n
}

func unhex(digits string) string {
	b, err := hex.DecodeString(strings.ReplaceAll(digits, " ", ""))
	if err != nil {
		panic(err)
	}
	return string(b)
}
