package wire

import (
	"encoding/hex"
	"fmt"
	"reflect"
	"regexp"
	"slices"
	"strconv"
	"strings"

	"drover/act"
	"drover/api"
	"drover/instr"
	"drover/match"
)

// The model: the chapter's words over digits, with the numbers of the limits written out.

// owns is what each Kind has.
var owns = map[int]string{
	0:  "",
	1:  "Type Code Data",
	2:  "Data",
	3:  "Data",
	12: "Port Live",
	13: "Port Actions Data",
	14: "Command Check Entry",
	15: "Command Group",
	20: "",
	21: "",
	29: "Command Meter",
}

// slowEmpty goes into structs, so that a list without elements is empty, nil or not.
func slowEmpty(v reflect.Value) bool {
	switch v.Kind() {
	case reflect.Slice, reflect.String:
		return v.Len() == 0
	case reflect.Struct:
		for i := range v.NumField() {
			if !slowEmpty(v.Field(i)) {
				return false
			}
		}
		return true
	}
	return v.IsZero()
}

// slowOthers is whether a message has nothing that its Kind has not.
func slowOthers(m Message) bool {
	own := append(strings.Fields(owns[m.Kind]), "Kind", "Xid")
	v := reflect.ValueOf(m)
	for i := range v.NumField() {
		if !slices.Contains(own, v.Type().Field(i).Name) && !slowEmpty(v.Field(i)) {
			return false
		}
	}
	return true
}

func slowActions(most int, l []api.Action) bool {
	for _, a := range l {
		if !act.Right(a) {
			return false
		}
	}
	return len(l) <= most
}

func slowBuckets(l []api.Bucket) bool {
	for _, b := range l {
		if b.Watch < 0 || b.Watch > 65535 || b.Weight < 0 || b.Weight > 65535 || !slowActions(8, b.Actions) {
			return false
		}
	}
	return len(l) <= 16
}

func slowRight(m Message) bool {
	if _, ok := owns[m.Kind]; !ok || m.Xid < 0 || m.Xid > 4294967295 || !slowOthers(m) {
		return false
	}
	x, g, r := m.Entry, m.Group, m.Meter
	switch m.Kind {
	case 1:
		return m.Type >= 0 && m.Type < 65536 && m.Code >= 0 && m.Code < 65536 && len(m.Data) < 65
	case 2, 3:
		return len(m.Data) < 1001
	case 12:
		return m.Port > 0 && m.Port < 17
	case 13:
		return m.Port >= 0 && m.Port < 17 && slowActions(32, m.Actions) && len(m.Data) < 1501
	case 14:
		return m.Command >= 0 && m.Command < 5 && x.Priority >= 0 && x.Priority < 65536 &&
			match.Right(x.Tests...) == api.OK && instr.Right(x) == api.OK
	case 15:
		return m.Command >= 0 && m.Command < 3 && g.ID > 0 && g.ID < 65536 && g.Kind > 0 && g.Kind < 5 && slowBuckets(g.Buckets)
	case 29:
		return m.Command >= 0 && m.Command < 3 && r.ID > 0 && r.ID < 17 &&
			r.Rate >= 0 && r.Rate < 4294967296 && r.Burst >= 0 && r.Burst < 4294967296
	}
	return true
}

func tohex(s string) string { return hex.EncodeToString([]byte(s)) }

func unhex(digits string) string {
	b, err := hex.DecodeString(strings.ReplaceAll(digits, " ", ""))
	if err != nil {
		panic(err)
	}
	return string(b)
}

func unnumber(digits string) int {
	n, err := strconv.ParseInt(digits, 16, 64)
	if err != nil {
		panic(err)
	}
	return int(n)
}

func actionDigits(l []api.Action) string {
	s, _ := act.Encode(l...)
	return tohex(s)
}

// slowBody is the digits of the body of a message that is right.
func slowBody(m Message) string {
	switch m.Kind {
	case 1:
		return fmt.Sprintf("%04x%04x%s", m.Type, m.Code, tohex(m.Data))
	case 2, 3:
		return tohex(m.Data)
	case 12:
		down := map[bool]int{false: 1}[m.Live]
		return fmt.Sprintf("0200000000000000%08x%064d%08x%048d", m.Port, 0, down, 0)
	case 13:
		l := actionDigits(m.Actions)
		return fmt.Sprintf("ffffffff%08x%04x000000000000%s%s", m.Port, len(l)/2, l, tohex(m.Data))
	case 14:
		check := map[bool]int{true: 2}[m.Check]
		tests, _ := match.Encode(m.Entry.Tests...)
		does, _ := instr.Encode(m.Entry)
		return fmt.Sprintf("%032d%02x%02x00000000%04xffffffffffffffffffffffff%04x0000%s%s",
			0, m.Entry.Table, m.Command, m.Entry.Priority, check, tohex(tests), tohex(does))
	case 15:
		s := fmt.Sprintf("%04x%02x00%08x", m.Command, m.Group.Kind-1, m.Group.ID)
		for _, b := range m.Group.Buckets {
			watch := fmt.Sprintf("%08x", b.Watch)
			if watch == "00000000" {
				watch = "ffffffff"
			}
			l := actionDigits(b.Actions)
			s += fmt.Sprintf("%04x%04x%sffffffff00000000%s", 16+len(l)/2, b.Weight, watch, l)
		}
		return s
	case 29:
		return fmt.Sprintf("%04x0005%08x00010010%08x%08x00000000", m.Command, m.Meter.ID, m.Meter.Rate, m.Meter.Burst)
	}
	return ""
}

func slowEncode(m Message) (string, api.Errno) {
	if !slowRight(m) {
		return "", api.ErrArg
	}
	b := slowBody(m)
	return unhex(fmt.Sprintf("04%02x%04x%08x%s", m.Kind, 8+len(b)/2, m.Xid, b)), api.OK
}

// forms are what the digits of bodies look like.
var forms = map[int]*regexp.Regexp{
	0:  regexp.MustCompile("^$"),
	1:  regexp.MustCompile("^(.{4})(.{4})(.*)$"),
	2:  regexp.MustCompile("^(.*)$"),
	3:  regexp.MustCompile("^(.*)$"),
	12: regexp.MustCompile("^020{14}(.{8})0{64}(0{8}|0{7}1)0{48}$"),
	13: regexp.MustCompile("^f{8}(.{8})(.{4})0{12}(.*)$"),
	14: regexp.MustCompile("^0{32}(..)(..)0{8}(.{4})f{24}(0000|0002)0000(.*)$"),
	15: regexp.MustCompile("^(.{4})(..)00(.{8})(.*)$"),
	20: regexp.MustCompile("^$"),
	21: regexp.MustCompile("^$"),
	29: regexp.MustCompile("^(.{4})0005(.{8})00010010(.{8})(.{8})0{8}$"),
}

var bucketForm = regexp.MustCompile("^(.{4})(.{4})(.{8})f{8}0{8}")

func slowDecode(data string) (Message, int, api.Errno) {
	if len(data) < 8 {
		return Message{}, 0, api.ErrEnd
	}
	n := int(data[2])*256 + int(data[3])
	if data[0] != 4 || n < 8 {
		return Message{}, 0, api.ErrBytes
	}
	if n > len(data) {
		return Message{}, 0, api.ErrEnd
	}
	digits := tohex(data[:n])
	m := Message{Kind: int(data[1]), Xid: unnumber(digits[8:16])}
	if !slowRead(&m, digits[16:]) || !slowRight(m) {
		return Message{}, 0, api.ErrBytes
	}
	return m, n, api.OK
}

// slowRead lays down what a body says, and answers whether it has its Kind's form.
func slowRead(m *Message, digits string) bool {
	form, ok := forms[m.Kind]
	if !ok || !form.MatchString(digits) {
		return false
	}
	found := form.FindStringSubmatch(digits)[1:]
	switch m.Kind {
	case 1:
		m.Type, m.Code, m.Data = unnumber(found[0]), unnumber(found[1]), unhex(found[2])
	case 2, 3:
		m.Data = unhex(found[0])
	case 12:
		m.Port, m.Live = unnumber(found[0]), found[1] == "00000000"
	case 13:
		m.Port = unnumber(found[0])
		size := 2 * unnumber(found[1])
		if size > len(found[2]) {
			return false
		}
		l, e := act.Decode(unhex(found[2][:size]))
		m.Actions, m.Data = l, unhex(found[2][size:])
		return e == api.OK
	case 14:
		m.Command, m.Check = unnumber(found[1]), found[3] == "0002"
		return slowReadEntry(m, found[0], found[2], unhex(found[4]))
	case 15:
		m.Command = unnumber(found[0])
		m.Group = api.Group{ID: unnumber(found[2]), Kind: unnumber(found[1]) + 1}
		return slowReadBuckets(m, found[3])
	case 29:
		m.Command = unnumber(found[0])
		m.Meter = Meter{ID: unnumber(found[1]), Rate: unnumber(found[2]), Burst: unnumber(found[3])}
	}
	return true
}

func slowReadEntry(m *Message, table, priority, data string) bool {
	tests, n, e := match.Decode(data)
	if e != api.OK {
		return false
	}
	x, e := instr.Decode(unnumber(table), data[n:])
	x.Priority, x.Tests = unnumber(priority), tests
	m.Entry = x
	return e == api.OK
}

func slowReadBuckets(m *Message, digits string) bool {
	for digits != "" {
		found := bucketForm.FindStringSubmatch(digits)
		if found == nil {
			return false
		}
		size := 2 * unnumber(found[1])
		if size < 32 || size > len(digits) {
			return false
		}
		l, e := act.Decode(unhex(digits[32:size]))
		if e != api.OK {
			return false
		}
		b := api.Bucket{Watch: unnumber(found[3]), Weight: unnumber(found[2]), Actions: l}
		switch found[3] {
		case "ffffffff":
			b.Watch = 0
		case "00000000":
			return false
		}
		m.Group.Buckets = append(m.Group.Buckets, b)
		digits = digits[size:]
	}
	return true
}

// same is whether two messages are the same; a list without elements may be nil or not.
func same(a, b Message) bool { return slowSame(reflect.ValueOf(a), reflect.ValueOf(b)) }

func slowSame(a, b reflect.Value) bool {
	switch a.Kind() {
	case reflect.Slice:
		if a.Len() != b.Len() {
			return false
		}
		for i := range a.Len() {
			if !slowSame(a.Index(i), b.Index(i)) {
				return false
			}
		}
		return true
	case reflect.Struct:
		for i := range a.NumField() {
			if !slowSame(a.Field(i), b.Field(i)) {
				return false
			}
		}
		return true
	}
	return a.Equal(b)
}
