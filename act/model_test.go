package act

import (
	"encoding/hex"
	"fmt"
	"regexp"
	"slices"
	"strconv"
	"strings"

	"drover/api"
	"drover/field"
)

// The model: the chapter's words over digits, with the Kinds' and fields' numbers written out.

// bounds are the least and the greatest Value of a Set, by its Field.
var bounds = map[int][2]uint64{3: {4096, 8191}, 5: {0, 4294967295}, 6: {0, 4294967295}, 8: {0, 65535}, 9: {0, 65535}}

func slowRight(a api.Action) bool {
	switch a.Kind {
	case 1, 2:
		return a.Field == 0 && a.Value != 0 && a.Value>>32 == 0
	case 3, 4:
		return a == api.Action{Kind: a.Kind}
	case 5:
		b, there := bounds[a.Field]
		return there && b[0] <= a.Value && a.Value <= b[1]
	}
	return false
}

// slowBytes is the digits of an action that is right.
func slowBytes(a api.Action) string {
	switch a.Kind {
	case 1:
		return fmt.Sprintf("00000010%08xffff000000000000", a.Value)
	case 2:
		return fmt.Sprintf("00160008%08x", a.Value)
	case 3:
		return "0011000881000000"
	case 4:
		return "0012000800000000"
	}
	switch a.Field {
	case 3:
		return fmt.Sprintf("0019001080000c02%04x000000000000", a.Value)
	case 5:
		return fmt.Sprintf("0019001080001604%08x00000000", a.Value)
	case 6:
		return fmt.Sprintf("0019001080001804%08x00000000", a.Value)
	case 8:
		return fmt.Sprintf("0019001080001a02%04x000000000000", a.Value)
	}
	return fmt.Sprintf("0019001080001c02%04x000000000000", a.Value)
}

func slowEncode(l []api.Action) (string, api.Errno) {
	all := ""
	for _, a := range l {
		if !slowRight(a) {
			return "", api.ErrAct
		}
		all += slowBytes(a)
	}
	if len(l) > 32 {
		return "", api.ErrBig
	}
	return unhex(all), api.OK
}

// forms are what the digits of actions look like; in brackets stands the Value.
var forms = []struct {
	look        *regexp.Regexp
	kind, field int
}{
	{regexp.MustCompile("^00000010(.{8})ffff000000000000$"), 1, 0},
	{regexp.MustCompile("^00160008(.{8})$"), 2, 0},
	{regexp.MustCompile("^0011000881000000()$"), 3, 0},
	{regexp.MustCompile("^0012000800000000()$"), 4, 0},
	{regexp.MustCompile("^0019001080000c02(.{4})0{12}$"), 5, 3},
	{regexp.MustCompile("^0019001080001604(.{8})0{8}$"), 5, 5},
	{regexp.MustCompile("^0019001080001804(.{8})0{8}$"), 5, 6},
	{regexp.MustCompile("^0019001080001a02(.{4})0{12}$"), 5, 8},
	{regexp.MustCompile("^0019001080001c02(.{4})0{12}$"), 5, 9},
}

// slowOne is the right action that has just these bytes, if there is one.
func slowOne(data string) (api.Action, bool) {
	for _, f := range forms {
		if found := f.look.FindStringSubmatch(hex.EncodeToString([]byte(data))); found != nil {
			v, _ := strconv.ParseUint("0"+found[1], 16, 64)
			a := api.Action{Kind: f.kind, Field: f.field, Value: v}
			return a, slowRight(a)
		}
	}
	return api.Action{}, false
}

func slowDecode(data string) ([]api.Action, api.Errno) {
	var l []api.Action
	for len(data) > 0 {
		if len(data) < 4 {
			return nil, api.ErrEnd
		}
		n := int(data[2])*256 + int(data[3])
		if len(data) < n {
			return nil, api.ErrEnd
		}
		if n < 8 {
			return nil, api.ErrBytes
		}
		a, ok := slowOne(data[:n])
		if !ok {
			return nil, api.ErrBytes
		}
		l = append(l, a)
		data = data[n:]
	}
	if len(l) > 32 {
		return nil, api.ErrBig
	}
	return l, api.OK
}

// slowChange writes into the packet itself, by field's words.
func slowChange(s field.Seen, a api.Action) field.Seen {
	p := &s.P
	inner := p.Type == 2048
	ports := inner && (p.Proto == 6 || p.Proto == 17)
	switch {
	case a.Kind == 3 && p.Vlan == 0:
		p.Vlan = 4096
	case a.Kind == 4:
		p.Vlan = 0
	case a.Kind != 5:
	case a.Field == 2:
		s.Meta = a.Value
	case a.Field == 3 && p.Vlan != 0 && 4096 <= a.Value && a.Value <= 8191:
		p.Vlan = int(a.Value)
	case a.Field == 5 && inner && a.Value <= 4294967295:
		p.Src = uint32(a.Value)
	case a.Field == 6 && inner && a.Value <= 4294967295:
		p.Dst = uint32(a.Value)
	case a.Field == 8 && ports && a.Value <= 65535:
		p.Sport = int(a.Value)
	case a.Field == 9 && ports && a.Value <= 65535:
		p.Dport = int(a.Value)
	}
	return s
}

// slowMerge asks for each Kind in turn which one is the last.
func slowMerge(set []api.Action, l ...api.Action) []api.Action {
	all := append(append([]api.Action{}, set...), l...)
	var fields []int
	for _, a := range all {
		if a.Kind == 5 {
			fields = append(fields, a.Field)
		}
	}
	slices.Sort(fields)
	var merged []api.Action
	take := func(is func(api.Action) bool) {
		for i := len(all) - 1; i >= 0; i-- {
			if is(all[i]) {
				merged = append(merged, all[i])
				return
			}
		}
	}
	take(func(a api.Action) bool { return a.Kind == 4 })
	take(func(a api.Action) bool { return a.Kind == 3 })
	for _, f := range slices.Compact(fields) {
		take(func(a api.Action) bool { return a.Kind == 5 && a.Field == f })
	}
	take(func(a api.Action) bool { return a.Kind == 2 })
	take(func(a api.Action) bool { return a.Kind == 1 })
	return merged
}

func unhex(digits string) string {
	b, err := hex.DecodeString(strings.ReplaceAll(digits, " ", ""))
	if err != nil {
		panic(err)
	}
	return string(b)
}
