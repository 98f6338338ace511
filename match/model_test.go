package match

import (
	"encoding/hex"
	"fmt"
	"strings"

	"drover/api"
	"drover/field"
)

// The model: the chapter's words, bit by bit and digit by digit.

// bitsOf are the fields' widths, and codesOf their codes as the words list them.
var (
	bitsOf  = map[int]int{1: 32, 2: 64, 3: 13, 4: 16, 5: 32, 6: 32, 7: 8, 8: 16, 9: 16}
	codesOf = map[int]int{1: 0, 2: 2, 3: 6, 4: 5, 5: 11, 6: 12, 7: 10}
)

func bit(n uint64, i int) bool { return n>>i&1 == 1 }

func slowWhole(t api.Test) bool {
	for i := range 64 {
		if bit(t.Mask, i) != (i < bitsOf[t.Field]) {
			return false
		}
	}
	return true
}

// asked is what a whole test of a field among some tests asks for; -1: there is none.
func asked(f int, tests []api.Test) int {
	for _, t := range tests {
		if t.Field == f && slowWhole(t) {
			return int(t.Value)
		}
	}
	return -1
}

func slowRight(tests []api.Test) api.Errno {
	for i, t := range tests {
		bits, there := bitsOf[t.Field]
		if !there {
			return api.ErrField
		}
		if i > 0 && tests[i-1].Field >= t.Field {
			return api.ErrMatch
		}
		if t.Mask == 0 {
			return api.ErrMatch
		}
		for b := range 64 {
			if bit(t.Mask, b) && b >= bits || bit(t.Value, b) && !bit(t.Mask, b) {
				return api.ErrMatch
			}
		}
		if 5 <= t.Field && t.Field <= 7 && asked(4, tests[:i]) != 2048 {
			return api.ErrMatch
		}
		if proto := asked(7, tests[:i]); t.Field >= 8 && proto != 6 && proto != 17 {
			return api.ErrMatch
		}
	}
	return api.OK
}

func slowTakes(tests []api.Test, s field.Seen) bool {
	for _, t := range tests {
		v, e := field.Get(s, t.Field)
		if e != api.OK {
			return false
		}
		for i := range 64 {
			if bit(t.Value, i) != (bit(v, i) && bit(t.Mask, i)) {
				return false
			}
		}
	}
	return true
}

func slowSame(a, b []api.Test) bool {
	if len(a) != len(b) {
		return false
	}
	for i := range a {
		if a[i].Field != b[i].Field || a[i].Value != b[i].Value || a[i].Mask != b[i].Mask {
			return false
		}
	}
	return true
}

func slowCovers(a, b []api.Test) bool {
	for _, x := range a {
		covered := false
		for _, y := range b {
			all := x.Field == y.Field
			for i := range 64 {
				all = all && (!bit(x.Mask, i) || bit(y.Mask, i)) && bit(x.Value, i) == (bit(y.Value, i) && bit(x.Mask, i))
			}
			covered = covered || all
		}
		if !covered {
			return false
		}
	}
	return true
}

func slowMeets(a, b []api.Test) bool {
	for _, x := range a {
		for _, y := range b {
			for i := range 64 {
				if x.Field == y.Field && bit(x.Mask, i) && bit(y.Mask, i) && bit(x.Value, i) != bit(y.Value, i) {
					return false
				}
			}
		}
	}
	return true
}

// slowEncode writes digits.
func slowEncode(tests []api.Test) (string, api.Errno) {
	if e := slowRight(tests); e != api.OK {
		return "", e
	}
	body := ""
	for _, t := range tests {
		code, there := codesOf[t.Field]
		if !there {
			code = map[int]int{6: 13, 17: 15}[asked(7, tests)] + t.Field - 8
		}
		digits := map[int]int{8: 2, 13: 4, 16: 4, 32: 8, 64: 16}[bitsOf[t.Field]]
		value := fmt.Sprintf("%0*x", digits, t.Value)
		mask := fmt.Sprintf("%0*x", digits, t.Mask)
		if slowWhole(t) {
			body += fmt.Sprintf("8000%02x%02x%s", 2*code, digits/2, value)
		} else {
			body += fmt.Sprintf("8000%02x%02x%s%s", 2*code+1, digits, value, mask)
		}
	}
	all := fmt.Sprintf("0001%04x%s", 4+len(body)/2, body)
	for len(all)%16 != 0 {
		all += "0"
	}
	return unhex(all), api.OK
}

// slowDecode asks of each byte in turn what it may be.
func slowDecode(data string) ([]api.Test, int, api.Errno) {
	if len(data) < 4 {
		return nil, 0, api.ErrEnd
	}
	n := int(data[2])*256 + int(data[3])
	up := n
	for up%8 != 0 {
		up++
	}
	if len(data) < up {
		return nil, 0, api.ErrEnd
	}
	if n < 4 || data[:2] != "\x00\x01" || strings.Trim(data[n:up], "\x00") != "" {
		return nil, 0, api.ErrBytes
	}
	var tests []api.Test
	for body := data[4:n]; body != ""; {
		t, size := slowTest(body, tests)
		if size == 0 {
			return nil, 0, api.ErrBytes
		}
		tests = append(tests, t)
		body = body[size:]
	}
	if slowRight(tests) != api.OK {
		return nil, 0, api.ErrBytes
	}
	return tests, up, api.OK
}

// slowTest is the test that bytes begin with, and its size; 0: there is none.
func slowTest(body string, ahead []api.Test) (api.Test, int) {
	if len(body) < 4 || body[:2] != "\x80\x00" || len(body) < 4+int(body[3]) {
		return api.Test{}, 0
	}
	code, masked, n := int(body[2])/2, int(body[2])%2 == 1, int(body[3])
	t := api.Test{}
	for f, c := range codesOf {
		if c == code {
			t.Field = f
		}
	}
	switch proto := asked(7, ahead); {
	case proto == 6 && (code == 13 || code == 14):
		t.Field = code - 5
	case proto == 17 && (code == 15 || code == 16):
		t.Field = code - 7
	}
	size := 0
	for 8*size < bitsOf[t.Field] {
		size++
	}
	if size == 0 || !masked && n != size || masked && n != 2*size {
		return api.Test{}, 0
	}
	fmt.Sscanf(hex.EncodeToString([]byte(body[4:4+size])), "%x", &t.Value)
	t.Mask = 1<<bitsOf[t.Field] - 1
	if masked {
		fmt.Sscanf(hex.EncodeToString([]byte(body[4+size:4+n])), "%x", &t.Mask)
	}
	if masked == slowWhole(t) {
		return api.Test{}, 0
	}
	return t, 4 + n
}

func unhex(digits string) string {
	b, err := hex.DecodeString(strings.ReplaceAll(digits, " ", ""))
	if err != nil {
		panic(err)
	}
	return string(b)
}
