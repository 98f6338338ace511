package regex

import (
	"math/rand"
	"strings"
	"testing"

	"drover/api"
)

// checkBoth holds Parse against the model.
func checkBoth(t *testing.T, s string) api.Errno {
	t.Helper()
	x, err := modelParse(s)
	checkParse(t, s, written(x), err)
	return err
}

func TestParse(t *testing.T) { // P17.5
	for s, want := range map[string]string{
		".": ".", "!": "!", "()": "()", "1": "1", "9": "9", "10": "10", "65535": "65535", "100": "100",
		"(1)": "1", "((1))": "1", "(.)": ".", "(!)": "!", "(())": "()", "((()))": "()",
		"1*": "1*", "1**": "1*", "1***": "1*", "!*": "()", "()*": "()", "()**": "()", ".*": ".*", "(1)*": "1*", "(1*)*": "1*",
		"1 2": "1 2", "1 2 3": "1 2 3", "(1 2) 3": "1 2 3", "1 (2 3)": "1 2 3", "1.2": "1 . 2", "..": ". .", ".1": ". 1", "1!": "!", "!1": "!", "1 ! 2": "!",
		"1()": "1", "()1": "1", "1()2": "1 2", "1(2)3": "1 2 3", "(1)(2)": "1 2", "1* 2*": "1* 2*", "1*2*": "1* 2*", "1 2*": "1 2*", "(1 2)*": "(1 2)*", "1 2 3*": "1 2 3*",
		"1|2": "1|2", "2|1": "1|2", "1|1": "1", "1|!": "1", "!|!": "!", "1|2|3": "1|2|3", "3|1|2": "1|2|3", "(1|2)|3": "1|2|3", "3|(2|1)": "1|2|3",
		"1 2|3": "3|1 2", "1|2 3": "1|2 3", "(1|2) 3": "(1|2) 3", "1 (2|3)": "1 (2|3)", "1 (3|2)": "1 (2|3)", "1|2*": "1|2*", "(1|2)*": "(1|2)*", "1*|2": "2|1*", "()|1": "()|1", "1|()": "()|1",
		"1 2*|3": "3|1 2*", "(1 2)*|3": "3|(1 2)*", "(1 (2|3)*)*|.": ".|(1 (2|3)*)*",
	} {
		e := must(t, s)
		checkText(t, s, e, want)
		checkBoth(t, s)
	}
}

func TestParseOfBlanks(t *testing.T) { // P17.5: anywhere between the signs and numbers, and needed just between two numbers
	for _, signs := range [][]string{
		{"1"}, {"."}, {"(", ")"}, {"(", "1", "2", ")", "*"}, {"1", "|", "2", "*", "*", "(", "3", ")"}, {"!", "12", "34", "|", "(", ".", "5", ")"},
	} {
		text := strings.Join(signs, " ")
		want := must(t, text)
		for _, blanks := range []string{" ", "  ", "       "} {
			checkParse(t, blanks+strings.Join(signs, blanks)+blanks, want, api.OK)
			checkParse(t, strings.Join(signs, blanks)+blanks, want, api.OK)
			checkParse(t, blanks+strings.Join(signs, blanks), want, api.OK)
		}
	}
	checkParse(t, "( ) *", Empty(), api.OK)
	checkParse(t, "(    )", Empty(), api.OK)
	checkParse(t, "1 2", Cat(One(1), One(2)), api.OK)
	checkParse(t, "12", One(12), api.OK)
	checkParse(t, "1(2)", Cat(One(1), One(2)), api.OK)
	for _, blank := range []string{"\t", "\n", "\r", "\v", "\f", "\x00", "\u00a0", "\xa0", "\u2003", "\u3000"} {
		for _, s := range []string{"1" + blank + "2", blank + "1", "1" + blank, "(" + blank + ")", "1 " + blank + "* 2", blank} {
			checkParse(t, s, api.Expr{}, api.ErrSyntax)
		}
	}
}

func TestParseOfNumbers(t *testing.T) { // P17.5
	for _, s := range []string{"0", "00", "01", "007", "065535", "65536", "65540", "70000", "99999", "100000", "655350", "131071", "4294967296", "4294967297", "9223372036854775807", "9223372036854775808", "18446744073709551616", "18446744073709551617", strings.Repeat("9", 4096), strings.Repeat("1", 100), "1" + strings.Repeat("0", 4000), "0x1", "1a", "1_0", "+1", "-1", "1.0", "1e3", "1 0", "1 01", "0 1", "1 0 1", "(0)", "0*", "\u0661", "\u00b2"} {
		checkParse(t, s, api.Expr{}, api.ErrSyntax)
		checkParse(t, "1|"+s[:min(len(s), 4000)], api.Expr{}, api.ErrSyntax)
	}
	for n := 1; n <= 65535; n += 1 + n/7 {
		s := Text(One(n))
		checkParse(t, s, One(n), api.OK)
		checkParse(t, "0"+s, api.Expr{}, api.ErrSyntax)
		checkParse(t, s+"00000", api.Expr{}, api.ErrSyntax)
	}
	checkParse(t, "65535", One(65535), api.OK)
}

func TestParseOfNoTexts(t *testing.T) { // P17.5: ErrSyntax
	for _, s := range []string{
		"", " ", "    ", "*", "**", "|", "||", "(", ")", ")(", "((", "))", "|1", "1|", "1||2", "*1", "1|*", "(*)", "(1", "1)", "(1))", "((1)", "(1|)", "(|1)", "(1 2", "1 (2", "1 2)", "()(", "())", "(()", "(|)", "1 | ", " | 1", "( 1 | )", "1 * * |", "(1)(", "! !)", ".|", ".(", "(.", "1*(", "1 2 (", "((((((((((1)", "1)*",
		"a", "x", "1 a", "1a", "a1", "1+", "1?", "[1]", "{1}", "1,2", "1;", "1/2", "1=2", "\\", "^", "$", "1 & 2", "1\x002", "\xff", "é", "1 é", "\x00", "\x80", "1 ‧ 2", "∗", "·", "all", "1 or 2",
	} {
		checkParse(t, s, api.Expr{}, api.ErrSyntax)
		if _, err := modelParse(s); err != api.ErrSyntax {
			t.Errorf("the model of %q: %v", s, err)
		}
	}
	for c := range 256 {
		s := string([]byte{byte(c)})
		if strings.Contains(".!123456789", s) {
			continue
		}
		checkParse(t, s, api.Expr{}, api.ErrSyntax)
		if !strings.Contains(" *0", s) && (c < '1' || c > '9') {
			checkParse(t, "1"+s, api.Expr{}, api.ErrSyntax)
			checkParse(t, s+"*", api.Expr{}, api.ErrSyntax)
		}
	}
}

func TestParseOfLongTexts(t *testing.T) { // P17.5: MaxText bytes, and one more
	for _, n := range []int{4095, 4096, 4097, 5000, 1 << 20} {
		want, syntax := api.OK, api.ErrSyntax
		if n > 4096 {
			want, syntax = api.ErrBig, api.ErrBig
		}
		one, nothing := One(1), Nothing()
		if n > 4096 {
			one, nothing = api.Expr{}, api.Expr{}
		}
		checkParse(t, strings.Repeat(" ", n-1)+"1", one, want)
		checkParse(t, "1"+strings.Repeat(" ", n-1), one, want)
		checkParse(t, "1"+strings.Repeat("|1", (n-1)/2)+strings.Repeat(" ", (n-1)%2), one, want)
		checkParse(t, strings.Repeat("!", n), nothing, want)
		checkParse(t, strings.Repeat(" ", n), api.Expr{}, syntax)
		checkParse(t, strings.Repeat("(", n), api.Expr{}, syntax)
		checkParse(t, strings.Repeat(")", n), api.Expr{}, syntax)
		checkParse(t, strings.Repeat("1|", n/2)+strings.Repeat(" ", n%2), api.Expr{}, syntax)
		checkParse(t, strings.Repeat("\xff", n), api.Expr{}, syntax)
	}
	checkParse(t, "."+strings.Repeat("*", 4095), Star(Any()), api.OK)
	checkParse(t, strings.Repeat("()", 2048), Empty(), api.OK)
	checkParse(t, strings.Repeat("()*", 1365), Empty(), api.OK)
}

func TestParseOfDeepTexts(t *testing.T) { // P17.5: MaxDeep pairs that have Alts, and one more
	for _, n := range []int{0, 1, 2, 23, 24, 25, 26, 48, 500, 2047} {
		err := api.OK
		if n > 24 {
			err = api.ErrBig
		}
		for inner, want := range map[string]api.Expr{"1": One(1), "()": Empty(), "!": Nothing(), "1 ()": One(1), "1|2": Alt(One(1), One(2))} {
			if n > 24 {
				want = api.Expr{}
			}
			if s := brackets(n, inner); len(s) <= 4096 {
				checkParse(t, s, want, err)
				checkBoth(t, s)
			}
			// Those beside them do not count.
			if s := brackets(n, inner) + strings.Repeat("|"+brackets(min(n, 24), inner), 3); len(s) <= 4096 {
				checkParse(t, s, want, err)
			}
			if s := brackets(12, inner+"|"+brackets(12, inner)) + "|" + brackets(n, inner); len(s) <= 4096 {
				checkParse(t, s, want, err)
			}
		}
		checkParse(t, strings.Repeat("(", n+1)+"1"+strings.Repeat(")", n), api.Expr{}, api.ErrSyntax)
		checkParse(t, strings.Repeat("(", n)+"1"+strings.Repeat(")", n+1), api.Expr{}, api.ErrSyntax)
	}
	checkParse(t, brackets(24, "( )"), Empty(), api.OK)
	checkParse(t, brackets(25, "( )"), api.Expr{}, api.ErrBig)
	checkParse(t, brackets(24, "1")+brackets(24, "2"), Cat(One(1), One(2)), api.OK)
	checkParse(t, brackets(13, "1"+brackets(12, "2")+"3"), api.Expr{}, api.ErrBig)
	checkParse(t, brackets(12, "1"+brackets(12, "2")+"3"), must(t, "1 2 3"), api.OK)
	checkParse(t, strings.Repeat("(1 ", 24)+"2"+strings.Repeat(")*", 24), build(stars(24)), api.OK)
	checkParse(t, strings.Repeat("(1 ", 25)+"2"+strings.Repeat(")*", 25), api.Expr{}, api.ErrBig)
}

// stars are so many within one another: (1 (1 .. 2)*)*.
func stars(n int) *tree {
	x := one(2)
	for range n {
		x = star(cat(one(1), x))
	}
	return x
}

func TestParseOfGreatTexts(t *testing.T) { // P17.5: ErrBig, if what P17.1 makes of it, step by step, is the zero expression
	ones := func(n int) string { return strings.Repeat("1 ", n) }
	for s, want := range map[string]api.Errno{
		ones(150):                                     api.OK,
		ones(151):                                     api.ErrBig,
		ones(2000):                                    api.ErrBig,
		"(" + ones(150) + ")*":                        api.OK,
		"(" + ones(149) + "1*)*":                      api.ErrBig,
		"1* " + ones(149):                             api.OK,
		"1* 2* " + ones(148):                          api.ErrBig,
		"!" + ones(2000):                              api.OK,
		ones(150) + "!":                               api.OK,
		ones(151) + "!":                               api.ErrBig,
		ones(151) + "! | 1":                           api.ErrBig,
		"1 | " + ones(151) + "!":                      api.ErrBig,
		"(" + ones(151) + ") !":                       api.ErrBig,
		"! (" + ones(151) + ")":                       api.ErrBig,
		"(" + ones(151) + ")* ()":                     api.ErrBig,
		"(" + ones(100) + ")*" + ones(100):            api.ErrBig,
		ones(75) + "|" + ones(75):                     api.OK,
		ones(75) + "|" + ones(76):                     api.ErrBig,
		"2|" + ones(149) + "|2":                       api.OK,
		"3|2|" + ones(149):                            api.ErrBig,
		ones(150) + "|" + ones(150) + "|" + ones(150): api.OK,
		ones(150) + "|" + ones(150) + "| 2":           api.ErrBig,
		Text(written(many(150))):                      api.OK,
		Text(written(many(150))) + "|150|77":          api.OK,
		Text(written(many(150))) + "|151":             api.ErrBig,
		strings.Repeat("("+Text(written(many(150)))+")|", 3) + "7": api.OK,
	} {
		if len(s) > 4096 {
			t.Fatalf("%.40q has %d bytes", s, len(s))
		}
		if got := checkBoth(t, s); got != want {
			t.Errorf("%.40q, of %d bytes: %v, not %v", s, len(s), got, want)
		}
	}
}

func TestParseWhichError(t *testing.T) { // P17.5, R1: ErrBig of the bytes, ErrSyntax, ErrBig of what is too deep or too great
	great := strings.Repeat("1 ", 151)
	for s, want := range map[string]api.Errno{
		strings.Repeat("a", 4097):           api.ErrBig,
		strings.Repeat("a", 4096):           api.ErrSyntax,
		great + "a":                         api.ErrSyntax,
		great + ")":                         api.ErrSyntax,
		great + "|":                         api.ErrSyntax,
		great + "65536":                     api.ErrSyntax,
		"(" + great:                         api.ErrSyntax,
		brackets(25, "1") + "a":             api.ErrSyntax,
		brackets(25, "1") + ")":             api.ErrSyntax,
		brackets(25, ""):                    api.OK, // 24 of them have Alts
		brackets(26, ""):                    api.ErrBig,
		brackets(25, "1|"):                  api.ErrSyntax,
		brackets(25, "0"):                   api.ErrSyntax,
		brackets(25, "1") + " 65536":        api.ErrSyntax,
		"(" + brackets(25, "1"):             api.ErrSyntax,
		brackets(25, "1") + great:           api.ErrBig,
		brackets(25, "1") + "!":             api.ErrBig,
		brackets(25, "1") + great + " |":    api.ErrSyntax,
		strings.Repeat("(", 4096):           api.ErrSyntax,
		strings.Repeat("(", 4097):           api.ErrBig,
		brackets(2048, ""):                  api.ErrBig,
		brackets(2047, "0"):                 api.ErrSyntax,
		brackets(2048, "0"):                 api.ErrBig,
		great + strings.Repeat(" ", 4000):   api.ErrBig,
		strings.Repeat("1 ", 2047) + "01":   api.ErrSyntax,
		strings.Repeat("1 ", 2047) + "01 ":  api.ErrBig,
		strings.Repeat("1 ", 2047) + "1 ":   api.ErrBig,
		strings.Repeat("1|", 2047) + "1 ":   api.OK,
		strings.Repeat("1|", 2047) + "1  ":  api.ErrBig,
		strings.Repeat("1|", 2047) + "1|":   api.ErrSyntax,
		strings.Repeat("1|", 2047) + "1| ":  api.ErrBig,
		strings.Repeat("1|", 2047) + "1|1 ": api.ErrBig,
	} {
		if got := checkBoth(t, s); got != want {
			t.Errorf("%.40q, of %d bytes: %v, not %v", s, len(s), got, want)
		}
	}
}

func TestParseOfAllSmallTexts(t *testing.T) { // P17.5
	const signs = "()|*.!10 "
	texts, next := 0, []string{""}
	for range 6 {
		l := next
		next = nil
		for _, s := range l {
			if checkBoth(t, s) == api.OK {
				texts++
			}
			for _, c := range signs {
				next = append(next, s+string(c))
			}
		}
	}
	if texts < 5000 {
		t.Errorf("%d are texts", texts)
	}
}

// loose is a text of a term with more brackets and blanks than it needs.
func loose(r *rand.Rand, x *tree) string {
	blank := func() string { return strings.Repeat(" ", max(0, r.Intn(5)-2)) }
	s := modelText(x)
	switch x.kind {
	case api.Star:
		s = "(" + blank() + loose(r, x.a) + blank() + ")" + blank() + "*"
	case api.Cat:
		s = "(" + loose(r, x.a) + ")" + blank() + "(" + loose(r, x.b) + ")"
		if r.Intn(2) == 0 {
			s = "(" + loose(r, x.a) + ") " + loose(r, x.b)
			if x.b.is(api.Alt) {
				s = "(" + loose(r, x.a) + ")" + blank() + "(" + loose(r, x.b) + ")"
			}
		}
	case api.Alt:
		s = loose(r, x.b) + blank() + "|" + blank() + loose(r, x.a)
	}
	if r.Intn(4) == 0 {
		return blank() + "(" + s + ")" + blank()
	}
	return s
}

func TestParseOfDrawnTexts(t *testing.T) { // P17.5
	r := rand.New(rand.NewSource(10))
	said := map[api.Errno]int{}
	for _, most := range []int{2, 4, 8, 16, 40, 100, 200} {
		for range 30 + 1000/most {
			x := anyTree(r, most)
			s := loose(r, x)
			said[checkBoth(t, s)]++
			// One byte away, one more, or another one.
			for range 5 {
				i := r.Intn(len(s))
				c := string("()|*.!10 a"[r.Intn(10)])
				said[checkBoth(t, s[:i]+s[i+1:])]++
				said[checkBoth(t, s[:i]+c+s[i:])]++
				said[checkBoth(t, s[:i]+c+s[i+1:])]++
			}
		}
	}
	if said[api.OK] < 2000 || said[api.ErrSyntax] < 2000 || said[api.ErrBig] < 100 {
		t.Errorf("%v", said)
	}
}

func TestParseOfDrawnTextsSaysTheTerm(t *testing.T) { // P17.5: whatever brackets and blanks stand in them
	r := rand.New(rand.NewSource(11))
	for range 2000 {
		x := anyTree(r, 1+r.Intn(12))
		checkParse(t, loose(r, x), written(formed(x)), api.OK)
	}
}
