package regex

import (
	"cmp"
	"slices"
	"strconv"
	"strings"

	"drover/api"
)

// The model is chapter 17 word by word. Its terms are trees, held against each other part by part, and of any size.

type tree struct {
	kind, number int
	a, b         *tree
}

var (
	nothing = &tree{kind: api.Nothing}
	empty   = &tree{kind: api.Empty}
	dot     = &tree{kind: api.Any}
)

func one(n int) *tree { return &tree{kind: api.One, number: n} }

// star, cat and alt are the terms themselves, in one form or not.
func star(a *tree) *tree { return &tree{kind: api.Star, a: a} }

func cat(a, b *tree) *tree { return &tree{kind: api.Cat, a: a, b: b} }

func alt(a, b *tree) *tree { return &tree{kind: api.Alt, a: a, b: b} }

func (x *tree) is(kinds ...int) bool { return slices.Contains(kinds, x.kind) }

// size is never below what it was, however often a tree stands in another one.
func (x *tree) size() int {
	if x == nil {
		return 0
	}
	return 1 + x.a.size() + x.b.size()
}

func order(x, y *tree) int {
	if x == nil || y == nil {
		return 0
	}
	if c := cmp.Or(cmp.Compare(x.kind, y.kind), cmp.Compare(x.number, y.number)); c != 0 {
		return c
	}
	if c := order(x.a, y.a); c != 0 {
		return c
	}
	return order(x.b, y.b)
}

func modelStar(a *tree) *tree {
	if a.is(api.Nothing, api.Empty) {
		return empty
	}
	if a.is(api.Star) {
		return a
	}
	return star(a)
}

func modelCat(a, b *tree) *tree {
	if a.is(api.Nothing) || b.is(api.Nothing) {
		return nothing
	}
	if a.is(api.Empty) {
		return b
	}
	if b.is(api.Empty) {
		return a
	}
	if a.is(api.Cat) {
		return modelCat(a.a, modelCat(a.b, b))
	}
	return cat(a, b)
}

func modelAlt(a, b *tree) *tree {
	var l []*tree
	for _, x := range append(partsOf(a), partsOf(b)...) {
		place := 0
		for place < len(l) && order(l[place], x) < 0 {
			place++
		}
		if place == len(l) || order(l[place], x) > 0 {
			l = slices.Insert(l, place, x)
		}
	}
	return altOf(l)
}

func partsOf(x *tree) []*tree {
	if x.is(api.Alt) {
		return append(partsOf(x.a), partsOf(x.b)...)
	}
	if x.is(api.Nothing) {
		return nil
	}
	return []*tree{x}
}

func altOf(l []*tree) *tree {
	if len(l) == 0 {
		return nothing
	}
	if len(l) == 1 {
		return l[0]
	}
	return alt(l[0], altOf(l[1:]))
}

// formed is what the parts of x come to, joined by the three from the innermost on.
func formed(x *tree) *tree {
	switch x.kind {
	case api.Star:
		return modelStar(formed(x.a))
	case api.Cat:
		return modelCat(formed(x.a), formed(x.b))
	case api.Alt:
		return modelAlt(formed(x.a), formed(x.b))
	}
	return x
}

// inForm: a term in one form is what its own parts come to.
func inForm(x *tree) bool { return order(formed(x), x) == 0 }

// written is the writing of a term in one form; none of one that is too great.
func written(x *tree) api.Expr {
	if x == nil || x.size() > 300 {
		return api.Expr{}
	}
	return api.Expr{Nodes: rawNodes(x)}
}

func rawNodes(x *tree) []api.ExprNode {
	l := finished(x, nil)
	var nodes []api.ExprNode
	for _, y := range l {
		n := api.ExprNode{Kind: y.kind, Switch: y.number}
		if y.a != nil {
			n.A = placeOf(y.a, l)
		}
		if y.b != nil {
			n.B = placeOf(y.b, l)
		}
		nodes = append(nodes, n)
	}
	return nodes
}

func finished(x *tree, l []*tree) []*tree {
	if x == nil || placeOf(x, l) >= 0 {
		return l
	}
	return append(finished(x.b, finished(x.a, l)), x)
}

func placeOf(x *tree, l []*tree) int {
	return slices.IndexFunc(l, func(y *tree) bool { return order(x, y) == 0 })
}

// treeOf is the term that nodes say, in one form or not; nil, if they say none, or one of a size above 300.
func treeOf(nodes []api.ExprNode) *tree {
	var l []*tree
	for _, n := range nodes {
		x := &tree{kind: n.Kind, number: n.Switch}
		l = append(l, nil)
		parts := map[int]int{api.Nothing: 0, api.Empty: 0, api.Any: 0, api.One: 0, api.Star: 1, api.Cat: 2, api.Alt: 2}
		asked, ok := parts[n.Kind]
		if !ok || n.Kind == api.One && (n.Switch < 1 || n.Switch > 65535) || n.Kind != api.One && n.Switch != 0 {
			continue
		}
		if asked > 0 {
			x.a = at(l, n.A)
		}
		if asked > 1 {
			x.b = at(l, n.B)
		}
		if asked > 0 == (x.a != nil) && asked > 1 == (x.b != nil) && x.size() <= 300 {
			l[len(l)-1] = x
		}
	}
	return at(l, len(l)-1)
}

func at(l []*tree, place int) *tree {
	if place < 0 || place >= len(l) {
		return nil
	}
	return l[place]
}

func modelRight(e api.Expr) bool {
	x := treeOf(e.Nodes)
	return x != nil && inForm(x) && slices.Equal(rawNodes(x), e.Nodes)
}

func modelNullable(x *tree) bool {
	switch x.kind {
	case api.Cat:
		return modelNullable(x.a) && modelNullable(x.b)
	case api.Alt:
		return modelNullable(x.a) || modelNullable(x.b)
	}
	return x.is(api.Empty, api.Star)
}

func modelDerive(x *tree, n int) *tree {
	switch x.kind {
	case api.Any:
		return empty
	case api.One:
		if x.number == n {
			return empty
		}
	case api.Star:
		return modelCat(modelDerive(x.a, n), x)
	case api.Cat:
		left := modelCat(modelDerive(x.a, n), x.b)
		if modelNullable(x.a) {
			left = modelAlt(left, modelDerive(x.b, n))
		}
		return left
	case api.Alt:
		return modelAlt(modelDerive(x.a, n), modelDerive(x.b, n))
	}
	return nothing
}

// hasWord asks for each way in which a word may be put together.
func hasWord(x *tree, word []int) bool {
	switch x.kind {
	case api.Empty:
		return len(word) == 0
	case api.Any:
		return len(word) == 1
	case api.One:
		return len(word) == 1 && word[0] == x.number
	case api.Star:
		return len(word) == 0 || splits(word, 1, func(first, rest []int) bool { return hasWord(x.a, first) && hasWord(x, rest) })
	case api.Cat:
		return splits(word, 0, func(first, rest []int) bool { return hasWord(x.a, first) && hasWord(x.b, rest) })
	case api.Alt:
		return hasWord(x.a, word) || hasWord(x.b, word)
	}
	return false
}

func splits(word []int, least int, good func(first, rest []int) bool) bool {
	for n := least; n <= len(word); n++ {
		if good(word[:n], word[n:]) {
			return true
		}
	}
	return false
}

func modelText(x *tree) string {
	inner := func(y *tree, kinds ...int) string {
		if y.is(kinds...) {
			return "(" + modelText(y) + ")"
		}
		return modelText(y)
	}
	switch x.kind {
	case api.Star:
		return inner(x.a, api.Cat, api.Alt) + "*"
	case api.Cat:
		return strings.Join([]string{inner(x.a, api.Alt), inner(x.b, api.Alt)}, " ")
	case api.Alt:
		return strings.Join([]string{modelText(x.a), modelText(x.b)}, "|")
	}
	return map[int]string{api.Nothing: "!", api.Empty: "()", api.Any: ".", api.One: strconv.Itoa(x.number)}[x.kind]
}

// item is a sign, or what was read already.
type item struct {
	sign byte // 0: none
	x    *tree
	big  bool
	deep int
}

// modelParse takes the innermost brackets first, until there are none.
func modelParse(s string) (*tree, api.Errno) {
	if len(s) > 4096 {
		return nil, api.ErrBig
	}
	l, ok := items(s)
	for ok && slices.ContainsFunc(l, isSign(')')) {
		last := slices.IndexFunc(l, isSign(')'))
		first := last
		for first >= 0 && l[first].sign != '(' {
			first--
		}
		if first < 0 {
			return nil, api.ErrSyntax
		}
		whole := item{x: empty}
		if last > first+1 {
			whole, ok = flat(l[first+1 : last])
			whole.deep++
		}
		l = slices.Replace(l, first, last+1, whole)
	}
	if !ok {
		return nil, api.ErrSyntax
	}
	whole, ok := flat(l)
	switch {
	case !ok:
		return nil, api.ErrSyntax
	case whole.big || whole.deep > 24:
		return nil, api.ErrBig
	}
	return whole.x, api.OK
}

func isSign(sign byte) func(item) bool {
	return func(i item) bool { return i.sign == sign }
}

func items(s string) ([]item, bool) {
	var l []item
	for i := 0; i < len(s); i++ {
		switch c := s[i]; {
		case c == ' ':
		case c == '.':
			l = append(l, item{x: dot})
		case c == '!':
			l = append(l, item{x: nothing})
		case strings.IndexByte("()|*", c) >= 0:
			l = append(l, item{sign: c})
		case c >= '1' && c <= '9':
			n := 0
			for ; i < len(s) && s[i] >= '0' && s[i] <= '9'; i++ {
				n = min(10*n+int(s[i]-'0'), 65536)
			}
			i--
			l = append(l, item{x: one(n)})
			if n > 65535 {
				return nil, false
			}
		default:
			return nil, false
		}
	}
	return l, true
}

// flat reads items among which there are no brackets.
func flat(l []item) (item, bool) {
	var whole, row, last item
	for _, i := range append(slices.Clone(l), item{sign: '|'}) {
		switch {
		case i.sign == 0:
			row, last = row.with(last, modelCat), i
		case i.sign == '*' && last.x != nil:
			last.x = modelStar(last.x)
			last.big = last.big || last.x.size() > 300
		case i.sign == '|' && last.x != nil:
			whole = whole.with(row.with(last, modelCat), modelAlt)
			row, last = item{}, item{}
		default:
			return item{}, false
		}
	}
	return whole, true
}

// with joins what was read so far, if there is any, with what stands behind it.
func (i item) with(next item, join func(a, b *tree) *tree) item {
	if i.x == nil {
		return next
	}
	x := join(i.x, next.x)
	return item{x: x, big: i.big || next.big || x.size() > 300, deep: max(i.deep, next.deep)}
}
