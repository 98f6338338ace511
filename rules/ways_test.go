package rules

import (
	"go/ast"
	"go/importer"
	"go/parser"
	"go/token"
	"go/types"
	"path/filepath"
	"slices"
	"strings"
	"testing"
)

// ways is DOC.md's section 'Ways', of the layers that are built.
var ways = map[string]string{
	"field": "range-integer",
	"match": "variadic struct-compared",
	"act":   "variadic",
	"group": "map range-map",
	"topo":  "variadic float",
	"cost":  "float variadic closure",
	"pred":  "array array-compared closure variadic label",
	"regex": "map closure fallthrough",
}

func TestWays(t *testing.T) {
	for name, wanted := range ways {
		p := newProject()
		files, err := p.read(name)
		if err != nil {
			t.Fatal(err)
		}
		found := waysOf(t, p, files)
		for _, way := range strings.Fields(wanted) {
			if !slices.Contains(found, way) {
				t.Errorf("%s: nothing goes by the way %s", name, way)
			}
		}
	}
}

// TestWaysAreSeen shows that the look for ways takes none for another.
func TestWaysAreSeen(t *testing.T) {
	for text, want := range map[string]string{
		"func f(l []int) {\n\tfor range l {\n\t}\n}":                                        "",
		"func f(l []int) {\n\tfor range len(l) {\n\t}\n}":                                   "range-integer",
		"func f(s string) {\n\tfor range s {\n\t}\n}":                                       "",
		"func f(n uint8) {\n\tfor range n {\n\t}\n}":                                        "range-integer",
		"func f(m map[int]int) {\n\tfor range m {\n\t}\n}":                                  "map range-map",
		"func f(m map[int]int) int {\n\treturn m[1]\n}":                                     "map",
		"type m map[int]int\n\nfunc f(x m) {\n\tfor range x {\n\t}\n}":                      "map range-map",
		"import \"maps\"\n\nfunc f(m map[int]int) {\n\tfor range maps.Keys(m) {\n\t}\n}":    "map range-map",
		"import \"maps\"\n\nfunc f(m map[int]int) map[int]int {\n\treturn maps.Clone(m)\n}": "map",
		"func f(g func(func(int) bool)) {\n\tfor range g {\n\t}\n}":                         "",
		"func f() {\n\tfor i := 0; i < 9; i++ {\n\t}\n}":                                    "",
		"func f(l ...int) {}":                                                                               "variadic",
		"func f(l []int) {}":                                                                                "",
		"func f(l []int) {\n\tf(append(l, l...))\n}":                                                        "",
		"var a = [...]int{1}":                                                                               "array",
		"func f(l []int) {\n\tfor range l[:1] {\n\t}\n}":                                                    "",
		"func f(a [3]int) int {\n\treturn a[0]\n}":                                                          "array",
		"type r [3]int\n\nfunc f(a, b r) bool {\n\treturn a[0] == b[0]\n}":                                  "array",
		"func f(a, b [3]int) bool {\n\treturn a == b\n}":                                                    "array array-compared",
		"type r [3]int\n\nfunc f(a, b r) bool {\n\treturn a != b\n}":                                        "array array-compared",
		"func f(a, b *[3]int) bool {\n\treturn a == b\n}":                                                   "array",
		"import \"slices\"\n\nfunc f(l [][3]int) bool {\n\treturn slices.Contains(l, l[0])\n}":              "array array-compared",
		"func f() {\nl:\n\tfor {\n\t\tfor {\n\t\t\tbreak l\n\t\t}\n\t}\n}":                                  "label",
		"func f() {\nl:\n\tfor {\n\t\tcontinue l\n\t}\n}":                                                   "",
		"func f() {\n\tfor {\n\t\tbreak\n\t}\n}":                                                            "",
		"func f() {\nl:\n\tgoto l\n}":                                                                       "",
		"func f(n int) {\n\tswitch n {\n\tcase 1:\n\t\tfallthrough\n\tcase 2:\n\t}\n}":                      "fallthrough",
		"func f(n int) {\n\tswitch n {\n\tcase 1:\n\t\tbreak\n\tcase 2:\n\t}\n}":                            "",
		"func f(a, b struct{ x int }) bool {\n\treturn a == b\n}":                                           "struct-compared",
		"func f(a, b struct{ x int }) bool {\n\treturn a != b\n}":                                           "struct-compared",
		"func f(a, b struct{ x int }) bool {\n\treturn a.x == b.x\n}":                                       "",
		"func f(a, b *struct{ x int }) bool {\n\treturn a == b\n}":                                          "",
		"type s struct{ x int }\n\nfunc f(a, b s) bool {\n\treturn a == b\n}":                               "struct-compared",
		"import \"slices\"\n\nfunc f(l []struct{ x int }) bool {\n\treturn slices.Contains(l, l[0])\n}":     "struct-compared",
		"import \"slices\"\n\nfunc f(l []int) bool {\n\treturn slices.Contains(l, l[0])\n}":                 "",
		"import \"slices\"\n\nfunc f(l []struct{ x int }) []struct{ x int } {\n\treturn slices.Clone(l)\n}": "",
		"func f(x float64) float64 {\n\treturn x\n}":                                                        "float",
		"func f(l []float32) bool {\n\treturn l[0] < 1\n}":                                                  "float",
		"type c float64\n\nfunc f(x c) c {\n\treturn x\n}":                                                  "float",
		"func f(n int) float64 {\n\treturn 0\n}":                                                            "",
		"func f() int {\n\treturn 2.0\n}":                                                                   "",
		"func f(x complex128) complex128 {\n\treturn x\n}":                                                  "",
		"func f(n int) func() int {\n\treturn func() int { return n }\n}":                                   "closure",
		"func f(g func() int) func() int {\n\treturn g\n}":                                                  "",
		"func g() {}\n\nfunc f() func() {\n\treturn g\n}":                                                   "",
	} {
		p := newProject()
		f, err := parser.ParseFile(p.set, "x.go", "package x\n\n"+text+"\n", 0)
		if err != nil {
			t.Fatal(err)
		}
		if got := strings.Join(waysOf(t, p, []*ast.File{f}), " "); got != want {
			t.Errorf("%q: %q, not %q", text, got, want)
		}
	}
}

func waysOf(t *testing.T, p *project, files []*ast.File) []string {
	t.Helper()
	if _, err := p.check("drover/x", files); err != nil {
		t.Fatal(err)
	}
	return p.ways(files)
}

// project is code that is read and checked from its folders; the library is taken as it is installed.
type project struct {
	set     *token.FileSet
	info    *types.Info
	library types.Importer
	known   map[string]*types.Package
}

func newProject() *project {
	set := token.NewFileSet()
	info := &types.Info{
		Types:     map[ast.Expr]types.TypeAndValue{},
		Uses:      map[*ast.Ident]types.Object{},
		Instances: map[*ast.Ident]types.Instance{},
	}
	return &project{set, info, importer.ForCompiler(set, "source", nil), map[string]*types.Package{}}
}

// Import makes it an importer of its own packages.
func (p *project) Import(path string) (*types.Package, error) {
	name, own := strings.CutPrefix(path, "drover/")
	switch {
	case !own:
		return p.library.Import(path)
	case p.known[path] != nil:
		return p.known[path], nil
	}
	files, err := p.read(name)
	if err != nil {
		return nil, err
	}
	p.known[path], err = p.check(path, files)
	return p.known[path], err
}

func (p *project) read(name string) ([]*ast.File, error) {
	paths, err := filepath.Glob(filepath.Join("..", name, "*.go"))
	if err != nil {
		return nil, err
	}
	var files []*ast.File
	for _, path := range paths {
		if strings.HasSuffix(path, "_test.go") {
			continue
		}
		f, err := parser.ParseFile(p.set, path, nil, 0)
		if err != nil {
			return nil, err
		}
		files = append(files, f)
	}
	return files, nil
}

func (p *project) check(path string, files []*ast.File) (*types.Package, error) {
	config := types.Config{Importer: p}
	return config.Check(path, p.set, files, p.info)
}

// ways are those of some files, each once.
func (p *project) ways(files []*ast.File) []string {
	var found []string
	for _, f := range files {
		ast.Inspect(f, func(n ast.Node) bool {
			if way := p.way(n); way != "" {
				found = append(found, way)
			}
			return true
		})
	}
	slices.Sort(found)
	return slices.Compact(found)
}

// way is the one that a node goes by; "": none that is looked for.
func (p *project) way(n ast.Node) string {
	switch x := n.(type) {
	case *ast.RangeStmt:
		switch t := p.info.Types[x.X].Type; {
		case isInteger(t):
			return "range-integer"
		case isMap(t):
			return "range-map"
		}
	case *ast.MapType:
		return "map"
	case *ast.FuncLit:
		return "closure"
	case *ast.Ellipsis:
		// In the length of an array it has no element.
		if x.Elt != nil {
			return "variadic"
		}
	case *ast.ArrayType:
		// A slice's type has no length.
		if x.Len != nil {
			return "array"
		}
	case *ast.BranchStmt:
		switch {
		case x.Tok == token.BREAK && x.Label != nil:
			return "label"
		case x.Tok == token.FALLTHROUGH:
			return "fallthrough"
		}
	case *ast.BinaryExpr:
		switch t := p.info.Types[x.X].Type; {
		case x.Op != token.EQL && x.Op != token.NEQ:
		case isStruct(t):
			return "struct-compared"
		case isArray(t):
			return "array-compared"
		}
	case *ast.Ident:
		switch {
		case p.compares(x, isStruct):
			return "struct-compared"
		case p.compares(x, isArray):
			return "array-compared"
		case p.goesThroughMap(x):
			return "range-map"
		}
	}
	if x, ok := n.(ast.Expr); ok && p.isFloatValue(x) {
		return "float"
	}
	return ""
}

// isFloatValue is not about constants, which may be written as floats and used as integers.
func (p *project) isFloatValue(x ast.Expr) bool {
	v := p.info.Types[x]
	return v.IsValue() && v.Value == nil && isFloat(v.Type)
}

// compares is whether a name is that of a generic function which is made for such things that it compares.
func (p *project) compares(x *ast.Ident, such func(types.Type) bool) bool {
	made, ok := p.info.Instances[x]
	if !ok {
		return false
	}
	f, ok := p.info.Uses[x].(*types.Func)
	if !ok {
		return false
	}
	parameters := f.Signature().TypeParams()
	for i := range parameters.Len() {
		if parameters.At(i).Constraint().Underlying().(*types.Interface).IsComparable() && such(made.TypeArgs.At(i)) {
			return true
		}
	}
	return false
}

// goesThroughMap is whether a name is that of a function of the library which goes through a map.
func (p *project) goesThroughMap(x *ast.Ident) bool {
	f, ok := p.info.Uses[x].(*types.Func)
	return ok && slices.Contains([]string{"maps.All", "maps.Keys", "maps.Values"}, f.FullName())
}

func isMap(t types.Type) bool {
	if t == nil {
		return false
	}
	_, ok := t.Underlying().(*types.Map)
	return ok
}

func isInteger(t types.Type) bool {
	if t == nil {
		return false
	}
	b, ok := t.Underlying().(*types.Basic)
	return ok && b.Info()&types.IsInteger != 0
}

func isFloat(t types.Type) bool {
	b, ok := t.Underlying().(*types.Basic)
	return ok && b.Info()&types.IsFloat != 0
}

func isStruct(t types.Type) bool {
	if t == nil {
		return false
	}
	_, ok := t.Underlying().(*types.Struct)
	return ok
}

func isArray(t types.Type) bool {
	if t == nil {
		return false
	}
	_, ok := t.Underlying().(*types.Array)
	return ok
}
