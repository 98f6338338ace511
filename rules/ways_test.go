package rules

import (
	"go/ast"
	"go/importer"
	"go/parser"
	"go/token"
	"go/types"
	"path/filepath"
	"slices"
	"strings"
	"testing"
)

// ways is DOC.md's section 'Ways', of the layers that are built.
var ways = map[string]string{
	"field": "range-integer",
}

func TestWays(t *testing.T) {
	for name, wanted := range ways {
		p := newProject()
		files, err := p.read(name)
		if err != nil {
			t.Fatal(err)
		}
		found := waysOf(t, p, files)
		for _, way := range strings.Fields(wanted) {
			if !slices.Contains(found, way) {
				t.Errorf("%s: nothing goes by the way %s", name, way)
			}
		}
	}
}

// TestWaysAreSeen shows that the look for ways takes none for another.
func TestWaysAreSeen(t *testing.T) {
	for text, want := range map[string]string{
		"func f(l []int) {\n\tfor range l {\n\t}\n}":       "",
		"func f(l []int) {\n\tfor range len(l) {\n\t}\n}":  "range-integer",
		"func f(s string) {\n\tfor range s {\n\t}\n}":      "",
		"func f(n uint8) {\n\tfor range n {\n\t}\n}":       "range-integer",
		"func f(m map[int]int) {\n\tfor range m {\n\t}\n}": "",
		"func f() {\n\tfor i := 0; i < 9; i++ {\n\t}\n}":   "",
	} {
		p := newProject()
		f, err := parser.ParseFile(p.set, "x.go", "package x\n\n"+text+"\n", 0)
		if err != nil {
			t.Fatal(err)
		}
		if got := strings.Join(waysOf(t, p, []*ast.File{f}), " "); got != want {
			t.Errorf("%q: %q, not %q", text, got, want)
		}
	}
}

func waysOf(t *testing.T, p *project, files []*ast.File) []string {
	t.Helper()
	if _, err := p.check("drover/x", files); err != nil {
		t.Fatal(err)
	}
	return p.ways(files)
}

// project is code that is read and checked from its folders; the library is taken as it is installed.
type project struct {
	set     *token.FileSet
	info    *types.Info
	library types.Importer
	known   map[string]*types.Package
}

func newProject() *project {
	set := token.NewFileSet()
	info := &types.Info{Types: map[ast.Expr]types.TypeAndValue{}}
	return &project{set, info, importer.ForCompiler(set, "source", nil), map[string]*types.Package{}}
}

// Import makes it an importer of its own packages.
func (p *project) Import(path string) (*types.Package, error) {
	name, own := strings.CutPrefix(path, "drover/")
	switch {
	case !own:
		return p.library.Import(path)
	case p.known[path] != nil:
		return p.known[path], nil
	}
	files, err := p.read(name)
	if err != nil {
		return nil, err
	}
	p.known[path], err = p.check(path, files)
	return p.known[path], err
}

func (p *project) read(name string) ([]*ast.File, error) {
	paths, err := filepath.Glob(filepath.Join("..", name, "*.go"))
	if err != nil {
		return nil, err
	}
	var files []*ast.File
	for _, path := range paths {
		if strings.HasSuffix(path, "_test.go") {
			continue
		}
		f, err := parser.ParseFile(p.set, path, nil, 0)
		if err != nil {
			return nil, err
		}
		files = append(files, f)
	}
	return files, nil
}

func (p *project) check(path string, files []*ast.File) (*types.Package, error) {
	config := types.Config{Importer: p}
	return config.Check(path, p.set, files, p.info)
}

// ways are those of some files, each once.
func (p *project) ways(files []*ast.File) []string {
	var found []string
	for _, f := range files {
		ast.Inspect(f, func(n ast.Node) bool {
			if x, ok := n.(*ast.RangeStmt); ok && isInteger(p.info.Types[x.X].Type) {
				found = append(found, "range-integer")
			}
			return true
		})
	}
	slices.Sort(found)
	return slices.Compact(found)
}

func isInteger(t types.Type) bool {
	if t == nil {
		return false
	}
	b, ok := t.Underlying().(*types.Basic)
	return ok && b.Info()&types.IsInteger != 0
}
