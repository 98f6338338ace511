package rules

import (
	"bytes"
	"go/ast"
	"go/format"
	"go/parser"
	"go/token"
	"io/fs"
	"os"
	"path/filepath"
	"slices"
	"strconv"
	"strings"
	"testing"
)

// layers is DOC.md's map: each layer, and what it stands on.
var layers = map[string]string{
	"nums":   "api",
	"sum":    "",
	"frame":  "api nums sum",
	"field":  "api",
	"match":  "api field nums",
	"act":    "api field nums",
	"instr":  "act api nums",
	"wire":   "act api instr match nums",
	"meter":  "api",
	"group":  "act api",
	"table":  "api field instr match",
	"pipe":   "act api field frame group meter table",
	"device": "api field frame group meter pipe table wire",
	"topo":   "api",
	"cost":   "api",
	"pred":   "api",
	"regex":  "api",
	"nfa":    "api regex",
	"dfa":    "api nfa",
	"lang":   "api pred regex",
	"prod":   "api cost dfa topo",
	"plan":   "api dfa prod topo",
	"code":   "api match plan topo wire",
	"net":    "api device frame topo",
	"maker":  "api code dfa field frame lang net nfa plan pred topo",
}

// library is LANGUAGE.md's rule 1.
var library = strings.Fields("bytes cmp container/heap errors iter maps math math/bits slices sort strconv strings sync sync/atomic unicode unicode/utf8")

// maxLines is rule 9's, "some 60".
const maxLines = 60

// source is a file of the program; what tests it is left out.
type source struct {
	path, folder string
	text         []byte
	set          *token.FileSet
	file         *ast.File
}

func sources(t *testing.T) []source {
	t.Helper()
	var all []source
	err := filepath.WalkDir("..", func(path string, d fs.DirEntry, err error) error {
		if err != nil {
			return err
		}
		if d.IsDir() && (d.Name() == ".git" || d.Name() == "sharedtests") {
			return filepath.SkipDir
		}
		if d.IsDir() || !strings.HasSuffix(path, ".go") || strings.HasSuffix(path, "_test.go") {
			return nil
		}
		all = append(all, parse(t, path))
		return nil
	})
	if err != nil {
		t.Fatal(err)
	}
	return all
}

func parse(t *testing.T, path string) source {
	t.Helper()
	text, err := os.ReadFile(path)
	if err != nil {
		t.Fatal(err)
	}
	return parseText(t, path, text)
}

func parseText(t *testing.T, path string, text []byte) source {
	t.Helper()
	set := token.NewFileSet()
	file, err := parser.ParseFile(set, path, text, parser.ParseComments)
	if err != nil {
		t.Fatal(err)
	}
	return source{path, filepath.Base(filepath.Dir(path)), text, set, file}
}

func TestLanguage(t *testing.T) { // LANGUAGE.md
	for _, s := range sources(t) {
		for _, fault := range faults(s) {
			t.Errorf("%s: %s", s.path, fault)
		}
	}
}

// TestFaultsAreSeen shows that the look at the code is not blind.
func TestFaultsAreSeen(t *testing.T) {
	for text, want := range map[string]string{
		"package nums\n\nimport \"fmt\"\n":                                     "imports fmt",
		"package nums\n\nimport \"drover/field\"\n":                            "imports drover/field",
		"package nums\n\nimport _ \"drover/rules/x\"\n":                        "",
		"package nums\n\nvar m = map[int]int{}\n":                              "variable m",
		"package nums\n\nvar x int\n":                                          "variable x",
		"package nums\n\nvar x = f()\n":                                        "variable x",
		"package nums\n\nvar x = 1.5\n":                                        "variable x",
		"package nums\n\nvar x = \"text\"\n":                                   "variable x",
		"package nums\n\nvar x = [2]int{1, 2}\n":                               "",
		"package nums\n\nimport \"errors\"\n\nvar errX = errors.New(\"x\")\n":  "",
		"//go:build linux\n\npackage nums\n":                                   "a line //go:build linux",
		"package nums\n\nfunc f() { println(1) }\n":                            "prints",
		"package nums\n\nfunc  f() {}\n":                                       "layout",
		"package nums\n\nfunc init() {}\n":                                     "func init",
		"package nums\n\nfunc f(m map[int]bool) {}\n":                          "a map of bool",
		"package nums\n\nfunc f(m map[int]string) {}\n":                        "a map of string",
		"package nums\n\nfunc f(m map[string]struct{}) {}\n":                   "",
		"package nums\n\nfunc f() {\n" + strings.Repeat("\tf()\n", 60) + "}\n": "62 lines",
	} {
		got := strings.Join(faults(parseText(t, "../nums/x.go", []byte(text))), "; ")
		if !strings.Contains(got, want) || (want == "") != (got == "") {
			t.Errorf("%q: %q", text, got)
		}
	}
}

func faults(s source) []string {
	return slices.Concat(importFaults(s), commentFaults(s), variableFaults(s), functionFaults(s), layoutFaults(s))
}

// importFaults lets a layer take the library, the layers that it stands on, and packages beside the layers.
func importFaults(s source) []string {
	var l []string
	for _, x := range s.file.Imports {
		path, _ := strconv.Unquote(x.Path.Value)
		name, own := strings.CutPrefix(path, "drover/")
		_, isLayer := layers[name]
		below, inLayer := layers[s.folder]
		switch {
		case !own && !slices.Contains(library, path),
			own && inLayer && isLayer && !slices.Contains(strings.Fields(below), name):
			l = append(l, "imports "+path)
		}
	}
	return l
}

func commentFaults(s source) []string {
	var l []string
	for _, group := range s.file.Comments {
		for _, c := range group.List {
			if strings.HasPrefix(c.Text, "//go:") || strings.HasPrefix(c.Text, "// +build") {
				l = append(l, "a line "+c.Text)
			}
		}
	}
	return l
}

// variableFaults is about rules 3a and 3b.
func variableFaults(s source) []string {
	var l []string
	for _, d := range s.file.Decls {
		g, ok := d.(*ast.GenDecl)
		if !ok || g.Tok != token.VAR {
			continue
		}
		for _, spec := range g.Specs {
			v := spec.(*ast.ValueSpec)
			for i, name := range v.Names {
				if i >= len(v.Values) || !mayStand(v.Values[i]) {
					l = append(l, "variable "+name.Name)
				}
			}
		}
	}
	return l
}

func mayStand(x ast.Expr) bool {
	switch x := x.(type) {
	case *ast.BasicLit:
		return x.Kind == token.INT || x.Kind == token.CHAR
	case *ast.UnaryExpr:
		return x.Op == token.SUB && mayStand(x.X)
	case *ast.Ident:
		return x.Name == "true" || x.Name == "false"
	case *ast.CompositeLit:
		_, isMap := x.Type.(*ast.MapType)
		return !isMap
	case *ast.CallExpr:
		f, ok := x.Fun.(*ast.SelectorExpr)
		return ok && f.Sel.Name == "New" && isNamed(f.X, "errors")
	}
	return false
}

func isNamed(x ast.Expr, name string) bool {
	id, ok := x.(*ast.Ident)
	return ok && id.Name == name
}

func functionFaults(s source) []string {
	var l []string
	ast.Inspect(s.file, func(n ast.Node) bool {
		switch n := n.(type) {
		case *ast.FuncDecl:
			if n.Recv == nil && n.Name.Name == "init" {
				l = append(l, "func init")
			}
			if lines := s.set.Position(n.End()).Line - s.set.Position(n.Pos()).Line + 1; lines > maxLines {
				l = append(l, n.Name.Name+" has "+strconv.Itoa(lines)+" lines")
			}
		case *ast.CallExpr:
			if isNamed(n.Fun, "print") || isNamed(n.Fun, "println") {
				l = append(l, "prints")
			}
		case *ast.MapType: // rule 3, of all such maps
			for _, name := range []string{"bool", "string"} {
				if isNamed(n.Value, name) {
					l = append(l, "a map of "+name)
				}
			}
		}
		return true
	})
	return l
}

func layoutFaults(s source) []string {
	if want, err := format.Source(s.text); err != nil || !bytes.Equal(want, s.text) {
		return []string{"is not in gofmt's layout"}
	}
	return nil
}

func TestFolders(t *testing.T) { // all layers are there, and nothing but Go files beside them
	for name := range layers {
		files, err := os.ReadDir(filepath.Join("..", name))
		if err != nil || len(files) == 0 {
			t.Errorf("%s: %v", name, err)
		}
		for _, f := range files {
			if !strings.HasSuffix(f.Name(), ".go") {
				t.Errorf("%s holds %s", name, f.Name())
			}
		}
	}
}

func TestModule(t *testing.T) { // no outside package
	text, err := os.ReadFile("../go.mod")
	if err != nil || string(text) != "module drover\n\ngo 1.27\n" {
		t.Errorf("%q %v", text, err)
	}
}
