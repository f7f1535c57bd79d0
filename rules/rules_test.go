// Package rules has tests alone: that the program's code keeps to the language that it may be written in.
package rules

import (
	"bytes"
	"go/ast"
	"go/format"
	"go/parser"
	"go/token"
	"os"
	"path/filepath"
	"slices"
	"strings"
	"testing"
)

const longest = 60 // lines of a function

// library are the packages of the library that may be imported.
var library = []string{
	"bytes", "cmp", "container/heap", "errors", "iter", "maps", "math", "math/bits", "slices", "sort",
	"strconv", "strings", "sync", "sync/atomic", "unicode", "unicode/utf8",
}

// layers are the packages that are called from outside; what they import is the program, too.
var layers = []string{
	"api", "num", "coins", "gauge", "codec", "store", "plan", "hold", "share", "bank", "person", "pool", "yield",
	"line", "hop", "stake", "slash", "claw", "msg", "app", "view", "judge", "desk",
}

func TestLanguage(t *testing.T) {
	folders := slices.Clone(layers)
	for i := 0; i < len(folders); i++ {
		files, _ := filepath.Glob(filepath.Join("..", folders[i], "*.go"))
		if len(files) == 0 {
			t.Errorf("%s: no files", folders[i])
		}
		for _, path := range files {
			if strings.HasSuffix(path, "_test.go") {
				continue
			}
			text, err := os.ReadFile(path)
			if err != nil {
				t.Fatal(err)
			}
			own, l := faults(text)
			for _, fault := range l {
				t.Errorf("%s: %s", path, fault)
			}
			for _, folder := range own {
				if !slices.Contains(folders, folder) {
					folders = append(folders, folder)
				}
			}
		}
	}
}

// TestFaults holds the rules against code that breaks them, so that one that no longer tells anything is seen.
func TestFaults(t *testing.T) {
	if _, l := faults([]byte("package x\n\nimport (\n\t\"errors\"\n\n\t\"jointure/api\"\n)\n\nvar err = errors.New(\"x\")\n\nvar table = [2]api.Num{{1}, {2}}\n")); len(l) > 0 {
		t.Error(l)
	}
	for _, code := range []string{
		"package x\n\nimport \"fmt\"\n",
		"package x\n\nimport \"unsafe\"\n",
		"package x\n\nimport \"example.com/y\"\n",
		"package x\n\n//go:noinline\nfunc f() {}\n",
		"//go:build linux\n\npackage x\n",
		"package x\n\nfunc f() { println(1) }\n",
		"package x\n\nfunc  f() {}\n",
		"package x\n\nvar n int\n",
		"package x\n\nvar x = 1.5\n",
		"package x\n\nvar x = 2i\n",
		"package x\n\nvar x = \"text\"\n",
		"package x\n\nvar m = map[int]int{}\n",
		"package x\n\nvar f = func() {}\n",
		"package x\n\nvar p = &struct{}{}\n",
		"package x\n\nvar n = len(\"x\")\n",
		"package x\n\nfunc f() {\n" + strings.Repeat("\tf()\n", longest) + "}\n",
	} {
		if _, l := faults([]byte(code)); len(l) == 0 {
			t.Errorf("no fault is told of:\n%s", code)
		}
	}
}

// faults are the module's own folders that a file imports, and the rules that it breaks.
func faults(text []byte) (own, l []string) {
	set := token.NewFileSet()
	file, err := parser.ParseFile(set, "", text, parser.ParseComments)
	if err != nil {
		return nil, []string{err.Error()}
	}
	if laid, err := format.Source(text); err != nil || !bytes.Equal(laid, text) {
		l = append(l, "not gofmt's layout")
	}
	for _, i := range file.Imports {
		path := strings.Trim(i.Path.Value, `"`)
		if folder, ok := strings.CutPrefix(path, "jointure/"); ok {
			own = append(own, folder)
		} else if !slices.Contains(library, path) {
			l = append(l, "import of "+path)
		}
	}
	for _, group := range file.Comments {
		for _, c := range group.List {
			if strings.HasPrefix(c.Text, "//go:") || strings.HasPrefix(c.Text, "// +build") {
				l = append(l, c.Text)
			}
		}
	}
	for _, d := range file.Decls {
		l = append(l, ofDecl(set, d)...)
	}
	return own, l
}

// ofDecl are the faults of what stands at package level.
func ofDecl(set *token.FileSet, d ast.Decl) []string {
	var l []string
	switch d := d.(type) {
	case *ast.FuncDecl:
		if set.Position(d.End()).Line-set.Position(d.Pos()).Line > longest {
			l = append(l, d.Name.Name+" is too long")
		}
	case *ast.GenDecl:
		for _, s := range d.Specs {
			if v, ok := s.(*ast.ValueSpec); ok && d.Tok == token.VAR && !mayStand(v) {
				l = append(l, "variable "+v.Names[0].Name)
			}
		}
	}
	ast.Inspect(d, func(n ast.Node) bool {
		if c, ok := n.(*ast.CallExpr); ok {
			if f, ok := c.Fun.(*ast.Ident); ok && (f.Name == "print" || f.Name == "println") {
				l = append(l, f.Name)
			}
		}
		return true
	})
	return l
}

// mayStand is whether a variable may stand at package level: an error made by errors.New, or a table that is written out.
func mayStand(v *ast.ValueSpec) bool {
	for _, x := range v.Values {
		switch x := x.(type) {
		case *ast.CompositeLit:
			if _, isMap := x.Type.(*ast.MapType); isMap {
				return false
			}
		case *ast.CallExpr:
			f, ok := x.Fun.(*ast.SelectorExpr)
			if !ok || f.Sel.Name != "New" {
				return false
			}
		case *ast.BasicLit:
			if x.Kind != token.INT && x.Kind != token.CHAR {
				return false
			}
		default:
			return false
		}
	}
	return len(v.Values) > 0
}
