// Package language has nothing but this test: the program imports what ../shared/LANGUAGE.md lets, asks nothing of the compiler, has short functions, and at package level no variable but tables and errors.
package language

import (
	"go/ast"
	"go/parser"
	"go/token"
	"os"
	"path/filepath"
	"slices"
	"strconv"
	"strings"
	"testing"
)

var allowed = strings.Fields("bytes cmp container/heap errors iter maps math math/bits slices sort strconv strings sync sync/atomic unicode unicode/utf8")

// A function has so many lines at most.
const longest = 60

var layers = strings.Fields("utf class pair fold base explicit strip seq weak brack neutral level line order token tree show deriv nfa sim dfa scan norm frag tour balance swap find")

// TestProgram goes from the layers, and from what their tests lean on, to all that they import of the project, so that packages added later are looked at, too.
func TestProgram(t *testing.T) {
	work := append(slices.Clone(layers), "sample")
	seen := map[string]bool{}
	for len(work) > 0 {
		p := work[0]
		work = work[1:]
		if !seen[p] {
			seen[p] = true
			work = append(work, lookAt(t, p)...)
		}
	}
}

// lookAt: the project's packages that one imports.
func lookAt(t *testing.T, p string) []string {
	t.Helper()
	files, err := os.ReadDir(filepath.Join("..", filepath.FromSlash(p)))
	if err != nil {
		t.Fatal(err)
	}
	var out []string
	for _, f := range files {
		name := filepath.Join("..", filepath.FromSlash(p), f.Name())
		switch ext := filepath.Ext(name); {
		case strings.HasSuffix(name, "_test.go"):
		case ext == ".go":
			out = append(out, lookAtFile(t, name)...)
		case slices.Contains([]string{".s", ".S", ".c", ".h", ".syso"}, ext):
			t.Errorf("%s: no Go", name)
		}
	}
	return out
}

func lookAtFile(t *testing.T, name string) []string {
	t.Helper()
	files := token.NewFileSet()
	f, err := parser.ParseFile(files, name, nil, parser.ParseComments)
	if err != nil {
		t.Fatal(err)
	}
	var out []string
	for _, i := range f.Imports {
		path, _ := strconv.Unquote(i.Path.Value)
		if own, ok := strings.CutPrefix(path, "ductus/"); ok {
			out = append(out, own)
		} else if !slices.Contains(allowed, path) {
			t.Errorf("%s: imports %s", name, path)
		}
	}
	lookAtRemarks(t, name, f)
	for _, d := range f.Decls {
		switch x := d.(type) {
		case *ast.FuncDecl:
			if n := files.Position(x.End()).Line - files.Position(x.Pos()).Line + 1; n > longest {
				t.Errorf("%s: %s has %d lines", name, x.Name.Name, n)
			}
		case *ast.GenDecl:
			lookAtVariables(t, name, x)
		}
	}
	return out
}

func lookAtRemarks(t *testing.T, name string, f *ast.File) {
	t.Helper()
	for _, g := range f.Comments {
		for _, c := range g.List {
			if strings.HasPrefix(c.Text, "//go:") || strings.HasPrefix(c.Text, "// +build") {
				t.Errorf("%s: %s", name, c.Text)
			}
		}
	}
}

// lookAtVariables: one of package level is a table that is written out, or an error made by errors.New.
func lookAtVariables(t *testing.T, name string, d *ast.GenDecl) {
	t.Helper()
	if d.Tok != token.VAR {
		return
	}
	for _, s := range d.Specs {
		v := s.(*ast.ValueSpec)
		if len(v.Values) != len(v.Names) {
			t.Errorf("%s: %s has no value of its own", name, v.Names[0].Name)
		}
		for _, x := range v.Values {
			if !isTable(x) && !isError(x) {
				t.Errorf("%s: %s is neither a table nor an error", name, v.Names[0].Name)
			}
		}
	}
}

// isTable: an array, a slice or a struct, written out, with no map, function or call in it.
func isTable(x ast.Expr) bool {
	if _, ok := x.(*ast.CompositeLit); !ok {
		return false
	}
	only := true
	ast.Inspect(x, func(n ast.Node) bool {
		switch n.(type) {
		case *ast.MapType, *ast.FuncType, *ast.CallExpr:
			only = false
		}
		return true
	})
	return only
}

func isError(x ast.Expr) bool {
	c, ok := x.(*ast.CallExpr)
	if !ok {
		return false
	}
	f, ok := c.Fun.(*ast.SelectorExpr)
	if !ok {
		return false
	}
	p, ok := f.X.(*ast.Ident)
	return ok && p.Name == "errors" && f.Sel.Name == "New"
}
