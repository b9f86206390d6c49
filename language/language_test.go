// Package language has nothing but this test: the program imports what ../shared/LANGUAGE.md lets, and asks nothing of the compiler.
package language

import (
	"go/ast"
	"go/parser"
	"go/token"
	"os"
	"path/filepath"
	"slices"
	"strconv"
	"strings"
	"testing"
)

var allowed = strings.Fields("bytes cmp container/heap errors iter maps math math/bits slices sort strconv strings sync sync/atomic unicode unicode/utf8")

var layers = strings.Fields("utf class pair fold base explicit strip seq weak brack neutral level line order token tree show deriv nfa sim dfa scan norm frag tour balance swap find")

// TestProgram goes from the layers to all that they import of the project, so that packages added later are looked at, too.
func TestProgram(t *testing.T) {
	work := slices.Clone(layers)
	seen := map[string]bool{}
	for len(work) > 0 {
		p := work[0]
		work = work[1:]
		if !seen[p] {
			seen[p] = true
			work = append(work, lookAt(t, p)...)
		}
	}
}

// lookAt: the project's packages that one imports.
func lookAt(t *testing.T, p string) []string {
	t.Helper()
	files, err := os.ReadDir(filepath.Join("..", filepath.FromSlash(p)))
	if err != nil {
		t.Fatal(err)
	}
	var out []string
	for _, f := range files {
		name := filepath.Join("..", filepath.FromSlash(p), f.Name())
		switch ext := filepath.Ext(name); {
		case strings.HasSuffix(name, "_test.go"):
		case ext == ".go":
			out = append(out, lookAtFile(t, name)...)
		case slices.Contains([]string{".s", ".S", ".c", ".h", ".syso"}, ext):
			t.Errorf("%s: no Go", name)
		}
	}
	return out
}

func lookAtFile(t *testing.T, name string) []string {
	t.Helper()
	f, err := parser.ParseFile(token.NewFileSet(), name, nil, parser.ParseComments)
	if err != nil {
		t.Fatal(err)
	}
	var out []string
	for _, i := range f.Imports {
		path, _ := strconv.Unquote(i.Path.Value)
		if own, ok := strings.CutPrefix(path, "ductus/"); ok {
			out = append(out, own)
		} else if !slices.Contains(allowed, path) {
			t.Errorf("%s: imports %s", name, path)
		}
	}
	lookAtRemarks(t, name, f)
	return out
}

func lookAtRemarks(t *testing.T, name string, f *ast.File) {
	t.Helper()
	for _, g := range f.Comments {
		for _, c := range g.List {
			if strings.HasPrefix(c.Text, "//go:") || strings.HasPrefix(c.Text, "// +build") {
				t.Errorf("%s: %s", name, c.Text)
			}
		}
	}
}
