// Package language looks at the program's text: what it imports, and what stands in it.
package language

import (
	"bytes"
	"go/ast"
	"go/format"
	"go/parser"
	"go/token"
	"os"
	"path/filepath"
	"slices"
	"strings"
	"testing"
)

// library is what the program may import of Go's library.
var library = []string{
	"bytes", "cmp", "container/heap", "errors", "iter", "maps", "math", "math/bits", "slices", "sort",
	"strconv", "strings", "sync", "sync/atomic", "unicode", "unicode/utf8",
}

const mostLines = 60

// packages are the program's folders.
var packages = strings.Fields("api ask box cells chacha control device disk entry filter group hash index item keys names net own pack pad poly proof relay seal store sync vector world writer")

// sources are the parsed files of the program, without its tests.
func sources(t *testing.T) (*token.FileSet, map[string]*ast.File) {
	t.Helper()
	set, files := token.NewFileSet(), map[string]*ast.File{}
	for _, folder := range packages {
		paths, err := filepath.Glob(filepath.Join("..", folder, "*"))
		if err != nil || len(paths) == 0 {
			t.Fatal(folder, err)
		}
		for _, path := range paths {
			if strings.HasSuffix(path, "_test.go") {
				continue
			}
			if slices.Contains([]string{".s", ".S", ".c", ".h", ".syso"}, filepath.Ext(path)) {
				t.Errorf("%s isn't Go", path)
			}
			if !strings.HasSuffix(path, ".go") {
				continue
			}
			files[path], err = parser.ParseFile(set, path, nil, parser.ParseComments)
			if err != nil {
				t.Fatal(err)
			}
		}
	}
	return set, files
}

func TestImportsAreAllowed(t *testing.T) {
	_, files := sources(t)
	for path, file := range files {
		for _, spec := range file.Imports {
			name := strings.Trim(spec.Path.Value, `"`)
			if !strings.HasPrefix(name, "jalousie/") && !slices.Contains(library, name) {
				t.Errorf("%s imports %s", path, name)
			}
		}
	}
}

func TestFunctionsAreShort(t *testing.T) {
	set, files := sources(t)
	for path, file := range files {
		for _, decl := range file.Decls {
			f, ok := decl.(*ast.FuncDecl)
			if !ok {
				continue
			}
			lines := set.Position(f.End()).Line - set.Position(f.Pos()).Line + 1
			if lines > mostLines {
				t.Errorf("%s: %s has %d lines", path, f.Name.Name, lines)
			}
		}
	}
}

func TestNoDirectives(t *testing.T) {
	_, files := sources(t)
	for path, file := range files {
		for _, group := range file.Comments {
			for _, c := range group.List {
				if strings.HasPrefix(c.Text, "//go:") || strings.HasPrefix(c.Text, "// +build") {
					t.Errorf("%s: %s", path, c.Text)
				}
			}
		}
	}
}

func TestLayoutIsGofmts(t *testing.T) {
	_, files := sources(t)
	for path := range files {
		text, err := os.ReadFile(path)
		if err != nil {
			t.Fatal(err)
		}
		if laid, err := format.Source(text); err != nil || !bytes.Equal(laid, text) {
			t.Errorf("%s isn't laid out by gofmt: %v", path, err)
		}
	}
}
