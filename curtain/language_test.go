package curtain

import (
	"bytes"
	"go/ast"
	"go/format"
	"go/parser"
	"go/token"
	"os"
	"path/filepath"
	"slices"
	"strings"
	"testing"
)

// libraries are the packages of the library that the program may import.
var libraries = strings.Fields("bytes cmp container/heap errors iter maps math math/big math/bits slices sort strconv strings sync sync/atomic unicode unicode/utf8")

// sources are the program's files: those of tests, and tests that are laid beside it, are not.
func sources(t *testing.T) []string {
	files, err := filepath.Glob("../*/*.go")
	if err != nil || len(files) == 0 {
		t.Fatalf("no files: %v", err)
	}
	return slices.DeleteFunc(files, func(f string) bool { return strings.HasSuffix(f, "_test.go") })
}

func checkFile(t *testing.T, name string) {
	text, err := os.ReadFile(name)
	if err != nil {
		t.Fatal(err)
	}
	if tidy, err := format.Source(text); err != nil || !bytes.Equal(tidy, text) {
		t.Errorf("%s is not in gofmt's layout", name)
	}
	files := token.NewFileSet()
	file, err := parser.ParseFile(files, name, text, parser.ParseComments)
	if err != nil {
		t.Fatal(err)
	}
	for _, i := range file.Imports {
		path := strings.Trim(i.Path.Value, `"`)
		if !strings.HasPrefix(path, "curtain/") && !slices.Contains(libraries, path) {
			t.Errorf("%s imports %s", name, path)
		}
	}
	for _, group := range file.Comments {
		for _, c := range group.List {
			if strings.HasPrefix(c.Text, "//go:") {
				t.Errorf("%s has the line %s", name, c.Text)
			}
		}
	}
	for _, d := range file.Decls {
		if f, ok := d.(*ast.FuncDecl); ok && files.Position(f.End()).Line-files.Position(f.Pos()).Line > 60 {
			t.Errorf("%s: %s is too long", name, f.Name.Name)
		}
	}
}

// TestLanguage holds the program against what can be told of its language by reading it.
func TestLanguage(t *testing.T) {
	for _, name := range sources(t) {
		checkFile(t, name)
	}
}
