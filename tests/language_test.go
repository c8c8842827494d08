package tests

import (
	"bytes"
	"go/ast"
	"go/format"
	"go/parser"
	"go/token"
	"os"
	"path/filepath"
	"strings"
	"testing"
)

const mayImport = " bytes cmp container/heap errors iter maps math math/bits slices sort strconv strings sync sync/atomic unicode unicode/utf8 "

// TestLanguage holds the program to the language page where a text shows it:
// imports, layout, and the length of functions.
func TestLanguage(t *testing.T) {
	files, err := filepath.Glob("../impl/*.go")
	if err != nil || len(files) == 0 {
		t.Fatal("no files of impl", err)
	}
	for _, path := range files {
		source, err := os.ReadFile(path)
		if err != nil {
			t.Fatal(err)
		}
		if laid, err := format.Source(source); err != nil || !bytes.Equal(laid, source) {
			t.Errorf("%s: not in gofmt's layout", path)
		}
		set := token.NewFileSet()
		file, err := parser.ParseFile(set, path, source, parser.ParseComments)
		if err != nil {
			t.Fatal(err)
		}
		for _, i := range file.Imports {
			if !strings.Contains(mayImport, " "+strings.Trim(i.Path.Value, "\"")+" ") {
				t.Errorf("%s imports %s", path, i.Path.Value)
			}
		}
		for _, d := range file.Decls {
			if f, ok := d.(*ast.FuncDecl); ok && set.Position(f.End()).Line-set.Position(f.Pos()).Line >= 60 {
				t.Errorf("%s: %s has more than 60 lines", path, f.Name.Name)
			}
		}
	}
}
