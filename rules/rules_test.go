// Package rules looks whether the program keeps to the rules of its language, and its layers to their order.
package rules

import (
	"bytes"
	"go/ast"
	"go/format"
	"go/parser"
	"go/token"
	"io/fs"
	"os"
	"path/filepath"
	"slices"
	"strconv"
	"strings"
	"testing"
)

const root = ".."

// layers: each may import those ahead of it alone.
func layers() []string {
	return strings.Fields("wide muldiv vtime pos item rbtree dtree mean lag place weigh clamp span queue req set settle core limits table sched account query script machine audit bound twin")
}

func library() []string {
	return strings.Fields("bytes cmp container/heap errors iter maps math math/bits slices sort strconv strings sync sync/atomic unicode unicode/utf8")
}

// allowed: what a library package that isn't open as a whole may be asked for.
func allowed(path, name string) bool {
	switch path {
	case "iter":
		return name != "Pull" && name != "Pull2"
	case "sync":
		return slices.Contains([]string{"Mutex", "RWMutex", "WaitGroup", "Once"}, name)
	}
	return true
}

type source struct {
	path, folder string
	text         []byte
	fset         *token.FileSet
	file         *ast.File
}

// sources: all Go files of the program but its tests.
func sources(t *testing.T) []source {
	t.Helper()
	var l []source
	err := filepath.WalkDir(root, func(path string, d fs.DirEntry, err error) error {
		if err != nil {
			return err
		}
		if d.IsDir() && path != root && (strings.HasPrefix(d.Name(), ".") || d.Name() == "sharedtests") {
			return fs.SkipDir
		}
		if d.IsDir() || !strings.HasSuffix(path, ".go") || strings.HasSuffix(path, "_test.go") {
			return nil
		}
		text, err := os.ReadFile(path)
		if err != nil {
			return err
		}
		fset := token.NewFileSet()
		file, err := parser.ParseFile(fset, path, text, parser.ParseComments)
		l = append(l, source{path, filepath.Base(filepath.Dir(path)), text, fset, file})
		return err
	})
	if err != nil {
		t.Fatal(err)
	}
	if len(l) <= len(layers()) {
		t.Fatalf("only %d files", len(l))
	}
	return l
}

func imports(s source) []string {
	var l []string
	for _, spec := range s.file.Imports {
		path, _ := strconv.Unquote(spec.Path.Value)
		l = append(l, path)
	}
	return l
}

func TestImports(t *testing.T) {
	for _, s := range sources(t) {
		for _, path := range imports(s) {
			if !strings.HasPrefix(path, "turnstone/") && !slices.Contains(library(), path) {
				t.Errorf("%s imports %s", s.path, path)
			}
		}
		ast.Inspect(s.file, func(n ast.Node) bool {
			if x, ok := n.(*ast.SelectorExpr); ok {
				if from, ok := x.X.(*ast.Ident); ok && !allowed(from.Name, x.Sel.Name) {
					t.Errorf("%s asks for %s.%s", s.path, from.Name, x.Sel.Name)
				}
			}
			return true
		})
	}
}

func TestLayersCallThoseBelow(t *testing.T) {
	for _, s := range sources(t) {
		own := slices.Index(layers(), s.folder)
		for _, path := range imports(s) {
			name, inside := strings.CutPrefix(path, "turnstone/")
			other := slices.Index(layers(), name)
			if inside && own >= 0 && other >= own {
				t.Errorf("%s, of layer %d, imports layer %d", s.path, own+1, other+1)
			}
		}
	}
}

func TestLayout(t *testing.T) {
	for _, s := range sources(t) {
		laid, err := format.Source(s.text)
		if err != nil || !bytes.Equal(laid, s.text) {
			t.Errorf("%s isn't laid as gofmt lays it", s.path)
		}
		for _, group := range s.file.Comments {
			for _, c := range group.List {
				if strings.HasPrefix(c.Text, "//go:") || strings.HasPrefix(c.Text, "// +build") {
					t.Errorf("%s has the line %s", s.path, c.Text)
				}
			}
		}
	}
}

func TestFunctionsAreSmall(t *testing.T) {
	const most = 60
	for _, s := range sources(t) {
		for _, d := range s.file.Decls {
			f, ok := d.(*ast.FuncDecl)
			if !ok {
				continue
			}
			lines := s.fset.Position(f.End()).Line - s.fset.Position(f.Pos()).Line + 1
			if lines > most {
				t.Errorf("%s: %s has %d lines", s.path, f.Name.Name, lines)
			}
		}
	}
}
