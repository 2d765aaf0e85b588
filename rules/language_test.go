package rules

import (
	"bytes"
	"go/ast"
	"go/format"
	"go/parser"
	"go/token"
	"os"
	"path/filepath"
	"slices"
	"strconv"
	"strings"
	"testing"
)

// source is a file of the program: tests may use all of Go, so they are none.
type source struct {
	name string
	text []byte
	set  *token.FileSet
	tree *ast.File
}

func parse(t *testing.T, folder string) []source {
	t.Helper()
	names, err := filepath.Glob(filepath.Join("..", folder, "*.go"))
	if err != nil {
		t.Fatal(err)
	}
	var l []source
	for _, name := range names {
		if strings.HasSuffix(name, "_test.go") {
			continue
		}
		text, err := os.ReadFile(name)
		if err != nil {
			t.Fatal(err)
		}
		set := token.NewFileSet()
		tree, err := parser.ParseFile(set, name, text, parser.ParseComments)
		if err != nil {
			t.Fatal(err)
		}
		l = append(l, source{name, text, set, tree})
	}
	if len(l) == 0 {
		t.Fatalf("%s has no files", folder)
	}
	return l
}

// folders are the program's packages: the tests that CI lays beside them are none of it.
func folders(t *testing.T) []string {
	t.Helper()
	entries, err := os.ReadDir("..")
	if err != nil {
		t.Fatal(err)
	}
	var l []string
	for _, e := range entries {
		if e.IsDir() && !strings.HasPrefix(e.Name(), ".") && e.Name() != "sharedtests" {
			l = append(l, e.Name())
		}
	}
	return l
}

func imports(s source) []string {
	var l []string
	for _, x := range s.tree.Imports {
		path, _ := strconv.Unquote(x.Path.Value)
		l = append(l, path)
	}
	return l
}

// layers are all of them in their order, each with those that it may call beside api.
func layers() (order []string, below map[string][]string) {
	below = map[string][]string{}
	for _, line := range []string{
		"le", "crc", "mask", "pace", "moment", "shelf pace", "queue pace moment shelf", "band", "disk", "parcel le crc", "slots le crc disk",
		"kin", "scene pace band", "image le parcel scene", "load mask", "lane pace queue", "board mask pace band kin load lane", "plug mask board",
		"frost board", "graft mask scene board frost", "vault disk slots image board graft", "script disk board plug frost vault", "share",
	} {
		words := strings.Fields(line)
		order = append(order, words[0])
		below[words[0]] = words[1:]
	}
	return order, below
}

func TestLayersCallThoseOfTheMap(t *testing.T) {
	order, below := layers()
	for _, layer := range order {
		for _, file := range parse(t, layer) {
			for _, path := range imports(file) {
				name, own := strings.CutPrefix(path, "diapause/")
				if own && name != "api" && slices.Contains(order, name) && !slices.Contains(below[layer], name) {
					t.Errorf("%s calls %s", file.name, name)
				}
			}
		}
	}
}

func TestOnlyTheLanguagesLibrary(t *testing.T) {
	library := strings.Fields("bytes cmp container/heap errors iter maps math math/bits slices sort strconv strings sync sync/atomic unicode unicode/utf8")
	own := folders(t)
	for _, folder := range own {
		for _, file := range parse(t, folder) {
			for _, path := range imports(file) {
				name, is := strings.CutPrefix(path, "diapause/")
				if is && slices.Contains(own, name) || slices.Contains(library, path) {
					continue
				}
				t.Errorf("%s imports %s", file.name, path)
			}
		}
	}
}

func TestFoldersHoldGoAlone(t *testing.T) {
	for _, folder := range folders(t) {
		if folder == "form" || folder == "try" || strings.HasPrefix(folder, "diapause") {
			t.Errorf("a folder is named %s", folder)
		}
		entries, err := os.ReadDir(filepath.Join("..", folder))
		if err != nil {
			t.Fatal(err)
		}
		for _, e := range entries {
			if e.IsDir() || !strings.HasSuffix(e.Name(), ".go") {
				t.Errorf("%s holds %s", folder, e.Name())
			}
		}
	}
}

func TestLayoutAndLength(t *testing.T) {
	for _, folder := range folders(t) {
		for _, file := range parse(t, folder) {
			if text, err := format.Source(file.text); err != nil || !bytes.Equal(text, file.text) {
				t.Errorf("%s is not laid out by gofmt (%v)", file.name, err)
			}
			for _, group := range file.tree.Comments {
				for _, c := range group.List {
					if strings.HasPrefix(c.Text, "//go:") || strings.HasPrefix(c.Text, "// +build") {
						t.Errorf("%s has the line %s", file.name, c.Text)
					}
				}
			}
			for _, d := range file.tree.Decls {
				if f, is := d.(*ast.FuncDecl); is {
					lines := file.set.Position(f.End()).Line - file.set.Position(f.Pos()).Line + 1
					if lines > 60 {
						t.Errorf("%s: %s has %d lines", file.name, f.Name.Name, lines)
					}
				}
			}
		}
	}
}
