// Package rules holds the program's own text against LANGUAGE.md and DOC.md's map: it has tests alone.
package rules

import (
	"go/ast"
	"go/format"
	"go/parser"
	"go/token"
	"io/fs"
	"os"
	"path/filepath"
	"slices"
	"strconv"
	"strings"
	"testing"
)

const root = ".."

// mostLines is LANGUAGE.md's rule 9.
const mostLines = 60

const library = "bytes cmp container/heap errors iter maps math math/big math/bits slices sort strconv strings sync sync/atomic unicode unicode/utf8"

// calls is the column 'calls' of DOC.md's map.
var calls = map[string]string{
	"api": "", "num": "", "text": "", "pack": "", "mem": "", "stack": "",
	"prim":    "num mem stack",
	"cart":    "pack",
	"vm":      "mem stack prim cart",
	"token":   "text",
	"tree":    "text prim token",
	"effect":  "prim tree",
	"layout":  "tree",
	"emit":    "prim effect layout cart",
	"comp":    "tree layout emit cart",
	"meaning": "mem stack prim tree layout",
	"flow":    "prim cart",
	"infer":   "prim flow",
	"check":   "cart flow infer",
	"console": "mem cart vm comp check",
	"shot":    "pack",
	"replay":  "pack console shot",
	"state":   "pack mem vm console",
	"dis":     "prim flow tree emit",
	"tidy":    "num prim tree effect",
	"debug":   "vm mem flow",
	"corpus":  "comp",
	"script":  "tree effect comp cart console check shot replay dis tidy corpus",
}

// files tells the paths of the project's files with that ending; those that are laid beside the project are not its own.
func files(t *testing.T, ending string) []string {
	t.Helper()
	var found []string
	err := filepath.WalkDir(root, func(path string, d fs.DirEntry, err error) error {
		if err != nil {
			return err
		}
		if d.IsDir() && slices.Contains([]string{".git", ".ci", "sharedtests"}, d.Name()) {
			return filepath.SkipDir
		}
		if !d.IsDir() && strings.HasSuffix(path, ending) {
			found = append(found, path)
		}
		return nil
	})
	if err != nil || len(found) == 0 {
		t.Fatalf("%d files that end with %q: %v", len(found), ending, err)
	}
	return found
}

func read(t *testing.T, path string) []byte {
	t.Helper()
	b, err := os.ReadFile(path)
	if err != nil {
		t.Fatal(err)
	}
	return b
}

// parsed is a file of the program: tests may use all of Go, and are left out.
type parsed struct {
	path, folder string
	set          *token.FileSet
	tree         *ast.File
}

func program(t *testing.T) []parsed {
	t.Helper()
	var all []parsed
	for _, path := range files(t, ".go") {
		if strings.HasSuffix(path, "_test.go") {
			continue
		}
		set := token.NewFileSet()
		tree, err := parser.ParseFile(set, path, nil, parser.ParseComments)
		if err != nil {
			t.Fatal(err)
		}
		all = append(all, parsed{path, filepath.Base(filepath.Dir(path)), set, tree})
	}
	return all
}

func has(words, word string) bool { return slices.Contains(strings.Fields(words), word) }

func TestLayout(t *testing.T) {
	for _, path := range files(t, ".go") {
		text := read(t, path)
		want, err := format.Source(text)
		if err != nil || string(want) != string(text) {
			t.Errorf("%s: not in gofmt's layout (%v)", path, err)
		}
	}
}

func TestModule(t *testing.T) {
	if got := string(read(t, filepath.Join(root, "go.mod"))); got != "module wisp\n\ngo 1.27\n" {
		t.Errorf("go.mod: %q", got)
	}
}

func TestPackagesAreThere(t *testing.T) {
	there := map[string]int{}
	for _, f := range program(t) {
		there[f.folder]++
	}
	for name := range calls {
		if there[name] == 0 {
			t.Errorf("package %s has no file", name)
		}
	}
}

func TestImports(t *testing.T) {
	for _, f := range program(t) {
		for _, i := range f.tree.Imports {
			path, err := strconv.Unquote(i.Path.Value)
			if err != nil {
				t.Fatal(err)
			}
			own, isOwn := strings.CutPrefix(path, "wisp/")
			if !isOwn && !has(library, path) {
				t.Errorf("%s imports %s", f.path, path)
			}
			_, isLayer := calls[own]
			if isOwn && isLayer && own != "api" && !has(calls[f.folder], own) {
				t.Errorf("%s imports %s, which the map does not give to %s", f.path, path, f.folder)
			}
		}
	}
}

func TestNoOtherFiles(t *testing.T) {
	for _, path := range files(t, "") {
		if filepath.Dir(path) != root && !strings.HasSuffix(path, ".go") {
			t.Errorf("%s: beside Go files there are none in a package", path)
		}
	}
}

func TestNoLinesForTheCompiler(t *testing.T) {
	for _, f := range program(t) {
		for _, group := range f.tree.Comments {
			for _, c := range group.List {
				if strings.HasPrefix(c.Text, "//go:") || strings.HasPrefix(c.Text, "// +build") {
					t.Errorf("%s: %s", f.path, c.Text)
				}
			}
		}
	}
}

func TestFunctionsAreSmall(t *testing.T) {
	for _, f := range program(t) {
		for _, d := range f.tree.Decls {
			lines := f.set.Position(d.End()).Line - f.set.Position(d.Pos()).Line + 1
			if fn, ok := d.(*ast.FuncDecl); ok && lines > mostLines {
				t.Errorf("%s: %s has %d lines", f.path, fn.Name.Name, lines)
			}
		}
	}
}

// startUp tells how many package variables of a package start-up code or func init fills: DOC.md's section 'Ways'.
var startUp = map[string]int{"pack": 1, "corpus": 1}

// writtenOut tells whether a package variable's value stands where it is declared, and is no map.
func writtenOut(value ast.Expr) bool {
	switch x := value.(type) {
	case *ast.CompositeLit:
		_, isMap := x.Type.(*ast.MapType)
		return !isMap
	case *ast.CallExpr:
		s, ok := x.Fun.(*ast.SelectorExpr)
		if !ok {
			return false
		}
		from, ok := s.X.(*ast.Ident)
		return ok && from.Name == "errors" && s.Sel.Name == "New"
	}
	return false
}

func TestPackageVariables(t *testing.T) {
	filled := map[string]int{}
	for _, f := range program(t) {
		for _, d := range f.tree.Decls {
			g, ok := d.(*ast.GenDecl)
			if !ok || g.Tok != token.VAR {
				continue
			}
			for _, s := range g.Specs {
				v := s.(*ast.ValueSpec)
				for i := range v.Names {
					if i >= len(v.Values) || !writtenOut(v.Values[i]) {
						filled[f.folder]++
					}
				}
			}
		}
	}
	for folder := range startUp {
		filled[folder] += 0
	}
	for folder, many := range filled {
		if many != startUp[folder] {
			t.Errorf("package %s: %d variables whose value is not written out where they are declared, want %d", folder, many, startUp[folder])
		}
	}
}

func TestInitIsCorpusAlone(t *testing.T) {
	inits := map[string]int{}
	for _, f := range program(t) {
		for _, d := range f.tree.Decls {
			if fn, ok := d.(*ast.FuncDecl); ok && fn.Recv == nil && fn.Name.Name == "init" {
				inits[f.folder]++
			}
		}
	}
	if len(inits) != 1 || inits["corpus"] != 1 {
		t.Errorf("func init stands in %v, want it once, in package corpus", inits)
	}
}
