package volume_test

import (
	"go/ast"
	"go/parser"
	"go/token"
	"path/filepath"
	"slices"
	"strings"
	"testing"
)

// program tells the program's files.
func program(t *testing.T) []*ast.File {
	t.Helper()
	paths, err := filepath.Glob("*.go")
	if err != nil {
		t.Fatal(err)
	}
	var l []*ast.File
	for _, path := range paths {
		if strings.HasSuffix(path, "_test.go") {
			continue
		}
		file, err := parser.ParseFile(token.NewFileSet(), path, nil, 0)
		if err != nil {
			t.Fatal(err)
		}
		l = append(l, file)
	}
	return l
}

// each looks at each node of the program.
func each(t *testing.T, look func(n ast.Node)) {
	t.Helper()
	for _, file := range program(t) {
		ast.Inspect(file, func(n ast.Node) bool {
			if n != nil {
				look(n)
			}
			return true
		})
	}
}

// structs tells the program's structs, by their names.
func structs(t *testing.T) map[string]*ast.StructType {
	t.Helper()
	l := map[string]*ast.StructType{}
	each(t, func(n ast.Node) {
		if x, ok := n.(*ast.TypeSpec); ok {
			if s, ok := x.Type.(*ast.StructType); ok {
				l[x.Name.Name] = s
			}
		}
	})
	return l
}

// cleared tells of which fields of the volume maps are cleared, by the names of the methods.
func cleared(t *testing.T, field string) []string {
	t.Helper()
	var l []string
	for _, file := range program(t) {
		for _, d := range file.Decls {
			f, ok := d.(*ast.FuncDecl)
			if !ok || f.Recv == nil {
				continue
			}
			ast.Inspect(f.Body, func(n ast.Node) bool {
				c, ok := n.(*ast.CallExpr)
				if !ok || len(c.Args) != 1 {
					return true
				}
				by, ok := c.Fun.(*ast.Ident)
				of, is := c.Args[0].(*ast.SelectorExpr)
				if ok && is && by.Name == "clear" && of.Sel.Name == field {
					l = append(l, f.Name.Name)
				}
				return true
			})
		}
	}
	return l
}

// Ways, layer 21: blocks that wait stand in a map of the volume, which is cleared when they last, and when they are lost.
func TestWaitingInMap(t *testing.T) {
	v := structs(t)["Volume"]
	if v == nil {
		t.Fatal("Ways: there is no struct Volume")
	}
	var maps []string
	for _, f := range v.Fields.List {
		if _, ok := f.Type.(*ast.MapType); ok {
			for _, name := range f.Names {
				maps = append(maps, name.Name)
			}
		}
	}
	if len(maps) != 1 {
		t.Fatalf("Ways: the maps of a volume are %v", maps)
	}
	l := cleared(t, maps[0])
	slices.Sort(l)
	if !slices.Equal(l, []string{"Sync", "Unmount"}) {
		t.Errorf("Ways: the map is cleared by %v", l)
	}
}

// Ways, layer 21: the places of blocks that wait are structs that are keys of a map, which is asked by them.
func TestPlacesAreKeys(t *testing.T) {
	all := structs(t)
	keys, asked := map[string]int{}, 0
	each(t, func(n ast.Node) {
		switch x := n.(type) {
		case *ast.MapType:
			if key, ok := x.Key.(*ast.Ident); ok && all[key.Name] != nil {
				keys[key.Name]++
			}
		case *ast.IndexExpr:
			if c, ok := x.Index.(*ast.CompositeLit); ok {
				if name, ok := c.Type.(*ast.Ident); ok && keys[name.Name] > 0 {
					asked++
				}
			}
		}
	})
	if len(keys) != 1 || asked < 2 {
		t.Errorf("Ways: the structs that are keys are %v, asked %d times", keys, asked)
	}
}

// The map of DOC.md: layer 21 calls the layers 10, 11, 14, 17, 19 and 20.
func TestCallsItsLayers(t *testing.T) {
	layers := []string{"anchor", "api", "bank", "commit", "slab", "stripe", "super"}
	each(t, func(n ast.Node) {
		if i, ok := n.(*ast.ImportSpec); ok {
			layer, ok := strings.CutPrefix(strings.Trim(i.Path.Value, `"`), "cofferdam/")
			if ok && !slices.Contains(layers, layer) {
				t.Errorf("the map: the program imports %s", layer)
			}
		}
	})
}

// P2: nothing stands at package level that one call could leave to another.
func TestNoVariables(t *testing.T) {
	for _, file := range program(t) {
		for _, d := range file.Decls {
			if g, ok := d.(*ast.GenDecl); ok && g.Tok == token.VAR {
				t.Errorf("P2: there is a variable at package level: %v", g.Specs)
			}
		}
	}
}
