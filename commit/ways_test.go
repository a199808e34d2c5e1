package commit_test

import (
	"go/ast"
	"go/parser"
	"go/token"
	"path/filepath"
	"slices"
	"strings"
	"testing"
)

// program tells the program's files.
func program(t *testing.T) []*ast.File {
	t.Helper()
	paths, err := filepath.Glob("*.go")
	if err != nil {
		t.Fatal(err)
	}
	var l []*ast.File
	for _, path := range paths {
		if strings.HasSuffix(path, "_test.go") {
			continue
		}
		file, err := parser.ParseFile(token.NewFileSet(), path, nil, 0)
		if err != nil {
			t.Fatal(err)
		}
		l = append(l, file)
	}
	return l
}

// count tells how many nodes of the program are so.
func count(t *testing.T, is func(n ast.Node) bool) int {
	t.Helper()
	found := 0
	for _, file := range program(t) {
		ast.Inspect(file, func(n ast.Node) bool {
			if n != nil && is(n) {
				found++
			}
			return true
		})
	}
	return found
}

// structs tells the program's structs, by their names.
func structs(t *testing.T) map[string]*ast.StructType {
	t.Helper()
	l := map[string]*ast.StructType{}
	count(t, func(n ast.Node) bool {
		if x, ok := n.(*ast.TypeSpec); ok {
			if s, ok := x.Type.(*ast.StructType); ok {
				l[x.Name.Name] = s
			}
		}
		return false
	})
	return l
}

// fields tells the names of a struct's fields; of one that is embedded, with a star ahead.
func fields(s *ast.StructType) []string {
	var l []string
	for _, f := range s.Fields.List {
		if x, ok := f.Type.(*ast.Ident); ok && len(f.Names) == 0 {
			l = append(l, "*"+x.Name)
		}
		for _, n := range f.Names {
			l = append(l, n.Name)
		}
	}
	return l
}

// Ways, layer 20: what a volume lies on (bank, anchor, key) is embedded in its store, and used as the store's own.
func TestGroundEmbedded(t *testing.T) {
	all := structs(t)
	var own []string
	for _, name := range fields(all["Store"]) {
		if part, ok := strings.CutPrefix(name, "*"); ok && all[part] != nil {
			own = append(own, fields(all[part])...)
		}
	}
	if len(own) != 3 {
		t.Fatalf("Ways: embedded in a store are %v", own)
	}
	promoted := count(t, func(n ast.Node) bool {
		f, ok := n.(*ast.FuncDecl)
		return ok && f.Recv != nil && ofStore(f) && uses(f, own)
	})
	if promoted == 0 {
		t.Errorf("Ways: no method of a store uses one of %v as its own", own)
	}
}

// ofStore: is it a method of a store?
func ofStore(f *ast.FuncDecl) bool {
	p, ok := f.Recv.List[0].Type.(*ast.StarExpr)
	if !ok {
		return false
	}
	name, ok := p.X.(*ast.Ident)
	return ok && name.Name == "Store"
}

// uses: does a method name one of these fields right behind what it is called of?
func uses(f *ast.FuncDecl, names []string) bool {
	found := false
	ast.Inspect(f.Body, func(n ast.Node) bool {
		if x, ok := n.(*ast.SelectorExpr); ok && slices.Contains(names, x.Sel.Name) {
			of, ok := x.X.(*ast.Ident)
			found = found || ok && of.Name == f.Recv.List[0].Names[0].Name
		}
		return true
	})
	return found
}

// Ways, layer 20: the writes of disks stand in a map, out of which a failed one is deleted.
func TestWritesInMap(t *testing.T) {
	maps := count(t, func(n ast.Node) bool {
		m, ok := n.(*ast.MapType)
		if !ok {
			return false
		}
		key, ok := m.Key.(*ast.Ident)
		return ok && key.Name == "int"
	})
	deletes := count(t, func(n ast.Node) bool {
		c, ok := n.(*ast.CallExpr)
		if !ok {
			return false
		}
		f, ok := c.Fun.(*ast.Ident)
		return ok && f.Name == "delete"
	})
	if maps == 0 || deletes != 1 {
		t.Errorf("Ways: %d maps by disks, %d deletes", maps, deletes)
	}
}

// Ways, layer 20: the steps of a commit are closures, one behind the other.
func TestStepsAreClosures(t *testing.T) {
	steps := 0
	count(t, func(n ast.Node) bool {
		l, ok := n.(*ast.CompositeLit)
		if !ok {
			return false
		}
		if a, ok := l.Type.(*ast.ArrayType); ok {
			if _, ok := a.Elt.(*ast.FuncType); ok {
				for _, e := range l.Elts {
					if _, ok := e.(*ast.FuncLit); ok {
						steps++
					}
				}
			}
		}
		return false
	})
	if steps != 4 {
		t.Errorf("Ways: %d steps are closures", steps)
	}
}

// Ways, layer 20: a label leaves the cells of a disk that can't be read.
func TestLabelLeavesDisk(t *testing.T) {
	labels := map[string]int{}
	count(t, func(n ast.Node) bool {
		switch x := n.(type) {
		case *ast.LabeledStmt:
			if _, ok := x.Stmt.(*ast.RangeStmt); ok {
				labels[x.Label.Name]++
			}
		case *ast.BranchStmt:
			if x.Label != nil && x.Tok == token.CONTINUE {
				labels[x.Label.Name]++
			}
		}
		return false
	})
	for _, n := range labels {
		if n == 2 {
			return
		}
	}
	t.Errorf("Ways: the labels are %v", labels)
}

// The map of DOC.md: layer 20 calls the layers 10, 11, and 14 to 19.
func TestCallsItsLayers(t *testing.T) {
	layers := []string{"anchor", "api", "bank", "intent", "layout", "nonce", "slab", "stripe", "super"}
	count(t, func(n ast.Node) bool {
		if i, ok := n.(*ast.ImportSpec); ok {
			layer, ok := strings.CutPrefix(strings.Trim(i.Path.Value, `"`), "cofferdam/")
			if ok && !slices.Contains(layers, layer) {
				t.Errorf("the map: the program imports %s", layer)
			}
		}
		return false
	})
}

// P2: nothing stands at package level that one call could leave to another.
func TestNoVariables(t *testing.T) {
	for _, file := range program(t) {
		for _, d := range file.Decls {
			if g, ok := d.(*ast.GenDecl); ok && g.Tok == token.VAR {
				t.Errorf("P2: there is a variable at package level: %v", g.Specs)
			}
		}
	}
}
