package slab

import (
	"go/ast"
	"go/parser"
	"go/token"
	"math"
	"slices"
	"testing"

	"cofferdam/intent"
)

// functions tells those of the program's file, by their names.
func functions(t *testing.T) map[string]*ast.FuncDecl {
	t.Helper()
	file, err := parser.ParseFile(token.NewFileSet(), "slab.go", nil, 0)
	if err != nil {
		t.Fatal(err)
	}
	l := map[string]*ast.FuncDecl{}
	for _, d := range file.Decls {
		if f, ok := d.(*ast.FuncDecl); ok {
			l[f.Name.Name] = f
		}
	}
	return l
}

// calls: does a function call that one by its bare name?
func calls(f *ast.FuncDecl, name string) bool {
	found := false
	ast.Inspect(f.Body, func(n ast.Node) bool {
		if c, ok := n.(*ast.CallExpr); ok {
			callee, ok := c.Fun.(*ast.Ident)
			found = found || ok && callee.Name == name
		}
		return true
	})
	return found
}

// mapsMade tells how many maps a function makes.
func mapsMade(f *ast.FuncDecl) int {
	n := 0
	ast.Inspect(f.Body, func(node ast.Node) bool {
		if _, ok := node.(*ast.MapType); ok {
			n++
		}
		return true
	})
	return n
}

// Ways, layer 17: what was changed stands in maps, one of pairs and one of cells, whose keys are told in order by a generic function.
func TestChangedInMaps(t *testing.T) {
	l := functions(t)
	if n := mapsMade(l["Prepare"]); n != 2 {
		t.Errorf("Ways: Prepare makes %d maps", n)
	}
	if l["rising"] == nil || l["rising"].Type.TypeParams == nil {
		t.Fatal("Ways: no generic function tells keys in order")
	}
	if !calls(l["Prepare"], "inOrder") || !calls(l["inOrder"], "rising") {
		t.Error("Ways: what Prepare tells isn't told in the order of the keys")
	}
}

// Ways, layer 17: the generic function tells the keys of maps of each kind, the least first, each once.
func TestRising(t *testing.T) {
	numbers := map[int]intent.Write{}
	for i := range 50 {
		numbers[i*37%101-50] = intent.Write{At: i}
	}
	numbers[math.MinInt], numbers[math.MaxInt] = intent.Write{}, intent.Write{}
	l := rising(numbers)
	if len(l) != 52 || !slices.IsSorted(l) || l[0] != math.MinInt || l[51] != math.MaxInt {
		t.Errorf("Ways: the keys are %v", l)
	}
	for _, n := range l {
		if _, ok := numbers[n]; !ok {
			t.Errorf("Ways: %d is no key", n)
		}
	}
	if l := rising(map[string]int{"b": 1, "": 2, "a": 3}); !slices.Equal(l, []string{"", "a", "b"}) {
		t.Errorf("Ways: the keys are %q", l)
	}
	if len(rising(map[int]int{})) != 0 || len(rising(map[int]int(nil))) != 0 {
		t.Error("Ways: an empty map has keys")
	}
}
