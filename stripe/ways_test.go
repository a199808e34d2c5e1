package stripe

import (
	"go/ast"
	"go/parser"
	"go/token"
	"slices"
	"testing"
)

// program tells the program's file.
func program(t *testing.T) *ast.File {
	t.Helper()
	file, err := parser.ParseFile(token.NewFileSet(), "stripe.go", nil, 0)
	if err != nil {
		t.Fatal(err)
	}
	return file
}

// isNamed: is it a thing by its bare name?
func isNamed(x ast.Expr, name string) bool {
	n, ok := x.(*ast.Ident)
	return ok && n.Name == name
}

// looks: is it a call that is handed the blocks, and a closure to look at them with?
func looks(c *ast.CallExpr) bool {
	closure, blocks := false, false
	for _, x := range c.Args {
		_, ok := x.(*ast.FuncLit)
		closure = closure || ok
		blocks = blocks || isNamed(x, "blocks")
	}
	return closure && blocks
}

// Ways, layer 19: Make looks at the blocks by a closure.
func TestBlocksByClosure(t *testing.T) {
	found := false
	for _, d := range program(t).Decls {
		f, ok := d.(*ast.FuncDecl)
		if !ok || f.Name.Name != "Make" {
			continue
		}
		ast.Inspect(f.Body, func(n ast.Node) bool {
			c, ok := n.(*ast.CallExpr)
			found = found || ok && looks(c)
			return true
		})
	}
	if !found {
		t.Error("Ways: Make doesn't look at the blocks by a closure")
	}
}

// The map of DOC.md: layer 19 calls the layers 4 and 17.
func TestCallsItsLayers(t *testing.T) {
	var l []string
	for _, i := range program(t).Imports {
		l = append(l, i.Path.Value)
	}
	slices.Sort(l)
	if !slices.Equal(l, []string{`"cofferdam/api"`, `"cofferdam/rs"`, `"cofferdam/slab"`, `"slices"`}) {
		t.Errorf("the map: the program imports %v", l)
	}
}

// P2: nothing stands at package level that one call could leave to another.
func TestNoVariables(t *testing.T) {
	for _, d := range program(t).Decls {
		if g, ok := d.(*ast.GenDecl); ok && g.Tok == token.VAR {
			t.Errorf("P2: there is a variable at package level: %v", g.Specs)
		}
	}
}
