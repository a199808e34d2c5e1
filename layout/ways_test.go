package layout

import (
	"go/ast"
	"go/parser"
	"go/token"
	"slices"
	"testing"

	"cofferdam/api"
)

// program tells the program's file.
func program(t *testing.T) *ast.File {
	t.Helper()
	file, err := parser.ParseFile(token.NewFileSet(), "layout.go", nil, 0)
	if err != nil {
		t.Fatal(err)
	}
	return file
}

// isNamed: is it a thing by its bare name?
func isNamed(x ast.Expr, name string) bool {
	n, ok := x.(*ast.Ident)
	return ok && n.Name == name
}

// Ways, layer 18: how many slots there may be stands in a constant table, an array at package level that is written out where it is declared, and by which Good goes.
func TestSlotCountsAreATable(t *testing.T) {
	table, gone, asked := false, false, false
	for _, d := range program(t).Decls {
		switch x := d.(type) {
		case *ast.GenDecl:
			table = table || x.Tok == token.VAR && isTable(x.Specs[0].(*ast.ValueSpec))
		case *ast.FuncDecl:
			ast.Inspect(x.Body, func(n ast.Node) bool {
				switch y := n.(type) {
				case *ast.RangeStmt:
					gone = gone || x.Name.Name == "goodSlots" && isNamed(y.X, "slotCounts")
				case *ast.SelectorExpr:
					asked = asked || x.Name.Name == "Good" && y.Sel.Name == "goodSlots"
				}
				return true
			})
		}
	}
	if !table || !gone || !asked {
		t.Errorf("Ways: a table %v, which is gone through %v, by Good %v", table, gone, asked)
	}
}

// isTable: is it the table, written out as an array of numbers?
func isTable(s *ast.ValueSpec) bool {
	if s.Names[0].Name != "slotCounts" || len(s.Values) != 1 {
		return false
	}
	l, ok := s.Values[0].(*ast.CompositeLit)
	if !ok || len(l.Elts) != len(sizes) {
		return false
	}
	for _, x := range l.Elts {
		if _, ok := x.(*ast.BasicLit); !ok {
			return false
		}
	}
	a, ok := l.Type.(*ast.ArrayType)
	return ok && a.Len != nil
}

// Ways, layer 18: the table has the document's numbers, of which the greatest is the limit of api, and is as it was behind all calls.
func TestSlotCounts(t *testing.T) {
	was := slotCounts
	for _, l := range goods() {
		l.Wide(0)
		l.Find(0)
		l.Seat(0, 0)
		l.Chunk(0, 0)
		l.Moves()
		l.Step()
	}
	if slotCounts != was || !slices.Equal(was[:], sizes) || was[len(was)-1] != api.MaxSlots {
		t.Errorf("Ways: the table is %v, and was %v", slotCounts, was)
	}
}

// The map of DOC.md: layer 18 calls nothing but package api.
func TestCallsApiAlone(t *testing.T) {
	for _, i := range program(t).Imports {
		if i.Path.Value != `"cofferdam/api"` {
			t.Errorf("the map: %s is imported", i.Path.Value)
		}
	}
}
