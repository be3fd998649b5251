package mask_test

import (
	"go/ast"
	"go/parser"
	"go/token"
	"testing"
)

// Results do not show decisions, so this reads the source: the package walks
// through lists, which depends on their public lengths, and decides and indexes
// nothing else.
func TestNoDecisions(t *testing.T) {
	files := token.NewFileSet()
	file, err := parser.ParseFile(files, "mask.go", nil, 0)
	if err != nil {
		t.Fatal(err)
	}
	ast.Inspect(file, func(n ast.Node) bool {
		if n != nil && decides(n) {
			t.Errorf("%s: a decision or an index", files.Position(n.Pos()))
		}
		return true
	})
}

func decides(n ast.Node) bool {
	switch x := n.(type) {
	case *ast.IfStmt, *ast.SwitchStmt, *ast.TypeSwitchStmt, *ast.SelectStmt, *ast.ForStmt, *ast.BranchStmt, *ast.IndexExpr, *ast.SliceExpr:
		return true
	case *ast.BinaryExpr:
		switch x.Op {
		case token.EQL, token.NEQ, token.LSS, token.LEQ, token.GTR, token.GEQ, token.LAND, token.LOR, token.QUO, token.REM:
			return true
		}
	}
	return false
}
