// Package decisions has the test that the packages of secret words decide nothing by them.
package decisions

import (
	"go/ast"
	"go/importer"
	"go/parser"
	"go/token"
	"go/types"
	"path/filepath"
	"strings"
	"testing"
)

// Results do not show decisions, so this reads the source of packages whose words
// are secret, while their other values, as numbers of fields and positions, are
// public: words are never turned into values of other types, and are no indices,
// so that a decision depends on public values only.
func TestNoDecisions(t *testing.T) {
	for _, name := range []string{"limb", "field", "mont", "power"} {
		t.Run(name, func(t *testing.T) { checkPackage(t, name) })
	}
}

func checkPackage(t *testing.T, name string) {
	files := token.NewFileSet()
	info := &types.Info{Types: map[ast.Expr]types.TypeAndValue{}}
	syntax := parse(t, files, name)
	config := types.Config{Importer: importer.ForCompiler(files, "source", nil)}
	if _, err := config.Check("sharecore/"+name, files, syntax, info); err != nil {
		t.Fatal(err)
	}
	for _, file := range syntax {
		ast.Inspect(file, func(n ast.Node) bool {
			if n != nil && shows(info, n) {
				t.Errorf("%s: a decision or an index by secret words", files.Position(n.Pos()))
			}
			return true
		})
	}
}

// parse parses the files of a package that are no tests.
func parse(t *testing.T, files *token.FileSet, name string) []*ast.File {
	t.Helper()
	var syntax []*ast.File
	paths, err := filepath.Glob(filepath.Join("..", name, "*.go"))
	if err != nil {
		t.Fatal(err)
	}
	for _, path := range paths {
		if strings.HasSuffix(path, "_test.go") {
			continue
		}
		file, err := parser.ParseFile(files, path, nil, 0)
		if err != nil {
			t.Fatal(err)
		}
		syntax = append(syntax, file)
	}
	if len(syntax) == 0 {
		t.Fatal("there are no files")
	}
	return syntax
}

// shows reports whether the course of the program shows what secret operands n has.
func shows(info *types.Info, n ast.Node) bool {
	secret := func(l ...ast.Expr) bool {
		for _, x := range l {
			if v := info.Types[x]; v.IsValue() && v.Value == nil && hasWords(v.Type) {
				return true
			}
		}
		return false
	}
	switch x := n.(type) {
	case *ast.BinaryExpr:
		switch x.Op {
		case token.QUO, token.REM:
			return secret(x.X, x.Y)
		case token.SHL, token.SHR:
			return secret(x.Y)
		}
		return secret(x.X, x.Y) && !hasWords(info.Types[x].Type)
	case *ast.AssignStmt:
		switch x.Tok {
		case token.QUO_ASSIGN, token.REM_ASSIGN:
			return secret(x.Lhs...) || secret(x.Rhs...)
		case token.SHL_ASSIGN, token.SHR_ASSIGN:
			return secret(x.Rhs...)
		}
	case *ast.IndexExpr:
		return secret(x.Index)
	case *ast.SliceExpr:
		return secret(x.Low, x.High, x.Max)
	case *ast.SwitchStmt:
		return secret(x.Tag)
	case *ast.RangeStmt:
		_, number := info.Types[x.X].Type.Underlying().(*types.Basic)
		return number && secret(x.X)
	case *ast.CallExpr:
		switch types.ExprString(x.Fun) {
		case "len", "cap", "copy":
			return false
		case "min", "max":
			return secret(x.Args...)
		}
		return secret(x.Args...) && hasOthers(info.Types[x].Type)
	}
	return false
}

// hasWords reports whether values of a type consist of words.
func hasWords(t types.Type) bool {
	return has(t, func(b *types.Basic) bool { return b.Kind() == types.Uint64 })
}

// hasOthers reports whether values of a type have parts that are no words.
func hasOthers(t types.Type) bool {
	return has(t, func(b *types.Basic) bool { return b.Kind() != types.Uint64 })
}

func has(t types.Type, is func(*types.Basic) bool) bool {
	if t == nil {
		return false
	}
	switch x := t.Underlying().(type) {
	case *types.Basic:
		return is(x)
	case *types.Array:
		return has(x.Elem(), is)
	case *types.Slice:
		return has(x.Elem(), is)
	case *types.Pointer:
		return has(x.Elem(), is)
	case *types.Struct:
		for v := range x.Fields() {
			if has(v.Type(), is) {
				return true
			}
		}
	case *types.Tuple:
		for v := range x.Variables() {
			if has(v.Type(), is) {
				return true
			}
		}
	}
	return false
}
