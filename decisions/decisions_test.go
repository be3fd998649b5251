// Package decisions has the test that the packages of secret words decide nothing by them.
package decisions

import (
	"go/ast"
	"go/importer"
	"go/parser"
	"go/token"
	"go/types"
	"maps"
	"path/filepath"
	"slices"
	"strings"
	"testing"
)

// Results do not show decisions, so this reads the source of packages whose words
// and bytes are secret, while their other values, as numbers of fields and
// positions, are public: words and bytes are never turned into values of other
// types, and are no indices, so that a decision depends on public values only. The
// exceptions are the functions that tell canonical encodings and paddings from
// others, each by one decision or by one for either, and those of package audit,
// each of whose answers is a decision.
func TestNoDecisions(t *testing.T) {
	for _, name := range slices.Sorted(maps.Keys(packages())) {
		t.Run(name, func(t *testing.T) { checkPackage(t, name, packages()[name]) })
	}
}

// An exception is the number of the decisions of a function, those outside its loops
// and closures and those inside, where there may be one for each element of a list.
type exception struct{ outside, inside int }

// packages returns the packages of secret words and bytes, each with the names of
// the functions that make decisions; the others make none.
func packages() map[string]map[string]exception {
	once, twice, each := exception{1, 0}, exception{2, 0}, exception{0, 1}
	onceAndEach := exception{1, 1}
	return map[string]map[string]exception{
		"limb":     nil,
		"field":    nil,
		"mont":     nil,
		"power":    nil,
		"bytecode": {"Decode": once, "Unpack": once},
		"poly":     nil,
		"lagrange": nil,
		"degree":   nil,
		"chunks":   {"Join": each},
		"source":   nil,
		"params":   {"CheckShare": once, "CheckShares": each},
		"deal":     nil,
		"join":     {"Values": once, "Combine": twice, "At": once, "usedOf": once},
		"audit":    {"Consistent": twice, "Chunks": onceAndEach, "Suspects": onceAndEach, "areConsistent": once},
	}
}

func checkPackage(t *testing.T, name string, exceptions map[string]exception) {
	files := token.NewFileSet()
	info := &types.Info{Types: map[ast.Expr]types.TypeAndValue{}, Uses: map[*ast.Ident]types.Object{}}
	syntax := parse(t, files, name)
	config := types.Config{Importer: importer.ForCompiler(files, "source", nil)}
	if _, err := config.Check(importPath(name), files, syntax, info); err != nil {
		t.Fatal(err)
	}
	for _, file := range syntax {
		for _, d := range file.Decls {
			checkDeclaration(t, files, info, d, exceptions)
		}
	}
}

// importPath returns the import path of a package of the module.
func importPath(name string) string { return "sharecore/" + name }

func checkDeclaration(t *testing.T, files *token.FileSet, info *types.Info, d ast.Decl, exceptions map[string]exception) {
	var permitted, made exception
	if f, ok := d.(*ast.FuncDecl); ok && f.Recv == nil {
		permitted = exceptions[f.Name.Name]
	}
	found := decisions(info, d)
	for _, n := range found {
		if inLoop(d, n) {
			made.inside++
		} else {
			made.outside++
		}
	}
	if made == permitted {
		return
	}
	t.Errorf("%s: %d decisions or indices by secret words or bytes outside of loops and %d inside, instead of %d and %d", files.Position(d.Pos()), made.outside, made.inside, permitted.outside, permitted.inside)
	for _, n := range found {
		t.Logf("%s", files.Position(n.Pos()))
	}
}

// decisions returns the parts of a declaration that show secret operands.
func decisions(info *types.Info, d ast.Decl) []ast.Node {
	var found []ast.Node
	ast.Inspect(d, func(n ast.Node) bool {
		if n != nil && shows(info, n) {
			found = append(found, n)
		}
		return true
	})
	return found
}

// inLoop reports whether a part of a declaration is repeated.
func inLoop(d ast.Decl, part ast.Node) bool {
	found := false
	ast.Inspect(d, func(n ast.Node) bool {
		switch n.(type) {
		case *ast.ForStmt, *ast.RangeStmt, *ast.FuncLit:
			found = found || n.Pos() <= part.Pos() && part.End() <= n.End()
		}
		return true
	})
	return found
}

// parse parses the files of a package that are no tests.
func parse(t *testing.T, files *token.FileSet, name string) []*ast.File {
	t.Helper()
	var syntax []*ast.File
	paths, err := filepath.Glob(filepath.Join("..", name, "*.go"))
	if err != nil {
		t.Fatal(err)
	}
	for _, path := range paths {
		if strings.HasSuffix(path, "_test.go") {
			continue
		}
		file, err := parser.ParseFile(files, path, nil, 0)
		if err != nil {
			t.Fatal(err)
		}
		syntax = append(syntax, file)
	}
	if len(syntax) == 0 {
		t.Fatal("there are no files")
	}
	return syntax
}

// shows reports whether the course of the program shows what secret operands n has.
func shows(info *types.Info, n ast.Node) bool {
	secret := func(l ...ast.Expr) bool {
		for _, x := range l {
			if v := info.Types[x]; v.IsValue() && v.Value == nil && hasWords(v.Type) {
				return true
			}
		}
		return false
	}
	switch x := n.(type) {
	case *ast.BinaryExpr:
		switch x.Op {
		case token.QUO, token.REM:
			return secret(x.X, x.Y)
		case token.SHL, token.SHR:
			return secret(x.Y)
		}
		return secret(x.X, x.Y) && !hasWords(info.Types[x].Type) && !isNil(info, x.X) && !isNil(info, x.Y)
	case *ast.AssignStmt:
		switch x.Tok {
		case token.QUO_ASSIGN, token.REM_ASSIGN:
			return secret(x.Lhs...) || secret(x.Rhs...)
		case token.SHL_ASSIGN, token.SHR_ASSIGN:
			return secret(x.Rhs...)
		}
	case *ast.IndexExpr:
		return secret(x.Index)
	case *ast.SliceExpr:
		return secret(x.Low, x.High, x.Max)
	case *ast.SwitchStmt:
		return secret(x.Tag)
	case *ast.RangeStmt:
		_, number := info.Types[x.X].Type.Underlying().(*types.Basic)
		return number && secret(x.X)
	case *ast.CallExpr:
		switch types.ExprString(x.Fun) {
		case "len", "cap", "copy", "append":
			return false
		case "yield":
			// This returns whether a loop goes on, and the body of the loop is read too.
			return false
		case "min", "max":
			return secret(x.Args...)
		}
		return secret(withoutFields(info, x.Args)...) && hasOthers(info.Types[x].Type) && !isChecked(info, x)
	}
	return false
}

// isNil reports whether an expression is nil. Whether a pointer or a slice is nil
// shows none of its words and bytes.
func isNil(info *types.Info, x ast.Expr) bool { return info.Types[x].IsNil() }

// withoutFields returns the arguments that are no fields: the words of a field are
// public constants.
func withoutFields(info *types.Info, args []ast.Expr) []ast.Expr {
	return slices.DeleteFunc(slices.Clone(args), func(x ast.Expr) bool {
		t := info.Types[x].Type
		return t != nil && types.TypeString(t, nil) == importPath("field")+".Field"
	})
}

// isChecked reports whether a call is one of a function of a checked package that
// makes no decisions, so that its results of other types than words and bytes, as
// an error for a wrong length, show arguments of other types only.
func isChecked(info *types.Info, call *ast.CallExpr) bool {
	name := ast.Unparen(call.Fun)
	if x, ok := name.(*ast.SelectorExpr); ok {
		name = x.Sel
	}
	id, ok := name.(*ast.Ident)
	if !ok {
		return false
	}
	f, ok := info.Uses[id].(*types.Func)
	if !ok || f.Signature().Recv() != nil {
		return false
	}
	for name, exceptions := range packages() {
		if f.Pkg().Path() == importPath(name) {
			return exceptions[f.Name()] == exception{}
		}
	}
	return false
}

// hasWords reports whether values of a type have words or bytes.
func hasWords(t types.Type) bool { return has(t, isWord) }

// hasOthers reports whether values of a type have parts that are no words or bytes.
func hasOthers(t types.Type) bool {
	return has(t, func(b *types.Basic) bool { return !isWord(b) })
}

func isWord(b *types.Basic) bool { return b.Kind() == types.Uint64 || b.Kind() == types.Uint8 }

func has(t types.Type, is func(*types.Basic) bool) bool {
	if t == nil {
		return false
	}
	switch x := t.Underlying().(type) {
	case *types.Basic:
		return is(x)
	case *types.Array:
		return has(x.Elem(), is)
	case *types.Slice:
		return has(x.Elem(), is)
	case *types.Pointer:
		return has(x.Elem(), is)
	case *types.Struct:
		for v := range x.Fields() {
			if has(v.Type(), is) {
				return true
			}
		}
	case *types.Tuple:
		for v := range x.Variables() {
			if has(v.Type(), is) {
				return true
			}
		}
	}
	return false
}
