package tests

import (
	"go/ast"
	"go/parser"
	"go/token"
	"path/filepath"
	"testing"
)

// programFiles are the syntax trees of the program, with the places of their nodes.
func programFiles(t *testing.T) (*token.FileSet, []*ast.File) {
	t.Helper()
	names, err := filepath.Glob("../impl/*.go")
	if err != nil || len(names) == 0 {
		t.Fatalf("no program: %v", err)
	}
	places := token.NewFileSet()
	var files []*ast.File
	for _, name := range names {
		file, err := parser.ParseFile(places, name, nil, parser.SkipObjectResolution)
		if err != nil {
			t.Fatal(err)
		}
		files = append(files, file)
	}
	return places, files
}

// packageVars are the variables at package level, each with its starting value (nil if it has none).
func packageVars(files []*ast.File) map[string]ast.Expr {
	out := map[string]ast.Expr{}
	for _, file := range files {
		for _, d := range file.Decls {
			group, ok := d.(*ast.GenDecl)
			if !ok || group.Tok != token.VAR {
				continue
			}
			for _, s := range group.Specs {
				spec := s.(*ast.ValueSpec)
				for i, name := range spec.Names {
					out[name.Name] = nil
					if i < len(spec.Values) {
						out[name.Name] = spec.Values[i]
					}
				}
			}
		}
	}
	return out
}

// isWrittenOut takes a table with something in it and an error of one text.
func isWrittenOut(value ast.Expr) bool {
	switch x := value.(type) {
	case *ast.CompositeLit:
		_, isMap := x.Type.(*ast.MapType)
		return len(x.Elts) > 0 && !isMap
	case *ast.CallExpr:
		f, ok := x.Fun.(*ast.SelectorExpr)
		if !ok || f.Sel.Name != "New" || len(x.Args) != 1 {
			return false
		}
		from, ok := f.X.(*ast.Ident)
		return ok && from.Name == "errors"
	}
	return false
}

// rootOf is the name that an expression begins with: t of t[3].rows[0].
func rootOf(e ast.Expr) string {
	switch x := e.(type) {
	case *ast.Ident:
		return x.Name
	case *ast.IndexExpr:
		return rootOf(x.X)
	case *ast.SliceExpr:
		return rootOf(x.X)
	case *ast.SelectorExpr:
		return rootOf(x.X)
	case *ast.ParenExpr:
		return rootOf(x.X)
	}
	return ""
}

// touched are the names that a node writes to, takes the address of, or hands to a method of their own.
func touched(n ast.Node) []string {
	var out []string
	switch x := n.(type) {
	case *ast.AssignStmt:
		if x.Tok != token.DEFINE {
			for _, e := range x.Lhs {
				out = append(out, rootOf(e))
			}
		}
	case *ast.IncDecStmt:
		out = append(out, rootOf(x.X))
	case *ast.UnaryExpr:
		if x.Op == token.AND {
			out = append(out, rootOf(x.X))
		}
	case *ast.CallExpr:
		if f, ok := x.Fun.(*ast.SelectorExpr); ok {
			out = append(out, rootOf(f.X))
		}
	}
	return out
}

// Nothing is kept from call to call: at package level stand tables that are written out and left alone.
func TestPackageLevelHoldsTablesAlone(t *testing.T) {
	places, files := programFiles(t)
	vars := packageVars(files)
	for name, value := range vars {
		if !isWrittenOut(value) {
			t.Errorf("%s is not written out where it is declared", name)
		}
	}
	for _, file := range files {
		ast.Inspect(file, func(n ast.Node) bool {
			for _, name := range touched(n) {
				if _, ok := vars[name]; ok {
					t.Errorf("%s: %s is written to or its address taken", places.Position(n.Pos()), name)
				}
			}
			return true
		})
	}
}
