package tests

import (
	"go/ast"
	"go/parser"
	"go/token"
	"slices"
	"testing"
)

// No answer shows the table of limits, so the text of the program is asked.
func TestTableIsFilledAndRead(t *testing.T) {
	wantFilledAtStart(t, "l02_phantom.go", "shapeLimits")
}

// wantFilledAtStart asks that init alone fills a variable, and that an exported function reads it.
func wantFilledAtStart(t *testing.T, file, variable string) {
	t.Helper()
	var filledBy, readBy []string
	for _, f := range functionsOf(t, file) {
		uses, fills := usesOf(f, variable)
		if fills > 0 {
			filledBy = append(filledBy, f.Name.Name)
		}
		if uses > fills && f.Name.IsExported() {
			readBy = append(readBy, f.Name.Name)
		}
	}
	if !slices.Equal(filledBy, []string{"init"}) || len(readBy) == 0 {
		t.Error("filled by", filledBy, "and read by", readBy)
	}
}

// functionsOf has the functions of a file of the program, as text.
func functionsOf(t *testing.T, file string) []*ast.FuncDecl {
	parsed, err := parser.ParseFile(token.NewFileSet(), "../impl/"+file, nil, 0)
	if err != nil {
		t.Fatal(err)
	}
	var list []*ast.FuncDecl
	for _, d := range parsed.Decls {
		if f, ok := d.(*ast.FuncDecl); ok {
			list = append(list, f)
		}
	}
	return list
}

// usesOf counts where a function names a variable, and of these where it writes into it.
func usesOf(f *ast.FuncDecl, name string) (uses, fills int) {
	named := func(n ast.Node) bool {
		id, ok := n.(*ast.Ident)
		return ok && id.Name == name
	}
	ast.Inspect(f, func(n ast.Node) bool {
		if named(n) {
			uses++
		}
		if a, ok := n.(*ast.AssignStmt); ok {
			for _, to := range a.Lhs {
				ast.Inspect(to, func(n ast.Node) bool {
					if named(n) {
						fills++
					}
					return true
				})
			}
		}
		return true
	})
	return uses, fills
}
