// Package rules_test checks what the rules of the language say about all packages.
package rules_test

import (
	"go/ast"
	"go/parser"
	"go/token"
	"go/types"
	"os"
	"path/filepath"
	"strconv"
	"strings"
	"testing"
)

const module = "acheron"

// source is what a package has at its package level.
type source struct {
	imports []string // packages of the project
	tables  map[string]float64
}

// most returns how many elements of a type one table may have.
func most(element ast.Expr) float64 {
	name, _ := element.(*ast.Ident)
	if name == nil {
		return 50
	}
	switch name.Name {
	case "byte", "bool", "uint8", "int8", "uint16", "int16":
		return 250
	case "uint32", "int32", "rune":
		return 200
	case "uint64", "int64", "uint", "int":
		return 150
	case "string":
		return 140
	}
	return 50 // rows
}

// partsOf returns which part of the largest table the tables of a declaration are.
func partsOf(d ast.Decl) map[string]float64 {
	parts := map[string]float64{}
	g, _ := d.(*ast.GenDecl)
	if g == nil || g.Tok != token.VAR {
		return nil
	}
	for _, s := range g.Specs {
		v := s.(*ast.ValueSpec)
		for i, value := range v.Values {
			if table, ok := value.(*ast.CompositeLit); ok {
				parts[v.Names[i].Name] = float64(len(table.Elts)) / most(table.Type.(*ast.ArrayType).Elt)
			}
		}
	}
	return parts
}

func read(t *testing.T, folder string) source {
	s := source{tables: map[string]float64{}}
	files, err := filepath.Glob(filepath.Join(folder, "*.go"))
	if err != nil {
		t.Fatal(err)
	}
	for _, file := range files {
		if strings.HasSuffix(file, "_test.go") {
			continue
		}
		tree, err := parser.ParseFile(token.NewFileSet(), file, nil, 0)
		if err != nil {
			t.Fatal(err)
		}
		for _, x := range tree.Imports {
			if path, _ := strconv.Unquote(x.Path.Value); strings.HasPrefix(path, module+"/") {
				s.imports = append(s.imports, strings.TrimPrefix(path, module+"/"))
			}
		}
		ast.Inspect(tree, func(n ast.Node) bool {
			if x, ok := n.(*ast.SelectorExpr); ok && types.ExprString(x) == "strings.Fields" { // it has a table of 256 bytes
				s.tables[types.ExprString(x)] = 1
			}
			return true
		})
		for _, d := range tree.Decls {
			for name, part := range partsOf(d) {
				s.tables[name] = part
			}
		}
	}
	return s
}

func packages(t *testing.T) map[string]source {
	found := map[string]source{}
	folders, err := os.ReadDir("..")
	if err != nil {
		t.Fatal(err)
	}
	for _, f := range folders {
		if f.IsDir() && f.Name() != "sharedtests" {
			found[f.Name()] = read(t, filepath.Join("..", f.Name()))
		}
	}
	return found
}

// Rule 3a: no table is too large, and neither are all that a package, with those that it calls, has.
func TestTables(t *testing.T) {
	all := packages(t)
	if len(all["lex"].tables) == 0 || len(all["format"].imports) == 0 {
		t.Fatal("the packages are not found")
	}
	for name := range all {
		sum := 0.0
		reached := []string{name}
		seen := map[string]bool{name: true}
		for i := 0; i < len(reached); i++ {
			for table, part := range all[reached[i]].tables {
				if part > 1 {
					t.Errorf("%s: the table %s is %.2f of what one may have", reached[i], table, part)
				}
				sum += part
			}
			for _, next := range all[reached[i]].imports {
				if !seen[next] {
					seen[next] = true
					reached = append(reached, next)
				}
			}
		}
		if sum > 2 {
			t.Errorf("package %s reaches tables that are %.2f of what one may have", name, sum)
		}
	}
}
