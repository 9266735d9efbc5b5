// Package rules: what holds for the project's files, held against them.
package rules

import (
	"bytes"
	"crypto/sha256"
	"encoding/hex"
	"go/ast"
	"go/format"
	"go/parser"
	"go/token"
	"io/fs"
	"os"
	"path/filepath"
	"strconv"
	"strings"
	"testing"
)

const allowed = " bytes cmp container/heap errors iter maps math math/bits slices sort strconv strings sync sync/atomic unicode unicode/utf8 "

// goFiles are the project's own Go files: those of sharedtests are only laid beside them.
func goFiles(t *testing.T) []string {
	t.Helper()
	var out []string
	err := filepath.WalkDir("..", func(path string, d fs.DirEntry, err error) error {
		if err != nil {
			return err
		}
		if d.IsDir() && (d.Name() == "sharedtests" || d.Name() == ".git") {
			return filepath.SkipDir
		}
		if strings.HasSuffix(path, ".go") {
			out = append(out, path)
		}
		return nil
	})
	if err != nil || len(out) == 0 {
		t.Fatal(len(out), err)
	}
	return out
}

// TestGivenFiles: by them hang the numbers and texts of package api (P5).
func TestGivenFiles(t *testing.T) {
	for path, want := range map[string]string{
		"../api/api.go":     "303a739ac57b6d6966a941495e1edfd6207adcd30585276268688c882d908de1",
		"../plain/plain.go": "526f0fbaeb7b0dde9c3d947fdd6130c681f95ea847de4b62c4f5f0a548befba5",
	} {
		data, err := os.ReadFile(path)
		if err != nil {
			t.Fatal(err)
		}
		if sum := sha256.Sum256(data); hex.EncodeToString(sum[:]) != want {
			t.Errorf("%s is not as it was given", path)
		}
	}
}

func TestLayout(t *testing.T) {
	for _, path := range goFiles(t) {
		data, err := os.ReadFile(path)
		if err != nil {
			t.Fatal(err)
		}
		if neat, err := format.Source(data); err != nil || !bytes.Equal(neat, data) {
			t.Errorf("%s: not gofmt's layout (%v)", path, err)
		}
	}
}

func TestImportsAndLengths(t *testing.T) {
	for _, path := range goFiles(t) {
		if strings.HasSuffix(path, "_test.go") {
			continue
		}
		set := token.NewFileSet()
		file, err := parser.ParseFile(set, path, nil, 0)
		if err != nil {
			t.Fatal(err)
		}
		for _, spec := range file.Imports {
			name, _ := strconv.Unquote(spec.Path.Value)
			if !strings.HasPrefix(name, "optima/") && !strings.Contains(allowed, " "+name+" ") {
				t.Errorf("%s imports %s", path, name)
			}
		}
		for _, d := range file.Decls {
			f, ok := d.(*ast.FuncDecl)
			if ok && set.Position(f.End()).Line-set.Position(f.Pos()).Line >= 60 {
				t.Errorf("%s: %s is too long", path, f.Name.Name)
			}
		}
	}
}
