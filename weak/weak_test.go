// Package weak has the tests that need a sum with which two texts often have the same one. They run
// in a second run of go test, in which an overlay replaces package sha.
package weak

import (
	"encoding/json"
	"os"
	"os/exec"
	"path/filepath"
	"strings"
	"testing"

	"planchet/api"
	"planchet/sha"
)

const source = `package sha

import "planchet/api"

type Hash struct{ text []byte }

func New() *Hash { return &Hash{} }

func (h *Hash) Write(b []byte) {
	if h != nil {
		h.text = append(h.text, b...)
	}
}

func (h *Hash) Sum() api.Digest {
	if h == nil {
		return Sum()
	}
	return Sum(h.text)
}

// Sum returns one of 61 sums.
func Sum(parts ...[]byte) api.Digest {
	x := uint64(14695981039346656037)
	for _, p := range parts {
		for _, b := range p {
			x = (x ^ uint64(b)) * 1099511628211
		}
	}
	x ^= x >> 29
	x *= 0xbf58476d1ce4e5b9
	x ^= x >> 32
	return api.Digest{31: byte(x % 61)}
}
`

// isWeak reports whether package sha is replaced.
func isWeak() bool {
	d := sha.Sum([]byte("abc"))
	return d == api.Digest{31: d[31]}
}

// needWeak skips a test that is only for the second run.
func needWeak(t *testing.T) {
	t.Helper()
	if !isWeak() {
		t.Skip("it runs in the second run")
	}
}

func TestSecondRun(t *testing.T) {
	if isWeak() {
		t.Skip("this is the second run")
	}
	dir := t.TempDir()
	weak := filepath.Join(dir, "weak.go")
	if err := os.WriteFile(weak, []byte(source), 0o644); err != nil {
		t.Fatal(err)
	}
	files, err := filepath.Glob(filepath.Join("..", "sha", "*.go"))
	if err != nil {
		t.Fatal(err)
	}
	replace := map[string]string{}
	with := weak
	for _, f := range files {
		if strings.HasSuffix(f, "_test.go") {
			continue
		}
		path, err := filepath.Abs(f)
		if err != nil {
			t.Fatal(err)
		}
		replace[path] = with
		with = "" // the other files are left out
	}
	overlay := filepath.Join(dir, "overlay.json")
	b, err := json.Marshal(map[string]map[string]string{"Replace": replace})
	if err != nil {
		t.Fatal(err)
	}
	if err := os.WriteFile(overlay, b, 0o644); err != nil {
		t.Fatal(err)
	}
	out, err := exec.Command("go", "test", "-count=1", "-v", "-overlay="+overlay, ".").CombinedOutput()
	if err != nil || !strings.Contains(string(out), "--- PASS: TestIsWeak") {
		t.Errorf("%v\n%s", err, out)
	}
}

func TestIsWeak(t *testing.T) {
	needWeak(t)
	h := sha.New()
	h.Write([]byte("ab"))
	h.Write([]byte("c"))
	if h.Sum() != sha.Sum([]byte("abc")) || sha.Sum([]byte("a")) == sha.Sum([]byte("b")) {
		t.Error("the sum")
	}
}
