package annal_test

import (
	"bytes"
	"encoding/json"
	"os"
	"os/exec"
	"path/filepath"
	"strings"
	"testing"

	"annal/annal"
	"annal/api"
)

// No two texts are known that have one hash. So that Clash finds some, the program is built once more, with a hash of two bits in the place of the true one, and TestWeakHash runs there.
const weakDigest = `package digest

import (
	"crypto/sha256"

	"annal/api"
)

func Hash(data []byte) api.Digest { return api.Digest{sha256.Sum256(data)[0] & 3} }

func Tag(key []byte, data []byte) api.Digest { return Hash(append(key[:len(key):len(key)], data...)) }
`

func TestClashUnderAWeakHash(t *testing.T) {
	command := exec.Command("go", "test", "-overlay", writeOverlay(t), "-run", "^TestWeakHash$", "-v", ".")
	out, err := command.CombinedOutput()
	if err != nil || !strings.Contains(string(out), "--- PASS: TestWeakHash") {
		t.Errorf("P10, P12: under a weak hash: %v\n%s", err, out)
	}
}

// writeOverlay tells the builder to read the weak digest, and no file of the true one.
func writeOverlay(t *testing.T) string {
	t.Helper()
	strong, err := filepath.Abs("../digest")
	if err != nil {
		t.Fatal(err)
	}
	files, err := filepath.Glob(filepath.Join(strong, "*.go"))
	if err != nil || len(files) == 0 {
		t.Fatalf("no files of package digest: %v", err)
	}
	replace := map[string]string{}
	for _, f := range files {
		replace[f] = ""
	}
	folder := t.TempDir()
	replace[filepath.Join(strong, "weak.go")] = writeFile(t, folder, "weak.go", []byte(weakDigest))
	overlay, err := json.Marshal(map[string]any{"Replace": replace})
	if err != nil {
		t.Fatal(err)
	}
	return writeFile(t, folder, "overlay.json", overlay)
}

func writeFile(t *testing.T, folder, name string, data []byte) string {
	t.Helper()
	path := filepath.Join(folder, name)
	if err := os.WriteFile(path, data, 0o600); err != nil {
		t.Fatal(err)
	}
	return path
}

// weakWays: all that can be shown with a path of this length, of two entries and of each digest that a weak hash tells.
func weakWays(length int) []shown {
	if length == 0 {
		return []shown{{entry: []byte("one")}, {entry: []byte("other")}}
	}
	var list []shown
	for _, s := range weakWays(length - 1) {
		for d := range byte(4) {
			path := append(s.path[:len(s.path):len(s.path)], api.Digest{d})
			list = append(list, shown{s.entry, path})
		}
	}
	return list
}

func TestWeakHash(t *testing.T) {
	if annal.Hash(nil) == wantHash(nil) {
		t.Skip("the hash is the true one: TestClashUnderAWeakHash runs this under a weak one")
	}
	found := map[int]int{}
	for n := 1; n <= 5; n++ {
		for i := range n {
			list := weakWays(pathLength(t, i, n))
			for _, a := range list {
				for _, b := range list {
					found[checkWeak(t, i, n, a, b)]++
				}
			}
		}
	}
	for height := range 4 {
		if found[height] == 0 {
			t.Errorf("no two texts of the height %d had one hash, so that nothing was tested there", height)
		}
	}
}

// checkWeak tells the height at which two ways to one root part, the leaf's being 0, or less than that if they don't.
func checkWeak(t *testing.T, i, n int, a, b shown) int {
	t.Helper()
	ours, _ := wantTexts(annal.Hash, a.entry, i, n, a.path)
	theirs, _ := wantTexts(annal.Hash, b.entry, i, n, b.path)
	height := len(ours) - 1
	same := annal.Hash(ours[height]) == annal.Hash(theirs[height])
	for height >= 0 && bytes.Equal(ours[height], theirs[height]) {
		height--
	}
	if height < 0 {
		checkNoClash(t, "all alike", i, n, a, b)
		return -1
	}
	first, second, got := annal.Clash(i, n, a.entry, a.path, b.entry, b.path)
	if !bytes.Equal(first, ours[height]) || !bytes.Equal(second, theirs[height]) || got != same {
		t.Fatalf("P10: Clash(%d, %d, %q %x, %q %x) = %x, %x, %v, want %x, %x, %v", i, n, a.entry, a.path, b.entry, b.path, first, second, got, ours[height], theirs[height], same)
	}
	if same != (annal.Hash(first) == annal.Hash(second)) {
		t.Fatalf("P12: Clash(%d, %d, %q %x, %q %x) tells %x and %x of two ways to one root, %v, which have not one hash", i, n, a.entry, a.path, b.entry, b.path, first, second, same)
	}
	if !same {
		return -1
	}
	return height
}
