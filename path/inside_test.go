package path

import (
	"testing"

	"tollbar/spec"
)

// TestBoxes: no version has a box below its root, so that one is handed to what is inside.
func TestBoxes(t *testing.T) { // P15.2
	for _, kind := range []int{spec.Box, spec.Leaf} {
		s := spec.Spec{Name: "box", Kind: kind}
		if !fits(s, "") {
			t.Errorf("kind %d: no key is refused", kind)
		}
		for _, key := range []string{"a", "A", "-", " ", "abcdefghijkl", "abcdefghijklm", "\xff"} {
			if fits(s, key) {
				t.Errorf("kind %d: the key %q is accepted", kind, key)
			}
		}
	}
}
