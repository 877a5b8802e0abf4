package names

import (
	"slices"
	"strings"
	"testing"
)

func TestValidNames(t *testing.T) {
	for _, s := range []string{"", "a", "z", "abcdef", "a.b", "a.b.c.d.e", "uvwxyz.uvwxyz.uvwxyz.uvwxyz.uvwxyz"} {
		if !Valid(s) {
			t.Errorf("Valid(%q) = false", s)
		}
	}
}

func TestWrongNames(t *testing.T) {
	wrong := []string{".", "..", "a.", ".a", "a..b", "abcdefg", "a.abcdefg", "a.b.c.d.e.f", "A", "a1", "a-b", "a b", "`", "{", "@", "[",
		"ä", "a\x00", "\xff", "a.b.c.d.e.", "....", ".....", strings.Repeat("a", 1<<20), strings.Repeat(".", 1<<20), strings.Repeat("a.", 1<<20)}
	for _, s := range wrong {
		if Valid(s) {
			t.Errorf("Valid(%.40q) = true", s)
		}
	}
}

func TestLabelsAndJoin(t *testing.T) {
	for _, c := range []struct {
		name   string
		labels []string
	}{
		{"", nil}, {"a", []string{"a"}}, {"a.bc", []string{"a", "bc"}}, {"a.b.c.d.e", []string{"a", "b", "c", "d", "e"}},
	} {
		if labels := Labels(c.name); !slices.Equal(labels, c.labels) {
			t.Errorf("Labels(%q) = %q, want %q", c.name, labels, c.labels)
		}
		if name := Join(c.labels...); name != c.name {
			t.Errorf("Join(%q) = %q, want %q", c.labels, name, c.name)
		}
	}
}
