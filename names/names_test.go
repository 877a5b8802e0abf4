package names

import (
	"iter"
	"slices"
	"strings"
	"testing"
)

func TestValidNames(t *testing.T) {
	for _, s := range []string{"", "a", "z", "abcdef", "a.b", "a.b.c.d.e", "uvwxyz.uvwxyz.uvwxyz.uvwxyz.uvwxyz"} {
		if !Valid(s) {
			t.Errorf("Valid(%q) = false", s)
		}
	}
}

func TestWrongNames(t *testing.T) {
	wrong := []string{".", "..", "a.", ".a", "a..b", "abcdefg", "a.abcdefg", "a.b.c.d.e.f", "A", "a1", "a-b", "a b", "`", "{", "@", "[",
		"ä", "a\x00", "\xff", "a.b.c.d.e.", "....", ".....", strings.Repeat("a", 1<<20), strings.Repeat(".", 1<<20), strings.Repeat("a.", 1<<20)}
	for _, s := range wrong {
		if Valid(s) {
			t.Errorf("Valid(%.40q) = true", s)
		}
	}
}

func TestLabelsAndJoin(t *testing.T) {
	for _, c := range []struct {
		name   string
		labels []string
	}{
		{"", nil}, {"a", []string{"a"}}, {"a.bc", []string{"a", "bc"}}, {"a.b.c.d.e", []string{"a", "b", "c", "d", "e"}},
	} {
		if labels := Labels(c.name); !slices.Equal(labels, c.labels) {
			t.Errorf("Labels(%q) = %q, want %q", c.name, labels, c.labels)
		}
		if name := Join(c.labels...); name != c.name {
			t.Errorf("Join(%q) = %q, want %q", c.labels, name, c.name)
		}
	}
}

func TestAboveAndUpward(t *testing.T) {
	for _, c := range []struct {
		name  string
		above []string
	}{
		{"", nil}, {"a", []string{""}}, {"a.bc", []string{"bc", ""}}, {"a.a.a", []string{"a.a", "a", ""}},
		{"a.b.c.d.e", []string{"b.c.d.e", "c.d.e", "d.e", "e", ""}},
	} {
		if above := slices.Collect(Above(c.name)); !slices.Equal(above, c.above) {
			t.Errorf("Above(%q) = %q, want %q", c.name, above, c.above)
		}
		upward := append([]string{c.name}, c.above...)
		if got := slices.Collect(Upward(c.name)); !slices.Equal(got, upward) {
			t.Errorf("Upward(%q) = %q, want %q", c.name, got, upward)
		}
	}
}

// Whoever goes through names may stop at any of them, and begin again.
func TestAboveAndUpwardStop(t *testing.T) {
	above, upward := Above("a.b.c.d.e"), Upward("a.b.c.d.e")
	for stop := 1; stop <= 5; stop++ {
		if got := slices.Collect(first(stop, above)); !slices.Equal(got, []string{"b.c.d.e", "c.d.e", "d.e", "e", ""}[:stop]) {
			t.Errorf("the first %d names above are %q", stop, got)
		}
		if got := slices.Collect(first(stop, upward)); !slices.Equal(got, []string{"a.b.c.d.e", "b.c.d.e", "c.d.e", "d.e", "e"}[:stop]) {
			t.Errorf("the first %d names upward are %q", stop, got)
		}
	}
}

func TestWithin(t *testing.T) {
	for _, c := range []struct {
		name, other string
		want        bool
	}{
		{"", "", true}, {"a", "", true}, {"a", "a", true}, {"b.a", "a", true}, {"c.b.a", "a", true}, {"c.b.a", "b.a", true}, {"a.b.c.d.e", "", true}, {"a.b.c.d.e", "a.b.c.d.e", true},
		{"", "a", false}, {"a", "b", false}, {"a", "b.a", false}, {"ba", "a", false}, {"b.ba", "a", false}, {"a.b", "a", false}, {"c.b.a", "c.b", false}, {"c.b.a", "a.a", false},
	} {
		if got := Within(c.name, c.other); got != c.want {
			t.Errorf("Within(%q, %q) = %v", c.name, c.other, got)
		}
	}
}

func first(count int, all iter.Seq[string]) iter.Seq[string] {
	return func(yield func(string) bool) {
		left := count
		for name := range all {
			left--
			if !yield(name) || left == 0 {
				return
			}
		}
	}
}
