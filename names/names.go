// Package names: what a name is, and of what it is put together.
package names

import (
	"iter"
	"strings"

	"signpost/api"
)

// Root is the name without labels.
const Root = ""

const (
	dot     = "."
	longest = api.MaxLabels*api.MaxLabel + (api.MaxLabels-1)*len(dot)
)

// Valid tells whether s is a name, in small letters.
func Valid(s string) bool {
	// Asked first, so that a text of any length costs no more than a name.
	if len(s) > longest {
		return false
	}
	labels := Labels(s)
	if len(labels) > api.MaxLabels {
		return false
	}
	for _, label := range labels {
		if !isLabel(label) {
			return false
		}
	}
	return true
}

// Labels takes a name apart; the root has no labels.
func Labels(name string) []string {
	// Split would make one empty label of the root.
	if name == Root {
		return nil
	}
	return strings.Split(name, dot)
}

// Join puts a name together of its labels.
func Join(labels ...string) string {
	return strings.Join(labels, dot)
}

// Above goes through the names above a name, the nearest first and the root
// last; above the root there is none.
func Above(name string) iter.Seq[string] {
	return func(yield func(string) bool) {
		labels := Labels(name)
		for i := range labels {
			if !yield(Join(labels[i+1:]...)) {
				return
			}
		}
	}
}

// Upward goes through a name and the names above it.
func Upward(name string) iter.Seq[string] {
	return func(yield func(string) bool) {
		if !yield(name) {
			return
		}
		for above := range Above(name) {
			if !yield(above) {
				return
			}
		}
	}
}

// Within tells whether a name is another one, or that one is above it.
func Within(name, other string) bool {
	for upward := range Upward(name) {
		if upward == other {
			return true
		}
	}
	return false
}

func isLabel(s string) bool {
	if len(s) < 1 || len(s) > api.MaxLabel {
		return false
	}
	for i := range len(s) {
		if s[i] < 'a' || s[i] > 'z' {
			return false
		}
	}
	return true
}
