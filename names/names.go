// Package names: what a name is, and of what it is put together.
package names

import (
	"strings"

	"signpost/api"
)

const (
	dot     = "."
	longest = api.MaxLabels*api.MaxLabel + (api.MaxLabels-1)*len(dot)
)

// Valid tells whether s is a name, in small letters.
func Valid(s string) bool {
	// Asked first, so that a text of any length costs no more than a name.
	if len(s) > longest {
		return false
	}
	labels := Labels(s)
	if len(labels) > api.MaxLabels {
		return false
	}
	for _, label := range labels {
		if !isLabel(label) {
			return false
		}
	}
	return true
}

// Labels takes a name apart; the root has no labels.
func Labels(name string) []string {
	// Split would make one empty label of the root.
	if name == "" {
		return nil
	}
	return strings.Split(name, dot)
}

// Join puts a name together of its labels.
func Join(labels ...string) string {
	return strings.Join(labels, dot)
}

func isLabel(s string) bool {
	if len(s) < 1 || len(s) > api.MaxLabel {
		return false
	}
	for i := range len(s) {
		if s[i] < 'a' || s[i] > 'z' {
			return false
		}
	}
	return true
}
