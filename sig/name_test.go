package sig_test

import (
	"strings"
	"testing"

	"ropewalk/sig"
)

const (
	smallLetters = "abcdefghijklmnopqrstuvwxyz"
	greatLetters = "ABCDEFGHIJKLMNOPQRSTUVWXYZ"
	digits       = "0123456789"
)

func holds(letters string, c byte) bool { return strings.IndexByte(letters, c) >= 0 }

// P1.1: of every byte, whether it may stand first, second, and last.
func TestNamesByBytes(t *testing.T) {
	inName, inVariable := smallLetters+digits, smallLetters+greatLetters+digits
	for i := range 256 {
		c := byte(i)
		one := string([]byte{c})
		if got, want := sig.IsName(one), holds(smallLetters, c); got != want {
			t.Errorf("IsName(%q): %v", one, got)
		}
		if got, want := sig.IsVariable(one), holds(greatLetters, c); got != want {
			t.Errorf("IsVariable(%q): %v", one, got)
		}
		for _, rest := range []string{one, one + "b", "b" + one, "bcdefghijk" + one} {
			if got, want := sig.IsName("a"+rest), holds(inName, c); got != want {
				t.Errorf("IsName(%q): %v", "a"+rest, got)
			}
			if got, want := sig.IsVariable("A"+rest), holds(inVariable, c); got != want {
				t.Errorf("IsVariable(%q): %v", "A"+rest, got)
			}
		}
	}
}

// P1.1: 1 to 12 bytes.
func TestNamesByLength(t *testing.T) {
	for n := range 40 {
		want := 1 <= n && n <= 12
		if got := sig.IsName(strings.Repeat("a", n)); got != want {
			t.Errorf("IsName of %d bytes: %v", n, got)
		}
		if got := sig.IsVariable(strings.Repeat("A", n)); got != want {
			t.Errorf("IsVariable of %d bytes: %v", n, got)
		}
	}
}

// P1.1: names and variables, written out.
func TestNamesWrittenOut(t *testing.T) {
	for _, c := range []struct {
		name            string
		named, variable bool
	}{
		{"add", true, false},
		{"x1", true, false},
		{"a23456789012", true, false},
		{"a234567890123", false, false},
		{"abcdefghijklm", false, false},
		{"X1y", false, true},
		{"XYZ", false, true},
		{"A23456789012", false, true},
		{"A234567890123", false, false},
		{"x", true, false},
		{"X", false, true},
		{"aB", false, false},
		{"1x", false, false},
		{"1", false, false},
		{"a_b", false, false},
		{"A_b", false, false},
		{" a", false, false},
		{"a ", false, false},
		{"A\n", false, false},
		{"a\x00", false, false},
		{"", false, false},
		{"é", false, false},
		{"aé", false, false},
		{"É", false, false},
		{"Aé", false, false},
		{"a٣", false, false},
		{"a\xff", false, false},
		{"\xff", false, false},
	} {
		if got := sig.IsName(c.name); got != c.named {
			t.Errorf("IsName(%q): %v", c.name, got)
		}
		if got := sig.IsVariable(c.name); got != c.variable {
			t.Errorf("IsVariable(%q): %v", c.name, got)
		}
	}
}
