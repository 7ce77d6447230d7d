// Package letters: the bytes, labels and names of which policies and requests are made.
// Bytes alone count: what other letters there are in the world are none here.
package letters

import "strings"

// IsSmall tells whether it is a letter a to z.
func IsSmall(c byte) bool { return 'a' <= c && c <= 'z' }

// IsLarge tells whether it is a letter A to Z.
func IsLarge(c byte) bool { return 'A' <= c && c <= 'Z' }

// IsDigit tells whether it is a digit.
func IsDigit(c byte) bool { return '0' <= c && c <= '9' }

// Run counts the bytes at the beginning of s that fit.
func Run(s string, fits func(byte) bool) int {
	for i := range len(s) {
		if !fits(s[i]) {
			return i
		}
	}
	return len(s)
}

// All tells whether each byte of s fits.
func All(s string, fits func(byte) bool) bool {
	return Run(s, fits) == len(s)
}

// IsLabel tells whether s is one or more letters, digits and "-".
func IsLabel(s string) bool {
	return s != "" && All(s, isLabelByte)
}

func isLabelByte(c byte) bool {
	return IsSmall(c) || IsLarge(c) || IsDigit(c) || c == '-'
}

// IsName tells whether s is labels with "." between.
func IsName(s string) bool {
	for _, label := range strings.Split(s, ".") {
		if !IsLabel(label) {
			return false
		}
	}
	return true
}

// Small turns large letters into small ones. (strings.ToLower would make letters of what is none.)
func Small(s string) string {
	b := []byte(s)
	for i, c := range b {
		if IsLarge(c) {
			b[i] = c - 'A' + 'a'
		}
	}
	return string(b)
}
