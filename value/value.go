// Package value is layer 1: see shared/doc/01-value.md.
package value

import (
	"cmp"
	"strconv"
	"strings"

	"lambrequin/api"
)

// Sym is a symbol.
func Sym(s string) api.Value {
	return api.Value{IsSym: true, Sym: s}
}

// Int is a whole number.
func Int(n int64) api.Value {
	return api.Value{N: n}
}

// Compare tells which of two is ahead.
func Compare(a, b api.Value) int {
	switch {
	case a.IsSym && b.IsSym:
		return strings.Compare(a.Sym, b.Sym)
	case a.IsSym:
		return 1
	case b.IsSym:
		return -1
	}
	return cmp.Compare(a.N, b.N)
}

// Same tells whether two are the same.
func Same(a, b api.Value) bool {
	return Compare(a, b) == 0
}

// operator is a comparison's mark, and what Compare must answer for it to hold.
type operator struct {
	mark  string
	holds func(order int) bool
}

// operators is a function, since a table of functions may not stand at package level.
func operators() []operator {
	return []operator{
		{"=", func(order int) bool { return order == 0 }},
		{"!=", func(order int) bool { return order != 0 }},
		{"<", func(order int) bool { return order < 0 }},
		{"<=", func(order int) bool { return order <= 0 }},
		{">", func(order int) bool { return order > 0 }},
		{">=", func(order int) bool { return order >= 0 }},
	}
}

// Holds tells whether an operator holds of two; false: there is none such.
func Holds(op string, a, b api.Value) (bool, bool) {
	for _, o := range operators() {
		if o.mark == op {
			return o.holds(Compare(a, b)), true
		}
	}
	return false, false
}

// Plain tells whether a symbol needs no marks.
func Plain(s string) bool {
	if s == "" || s == "not" {
		return false
	}
	for i, r := range s {
		if i == 0 && !isSmall(r) || !isNamePart(r) {
			return false
		}
	}
	return true
}

func isSmall(r rune) bool {
	return 'a' <= r && r <= 'z'
}

func isNamePart(r rune) bool {
	return isSmall(r) || 'A' <= r && r <= 'Z' || '0' <= r && r <= '9' || r == '_'
}

// Text is a value's text.
func Text(v api.Value) string {
	if !v.IsSym {
		return strconv.FormatInt(v.N, 10)
	}
	if len(v.Sym) <= api.MaxName && Plain(v.Sym) {
		return v.Sym
	}
	return quoted(v.Sym)
}

// quoted goes byte by byte, since a symbol's bytes need not be the text of any runes.
func quoted(s string) string {
	text := []byte{'\''}
	for i := 0; i < len(s); i++ {
		switch s[i] {
		case '\n':
			text = append(text, '\\', 'n')
		case '\\', '\'':
			text = append(text, '\\', s[i])
		default:
			text = append(text, s[i])
		}
	}
	return string(append(text, '\''))
}
