package sig

import "ropewalk/api"

// IsName tells whether a symbol may be called so.
func IsName(name string) bool {
	if !fits(name) || !small(name[0]) {
		return false
	}
	for i := 1; i < len(name); i++ {
		if !small(name[i]) && !digit(name[i]) {
			return false
		}
	}
	return true
}

// IsVariable tells whether a variable may be written so.
func IsVariable(name string) bool {
	if !fits(name) || !great(name[0]) {
		return false
	}
	for i := 1; i < len(name); i++ {
		if !small(name[i]) && !great(name[i]) && !digit(name[i]) {
			return false
		}
	}
	return true
}

// fits tells whether a name has as many bytes as one may have.
func fits(name string) bool { return len(name) >= 1 && len(name) <= api.MaxName }

func small(c byte) bool { return 'a' <= c && c <= 'z' }

func great(c byte) bool { return 'A' <= c && c <= 'Z' }

func digit(c byte) bool { return '0' <= c && c <= '9' }
