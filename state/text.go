package state

import "attune/api"

// IsKey tells whether a text may be a key.
func IsKey(text string) bool {
	// The length comes first: a text that is far too long is not gone through.
	if len(text) < 1 || len(text) > api.MaxKey {
		return false
	}
	for i := range len(text) {
		if text[i] < 'a' || text[i] > 'z' {
			return false
		}
	}
	return true
}

// IsValue tells whether a text may be a value.
func IsValue(text string) bool {
	return len(text) <= api.MaxValue
}
