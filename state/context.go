package state

import "attune/api"

// Context has seen the dots of each replica up to that replica's number.
type Context api.Context

// Sound tells whether each of its numbers is one that a context may have.
func (c Context) Sound() bool {
	for _, n := range c {
		if n < 0 || n > api.MaxCount {
			return false
		}
	}
	return true
}

// HasSeen tells whether the dot is among those that it has seen.
func (c Context) HasSeen(d Dot) bool {
	return d.N <= c[d.Replica]
}

// Greater is, replica by replica, the greater number of both.
func (c Context) Greater(other Context) Context {
	for i, n := range other {
		c[i] = max(c[i], n)
	}
	return c
}
