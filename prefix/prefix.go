// Package prefix: which prefixes there are, and their order.
package prefix

import (
	"cmp"

	"fibshift/api"
)

const addresses = 1 << api.Bits

// First is the prefix that no other is ordered ahead of.
func First() api.Prefix { return api.Prefix{} }

// Of tells a route's prefix.
func Of(r api.Route) api.Prefix { return api.Prefix{Addr: r.Addr, Len: r.Len} }

// IsAddress tells whether addr is an address.
func IsAddress(addr int) bool { return 0 <= addr && addr < addresses }

// Valid tells whether p is a prefix.
func Valid(p api.Prefix) bool {
	// The Len is asked first: it is a shift's width in size.
	return 0 <= p.Len && p.Len <= api.Bits && IsAddress(p.Addr) && p.Addr%size(p.Len) == 0
}

// Covering tells the prefix of that length, from 0 to api.Bits, that covers an address.
func Covering(addr, length int) api.Prefix {
	return api.Prefix{Addr: addr - addr%size(length), Len: length}
}

// Behind tells the first number that p no longer covers: an address, or one behind them all.
func Behind(p api.Prefix) int { return p.Addr + size(p.Len) }

// Side tells in which half, 0 or 1, of a prefix of that length, below api.Bits, an address of it is.
func Side(addr, length int) int { return addr / size(length+1) % 2 }

// Half tells the half, 0 or 1, of a prefix whose Len is below api.Bits.
func Half(p api.Prefix, side int) api.Prefix {
	return api.Prefix{Addr: p.Addr + side*size(p.Len+1), Len: p.Len + 1}
}

// Compare is below 0 if a is ordered ahead of b, above 0 if behind it.
func Compare(a, b api.Prefix) int {
	return cmp.Or(cmp.Compare(a.Addr, b.Addr), cmp.Compare(a.Len, b.Len))
}

// size is how many addresses a prefix of that length covers.
func size(length int) int { return 1 << (api.Bits - length) }
