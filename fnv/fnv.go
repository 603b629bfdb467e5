// Package fnv is layer 2, a hash: see shared/doc/02-fnv.md.
package fnv

import "hopper/api"

const (
	offset = 14695981039346656037
	prime  = 1099511628211
	digits = "0123456789abcdef"
)

// Of tells the hash of s.
func Of(s string) uint64 {
	return Roll(offset, s)
}

// Roll tells what the hash h comes to by the bytes of s.
func Roll(h uint64, s string) uint64 {
	at := 0
next:
	if at == len(s) {
		return h
	}
	h = (h ^ uint64(s[at])) * prime
	at++
	goto next
}

// Text tells h in 16 digits, the highest first.
func Text(h uint64) string {
	var text [16]byte
	for i := len(text) - 1; i >= 0; i-- {
		text[i] = digits[h%16]
		h /= 16
	}
	return string(text[:])
}

// Shard tells which of n shards sender is of; -1, where there is no such sender or no such n.
func Shard(sender int, n int) int {
	if sender < 0 || sender > api.MaxSender || n < 1 || n > api.MaxShards {
		return -1
	}
	// By way of a byte: a string made of the number itself would be a rune's two bytes from 128 on.
	one := string([]byte{byte(sender)})
	return int(Of(one) % uint64(n))
}
