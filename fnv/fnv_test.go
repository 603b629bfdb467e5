package fnv_test

import (
	"fmt"
	stdfnv "hash/fnv"
	"math"
	"strings"
	"testing"

	"hopper/fnv"
)

// texts: of no bytes, of plain ones, of a zero byte, of bytes that are no characters, and long ones.
func texts() []string {
	var all strings.Builder
	for b := range 256 {
		all.WriteByte(byte(b))
	}
	return []string{
		"", "a", "b", "foobar", "\x00", "\x00\x00", "\x7f\x80\xff", "\u00fc\u20ac", "\xff\xfe\xc3",
		all.String(), strings.Repeat("hopper", 1000),
	}
}

// standard tells the hash by the library's own means.
func standard(s string) uint64 {
	h := stdfnv.New64a()
	h.Write([]byte(s))
	return h.Sum64()
}

// TestOf is P2.1: known hashes, and those of the library.
func TestOf(t *testing.T) {
	for s, want := range map[string]uint64{
		"":       0xcbf29ce484222325,
		"a":      0xaf63dc4c8601ec8c,
		"b":      0xaf63df4c8601f1a5,
		"foobar": 0x85944171f73967e8,
	} {
		if h := fnv.Of(s); h != want {
			t.Errorf("Of(%q): %x; want %x", s, h, want)
		}
	}
	for _, s := range texts() {
		if h := fnv.Of(s); h != standard(s) {
			t.Errorf("Of(%.20q): %x; want %x", s, h, standard(s))
		}
	}
}

// TestRoll is P2.1: from any hash on, exclusive or first, and then times.
func TestRoll(t *testing.T) {
	for _, c := range []struct {
		h    uint64
		s    string
		want uint64
	}{
		{0, "", 0},
		{math.MaxUint64, "", math.MaxUint64},
		{0, "\x00", 0},
		{0, "\x01", 1099511628211},
		{1, "\x01", 0},
		{1, "\x00", 1099511628211},
		{0xff, "\xff\x02", 2 * 1099511628211},
		{0, "\x80", 128 * 1099511628211},
		{14695981039346656037, "foobar", 0x85944171f73967e8},
	} {
		if h := fnv.Roll(c.h, c.s); h != c.want {
			t.Errorf("Roll(%x, %q): %x; want %x", c.h, c.s, h, c.want)
		}
	}
	for _, h := range []uint64{0, 1, 255, 256, 1 << 63, math.MaxUint64} {
		for b := range 256 {
			want := (h ^ uint64(b)) * 1099511628211
			if got := fnv.Roll(h, string([]byte{byte(b)})); got != want {
				t.Errorf("Roll(%x, byte %d): %x; want %x", h, b, got, want)
			}
		}
	}
}

// TestText is P2.2: sixteen digits, whatever the hash.
func TestText(t *testing.T) {
	for h, want := range map[uint64]string{
		0:                  "0000000000000000",
		9:                  "0000000000000009",
		10:                 "000000000000000a",
		15:                 "000000000000000f",
		16:                 "0000000000000010",
		0x0123456789abcdef: "0123456789abcdef",
		0xfedcba9876543210: "fedcba9876543210",
		1 << 63:            "8000000000000000",
		math.MaxUint64:     "ffffffffffffffff",
	} {
		if s := fnv.Text(h); s != want {
			t.Errorf("Text(%x): %q; want %q", h, s, want)
		}
	}
	if s := fnv.Text(fnv.Of("")); s != "cbf29ce484222325" {
		t.Errorf("of no bytes: %q", s)
	}
	for _, s := range texts() {
		h := fnv.Of(s)
		if text := fnv.Text(h); text != fmt.Sprintf("%016x", h) {
			t.Errorf("Text(%x): %q", h, text)
		}
	}
}

// TestShard is P2.3: every sender and every number of shards.
func TestShard(t *testing.T) {
	for n := 1; n <= 8; n++ {
		for sender := range 256 {
			want := int(standard(string([]byte{byte(sender)})) % uint64(n))
			if k := fnv.Shard(sender, n); k != want {
				t.Errorf("Shard(%d, %d): %d; want %d", sender, n, k, want)
			}
		}
	}
}

// TestShardOfWrong is P2.3: of a sender or a number that may not be there is no shard.
func TestShardOfWrong(t *testing.T) {
	for _, c := range [][2]int{
		{-1, 1}, {256, 1}, {257, 8}, {512, 8}, {-256, 8}, {1 << 32, 8}, {math.MinInt, 8}, {math.MaxInt, 8},
		{0, 0}, {0, 9}, {255, 9}, {0, -1}, {0, 16}, {0, 1 << 32}, {0, math.MinInt}, {0, math.MaxInt}, {-1, 0}, {256, 9},
	} {
		if k := fnv.Shard(c[0], c[1]); k != -1 {
			t.Errorf("Shard(%d, %d): %d; want -1", c[0], c[1], k)
		}
	}
}

// TestRollsOn is P2.4: the hash of two texts is that of the second one, rolled on from that of the first one.
func TestRollsOn(t *testing.T) {
	for _, first := range texts() {
		for _, second := range texts() {
			if h := fnv.Roll(fnv.Of(first), second); h != fnv.Of(first+second) {
				t.Errorf("%.20q and %.20q: %x; want %x", first, second, h, fnv.Of(first+second))
			}
		}
	}
}

// TestLastByteTells is P2.4: of texts that differ in their last byte alone hashes are unlike.
func TestLastByteTells(t *testing.T) {
	for _, s := range texts() {
		seen := map[uint64]int{}
		for b := range 256 {
			h := fnv.Of(s + string([]byte{byte(b)}))
			if other, ok := seen[h]; ok {
				t.Errorf("%.20q: last bytes %d and %d: both %x", s, other, b, h)
			}
			seen[h] = b
		}
	}
}
