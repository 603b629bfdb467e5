package txn_test

import (
	"fmt"
	"hash/fnv"
	"math"
	"strings"
	"testing"

	"hopper/api"
	"hopper/txn"
)

var (
	least    = api.Tx{Gas: 1}
	greatest = api.Tx{Sender: 255, Nonce: 1<<32 - 1, Tip: 1 << 40, Cap: 1 << 40, Gas: 1 << 30, Data: strings.Repeat("d", 256)}
	plain    = api.Tx{Sender: 7, Nonce: 300, Tip: 100, Cap: 120, Gas: 21000, Data: "ab"}
)

const plainBytes = "\x01" + "\x01\x07" + "\x02\x01\x2c" + "\x01\x64" + "\x01\x78" + "\x02\x52\x08" + "\x00\x02ab"

// good: transactions that may be, each field at its edges and between.
func good() []api.Tx {
	l := []api.Tx{least, greatest, plain}
	for _, sender := range []int{0, 1, 127, 128, 255} {
		l = append(l, api.Tx{Sender: sender, Tip: 3, Cap: 3, Gas: 1})
	}
	for _, nonce := range []int{0, 255, 256, 1 << 31, 1<<32 - 1} {
		l = append(l, api.Tx{Sender: 2, Nonce: nonce, Tip: 3, Cap: 4, Gas: 9})
	}
	for _, tip := range []int{0, 1, 255, 256, 1<<40 - 1, 1 << 40} {
		l = append(l, api.Tx{Tip: tip, Cap: tip, Gas: 1}, api.Tx{Tip: tip, Cap: 1 << 40, Gas: 1})
	}
	for _, gas := range []int{1, 255, 256, 1<<30 - 1, 1 << 30} {
		l = append(l, api.Tx{Gas: gas})
	}
	for _, data := range []string{"\x00", "\x00\x00", "\xff\xfe", "\u00fc", strings.Repeat("x", 255), strings.Repeat("\x00", 256)} {
		l = append(l, api.Tx{Sender: 9, Nonce: 9, Tip: 9, Cap: 9, Gas: 9, Data: data})
	}
	return l
}

// bad: transactions that may not be, by one field each.
func bad() []api.Tx {
	var l []api.Tx
	spoil := func(set func(x *api.Tx, n int), numbers ...int) {
		for _, n := range append(numbers, -1, math.MinInt, math.MaxInt) {
			for _, x := range []api.Tx{plain, greatest, least} {
				set(&x, n)
				l = append(l, x)
			}
		}
	}
	spoil(func(x *api.Tx, n int) { x.Sender = n }, 256, 257, 1<<32)
	spoil(func(x *api.Tx, n int) { x.Nonce = n }, 1<<32, 1<<32+1)
	spoil(func(x *api.Tx, n int) { x.Tip, x.Cap = n, max(n, x.Cap) }, 1<<40+1, 1<<41)
	spoil(func(x *api.Tx, n int) { x.Cap = n }, 1<<40+1, 1<<41)
	spoil(func(x *api.Tx, n int) { x.Gas = n }, 0, 1<<30+1)
	return append(l,
		api.Tx{},
		api.Tx{Tip: 1, Gas: 1},
		api.Tx{Tip: 100, Cap: 99, Gas: 1},
		api.Tx{Tip: 1 << 40, Cap: 1<<40 - 1, Gas: 1},
		api.Tx{Tip: -1, Cap: 5, Gas: 1},
		api.Tx{Tip: -2, Cap: -1, Gas: 1},
		api.Tx{Gas: 1, Data: strings.Repeat("d", 257)},
		api.Tx{Gas: 1, Data: strings.Repeat("d", 65536)},
	)
}

// TestCheck is P4.1.
func TestCheck(t *testing.T) {
	for _, x := range good() {
		if !txn.Check(x) {
			t.Errorf("may not be: %v", x)
		}
	}
	for _, x := range bad() {
		if txn.Check(x) {
			t.Errorf("may be: %.80v", x)
		}
	}
}

// TestEncode is P4.2: known bytes, and none of those that may not be.
func TestEncode(t *testing.T) {
	for _, c := range []struct {
		x    api.Tx
		want string
	}{
		{least, "\x01" + "\x01\x00" + "\x01\x00" + "\x01\x00" + "\x01\x00" + "\x01\x01" + "\x00\x00"},
		{plain, plainBytes},
		{greatest, "\x01" + "\x01\xff" + "\x04\xff\xff\xff\xff" + "\x06\x01\x00\x00\x00\x00\x00" + "\x06\x01\x00\x00\x00\x00\x00" + "\x04\x40\x00\x00\x00" + "\x01\x00" + strings.Repeat("d", 256)},
		{api.Tx{Sender: 1, Nonce: 2, Tip: 3, Cap: 4, Gas: 5, Data: "\x06"}, "\x01\x01\x01\x01\x02\x01\x03\x01\x04\x01\x05\x00\x01\x06"},
	} {
		if s, ok := txn.Encode(c.x); s != c.want || !ok {
			t.Errorf("Encode(%.80v): %q, %v; want %q", c.x, s, ok, c.want)
		}
	}
	for _, x := range bad() {
		if s, ok := txn.Encode(x); s != "" || ok {
			t.Errorf("Encode(%.80v): %q, %v", x, s, ok)
		}
	}
}

// TestDecodedAsItWas is P4.2 and P4.5.
func TestDecodedAsItWas(t *testing.T) {
	for _, x := range good() {
		s, _ := txn.Encode(x)
		if got, ok := txn.Decode(s); got != x || !ok {
			t.Errorf("Decode of %q: %v, %v; want %v", s, got, ok, x)
		}
	}
	if got, ok := txn.Decode(plainBytes); got != plain || !ok {
		t.Errorf("Decode: %v, %v", got, ok)
	}
}

// TestDecodeOfNone is P4.2: bytes that are no transaction's.
func TestDecodeOfNone(t *testing.T) {
	data := strings.Repeat("d", 257)
	for _, s := range []string{
		"",
		"\x01",
		"\x00" + plainBytes[1:],
		"\x02" + plainBytes[1:],
		plainBytes[1:],
		plainBytes + "x",
		plainBytes + "\x00",
		plainBytes + plainBytes,
		"\x01" + "\x02\x01\x00" + "\x01\x00" + "\x01\x00" + "\x01\x00" + "\x01\x01" + "\x00\x00",                 // sender 256
		"\x01" + "\x02\x00\x07" + "\x01\x00" + "\x01\x00" + "\x01\x00" + "\x01\x01" + "\x00\x00",                 // a byte more than it takes
		"\x01" + "\x01\x00" + "\x05\x01\x00\x00\x00\x00" + "\x01\x00" + "\x01\x00" + "\x01\x01" + "\x00\x00",     // nonce 2^32
		"\x01" + "\x01\x00" + "\x01\x00" + "\x06\x01\x00\x00\x00\x00\x01" + "\x01\x00" + "\x01\x01" + "\x00\x00", // tip above all
		"\x01" + "\x01\x00" + "\x01\x00" + "\x01\x00" + "\x06\x01\x00\x00\x00\x00\x01" + "\x01\x01" + "\x00\x00", // cap above all
		"\x01" + "\x01\x00" + "\x01\x00" + "\x01\x05" + "\x01\x04" + "\x01\x01" + "\x00\x00",                     // cap below tip
		"\x01" + "\x01\x00" + "\x01\x00" + "\x01\x00" + "\x01\x00" + "\x01\x00" + "\x00\x00",                     // gas 0
		"\x01" + "\x01\x00" + "\x01\x00" + "\x01\x00" + "\x01\x00" + "\x04\x40\x00\x00\x01" + "\x00\x00",         // gas above all
		"\x01" + "\x01\x00" + "\x01\x00" + "\x01\x00" + "\x01\x00" + "\x01\x01" + "\x01\x01" + data,              // data of 257 bytes
		"\x01" + "\x01\x00" + "\x01\x00" + "\x01\x00" + "\x01\x00" + "\x01\x01" + "\x00\x01",                     // data of fewer bytes than it says
		"\x01" + "\x00" + "\x01\x00" + "\x01\x00" + "\x01\x00" + "\x01\x01" + "\x00\x00",                         // a number of no bytes
		strings.Repeat("\x01", 1000),
		strings.Repeat("\xff", 1000),
	} {
		if got, ok := txn.Decode(s); got != (api.Tx{}) || ok {
			t.Errorf("Decode(%.80q): %.80v, %v", s, got, ok)
		}
	}
	for _, x := range good() {
		s, _ := txn.Encode(x)
		for end := range s {
			if got, ok := txn.Decode(s[:end]); got != (api.Tx{}) || ok {
				t.Errorf("Decode(%.80q): %.80v, %v", s[:end], got, ok)
			}
		}
	}
}

// TestDecodeOfSpoiled is P4.2: whatever byte is another one, nothing is decoded but what those bytes are the encoding of.
func TestDecodeOfSpoiled(t *testing.T) {
	for _, x := range []api.Tx{least, plain, greatest} {
		s, _ := txn.Encode(x)
		for at := range s {
			for b := range 256 {
				spoiled := s[:at] + string([]byte{byte(b)}) + s[at+1:]
				got, ok := txn.Decode(spoiled)
				again, may := txn.Encode(got)
				if ok && (!may || again != spoiled) || !ok && got != (api.Tx{}) {
					t.Errorf("Decode(%.80q): %.80v, %v", spoiled, got, ok)
				}
			}
		}
	}
}

// TestSlots is P4.3: by how many bytes there are, where a slot more is needed, and none of those that may not be.
func TestSlots(t *testing.T) {
	for size := 0; size <= 256; size++ {
		x := api.Tx{Gas: 1, Data: strings.Repeat("x", size)}
		// 13 bytes, and the data.
		if n, want := txn.Slots(x), (13+size+31)/32; n != want {
			t.Errorf("Slots of %d bytes of data: %d; want %d", size, n, want)
		}
	}
	if n := txn.Slots(greatest); n != 9 {
		t.Errorf("Slots of the greatest one: %d", n)
	}
	if one, two := txn.Slots(api.Tx{Gas: 255, Data: strings.Repeat("x", 19)}), txn.Slots(api.Tx{Gas: 256, Data: strings.Repeat("x", 19)}); one != 1 || two != 2 {
		t.Errorf("Slots of 32 and 33 bytes: %d, %d", one, two)
	}
	for _, x := range bad() {
		if n := txn.Slots(x); n != 0 {
			t.Errorf("Slots(%.80v): %d", x, n)
		}
	}
}

// TestID is P4.3: the hash of the bytes by the library's own means, and none of those that may not be.
func TestID(t *testing.T) {
	for _, x := range good() {
		s, _ := txn.Encode(x)
		h := fnv.New64a()
		h.Write([]byte(s))
		if id, want := txn.ID(x), fmt.Sprintf("%016x", h.Sum64()); id != want {
			t.Errorf("ID(%.80v): %q; want %q", x, id, want)
		}
	}
	for _, x := range bad() {
		if id := txn.ID(x); id != "" {
			t.Errorf("ID(%.80v): %q", x, id)
		}
	}
}

// TestBetter is P4.4: by tips, then by IDs, then by senders, then by nonces.
func TestBetter(t *testing.T) {
	ahead, behind := api.Tx{Sender: 1, Nonce: 1, Tip: 5, Cap: 9, Gas: 1}, api.Tx{Sender: 1, Nonce: 2, Tip: 5, Cap: 9, Gas: 1}
	if txn.ID(ahead) > txn.ID(behind) {
		ahead, behind = behind, ahead
	}
	for i, c := range []struct {
		better, worse api.Tx
	}{
		{api.Tx{Tip: 6, Cap: 6, Gas: 1}, api.Tx{Tip: 5, Cap: 9, Gas: 1}},
		{api.Tx{Sender: 9, Nonce: 9, Tip: 1 << 40, Cap: 1 << 40, Gas: 1}, api.Tx{Tip: 1<<40 - 1, Cap: 1 << 40, Gas: 1}},
		{ahead, behind},
		// Tips count of those that may not be, too; with none of an ID senders count, and then nonces.
		{api.Tx{Sender: 900, Tip: 3}, api.Tx{Sender: 1, Tip: 2}},
		{api.Tx{Tip: math.MaxInt}, api.Tx{Tip: math.MinInt}},
		{api.Tx{Tip: 0}, api.Tx{Tip: -1}},
		{api.Tx{Sender: 899, Nonce: 9}, api.Tx{Sender: 900, Nonce: 5}},
		{api.Tx{Sender: 900, Nonce: 5}, api.Tx{Sender: 900, Nonce: 6}},
		{api.Tx{Sender: math.MinInt}, api.Tx{Sender: math.MaxInt}},
		{api.Tx{Nonce: math.MinInt}, api.Tx{Nonce: math.MaxInt}},
		// No ID stands ahead of any other one.
		{api.Tx{Sender: 900, Tip: 5}, api.Tx{Sender: 1, Tip: 5, Cap: 5, Gas: 1}},
	} {
		if !txn.Better(c.better, c.worse) || txn.Better(c.worse, c.better) {
			t.Errorf("case %d: %v, %v", i, txn.Better(c.better, c.worse), txn.Better(c.worse, c.better))
		}
	}
}

// TestIDGoesAheadOfSender is P4.4: of the same tip the ID alone counts, whatever sender and nonce there are.
func TestIDGoesAheadOfSender(t *testing.T) {
	turned := 0
	for sender := range 20 {
		for nonce := range 20 {
			a := api.Tx{Sender: sender, Nonce: nonce, Tip: 5, Cap: 5, Gas: 1}
			b := api.Tx{Sender: sender + 1, Nonce: nonce, Tip: 5, Cap: 5, Gas: 1}
			c := api.Tx{Sender: sender, Nonce: nonce + 1, Tip: 5, Cap: 5, Gas: 1}
			for _, x := range []api.Tx{b, c} {
				if txn.Better(a, x) != (txn.ID(a) < txn.ID(x)) {
					t.Errorf("Better(%v, %v): %v", a, x, txn.Better(a, x))
				}
				if txn.ID(a) > txn.ID(x) {
					turned++
				}
			}
		}
	}
	if turned == 0 {
		t.Error("no ID stands the other way round: nothing was tested")
	}
}

// TestJustOneIsBetter is P4.5: of two of unlike senders, or nonces, just one is better; none is better than itself; and who is better than a better one is better.
func TestJustOneIsBetter(t *testing.T) {
	var l []api.Tx
	for _, sender := range []int{-1, 0, 1, 255, 256} {
		for _, nonce := range []int{-1, 0, 1, 1 << 32} {
			for _, tip := range []int{0, 1, 1 << 40, 1<<40 + 1} {
				l = append(l, api.Tx{Sender: sender, Nonce: nonce, Tip: tip, Cap: tip, Gas: 1})
			}
		}
	}
	for _, a := range l {
		if txn.Better(a, a) {
			t.Errorf("better than itself: %v", a)
		}
		for _, b := range l {
			if (a.Sender != b.Sender || a.Nonce != b.Nonce) && txn.Better(a, b) == txn.Better(b, a) {
				t.Errorf("both, or none: %v, %v", a, b)
			}
		}
	}
	for _, a := range l {
		for _, b := range l {
			for _, c := range l {
				if txn.Better(a, b) && txn.Better(b, c) && !txn.Better(a, c) {
					t.Fatalf("not in a row: %v, %v, %v", a, b, c)
				}
			}
		}
	}
}
