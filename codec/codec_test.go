package codec_test

import (
	"bytes"
	"encoding/binary"
	"math"
	"strings"
	"testing"

	"hopper/codec"
)

// rests: what may stand behind a number or a text.
var rests = []string{"", "z", "\x00", "\x01\x00", "\x02\x01\x2c", "\xff\xff\xff\xff\xff\xff\xff\xff\xff\xff", strings.Repeat("rest", 20000)}

// someNumbers: small ones, and ones around where a byte more is needed.
func someNumbers() []int {
	var l []int
	for n := range 1000 {
		l = append(l, n)
	}
	for bit := 10; bit < 63; bit++ {
		l = append(l, 1<<bit-1, 1<<bit, 1<<bit+1)
	}
	return append(l, 0x0102030405060708, math.MaxInt-1, math.MaxInt)
}

// written tells a number's bytes by the library's own means.
func written(n int) string {
	l := bytes.TrimLeft(binary.BigEndian.AppendUint64(nil, uint64(n)), "\x00")
	if n == 0 {
		l = []byte{0}
	}
	return string(append([]byte{byte(len(l))}, l...))
}

// someTexts: of no bytes, of plain ones, of ones that are no characters, and of as many as may be.
func someTexts() []string {
	return []string{
		"", "a", "b", "ab", "\x00", "\x00\x00", "\x00\x01a", "\xff\xfe\xc3", "\u00fc\u20ac",
		strings.Repeat("x", 255), strings.Repeat("x", 256), strings.Repeat("y", 300), strings.Repeat("x", 65534), strings.Repeat("x", 65535),
	}
}

// TestNumber is P3.1: the document's example, the edges, and numbers that have no bytes.
func TestNumber(t *testing.T) {
	for n, want := range map[int]string{
		0:               "\x01\x00",
		1:               "\x01\x01",
		127:             "\x01\x7f",
		128:             "\x01\x80",
		255:             "\x01\xff",
		256:             "\x02\x01\x00",
		300:             "\x02\x01\x2c",
		65535:           "\x02\xff\xff",
		65536:           "\x03\x01\x00\x00",
		1<<32 - 1:       "\x04\xff\xff\xff\xff",
		1 << 32:         "\x05\x01\x00\x00\x00\x00",
		1 << 40:         "\x06\x01\x00\x00\x00\x00\x00",
		1<<56 - 1:       "\x07\xff\xff\xff\xff\xff\xff\xff",
		1 << 56:         "\x08\x01\x00\x00\x00\x00\x00\x00\x00",
		math.MaxInt:     "\x08\x7f\xff\xff\xff\xff\xff\xff\xff",
		-1:              "",
		-256:            "",
		math.MinInt:     "",
		math.MinInt + 1: "",
	} {
		if s := codec.Number(n); s != want {
			t.Errorf("Number(%d): %q; want %q", n, s, want)
		}
	}
	for _, n := range someNumbers() {
		if s := codec.Number(n); s != written(n) {
			t.Errorf("Number(%d): %q; want %q", n, s, written(n))
		}
	}
}

// TestText is P3.1: of texts of all lengths that may be told apart, and of too long ones.
func TestText(t *testing.T) {
	for _, s := range someTexts() {
		want := string([]byte{byte(len(s) / 256), byte(len(s) % 256)}) + s
		if x := codec.Text(s); x != want {
			t.Errorf("Text of %d bytes: %.20q; want %.20q", len(s), x, want)
		}
	}
	if x := codec.Text("ab"); x != "\x00\x02ab" {
		t.Errorf("Text: %q", x)
	}
	for _, size := range []int{65536, 65537, 65792, 131071, 131072, 1 << 20} {
		if x := codec.Text(strings.Repeat("x", size)); x != "" {
			t.Errorf("Text of %d bytes: %d", size, len(x))
		}
	}
}

func checkNumber(t *testing.T, s string, most int, n int, rest string, ok bool) {
	t.Helper()
	if x, behind, is := codec.TakeNumber(s, most); x != n || behind != rest || is != ok {
		t.Errorf("TakeNumber(%.20q, %d): %d, %.20q, %v; want %d, %.20q, %v", s, most, x, behind, is, n, rest, ok)
	}
}

// TestTakeNumber is P3.2 and P3.3: what is written is taken, up to most, and nothing behind it.
func TestTakeNumber(t *testing.T) {
	for _, n := range someNumbers() {
		for _, rest := range rests {
			s := codec.Number(n) + rest
			checkNumber(t, s, n, n, rest, true)
			checkNumber(t, s, math.MaxInt, n, rest, true)
			checkNumber(t, s, n-1, 0, "", false)
			checkNumber(t, s, -1, 0, "", false)
			checkNumber(t, s, math.MinInt, 0, "", false)
		}
	}
}

// TestTakeNumberOfNone is P3.2: bytes that begin with no number.
func TestTakeNumberOfNone(t *testing.T) {
	for _, s := range []string{
		"",
		"\x00", "\x00\x00", "\x00\x01\x00", // of no bytes
		"\x01", "\x02\x01", "\x08\x7f\xff\xff\xff\xff\xff\xff", // fewer than it says
		"\x02\x00\x01", "\x02\x00\x00", "\x08\x00\x7f\xff\xff\xff\xff\xff\xff", // more than it takes
		"\x08\x80\x00\x00\x00\x00\x00\x00\x00", "\x08\xff\xff\xff\xff\xff\xff\xff\xff", // below 0, if it turned round
		"\x09\x00\x00\x00\x00\x00\x00\x00\x00\x01", "\x09\x01\x00\x00\x00\x00\x00\x00\x00\x05", "\x09\x01\x00\x00\x00\x00\x00\x00\x00", // above all
		"\x80" + strings.Repeat("\x01", 300), "\xff" + strings.Repeat("\x01", 300), "\xff",
	} {
		checkNumber(t, s, math.MaxInt, 0, "", false)
		checkNumber(t, s, 0, 0, "", false)
		checkNumber(t, s, -1, 0, "", false)
		checkNumber(t, s, math.MinInt, 0, "", false)
	}
	for _, n := range someNumbers() {
		s := codec.Number(n)
		for end := range s {
			checkNumber(t, s[:end], math.MaxInt, 0, "", false)
		}
	}
}

// TestTakeNumberOfShort is P3.2, of all three bytes: just those are taken that a number's bytes begin.
func TestTakeNumberOfShort(t *testing.T) {
	for first := range 256 {
		for second := range 256 {
			for _, third := range []byte{0, 1, 127, 128, 255} {
				s := string([]byte{byte(first), byte(second), third})
				switch {
				case first == 1:
					checkNumber(t, s, 255, second, s[2:], true)
				case first == 2 && second > 0:
					checkNumber(t, s, 65535, 256*second+int(third), "", true)
				default:
					checkNumber(t, s, math.MaxInt, 0, "", false)
				}
			}
		}
	}
}

func checkText(t *testing.T, s string, most int, text string, rest string, ok bool) {
	t.Helper()
	if x, behind, is := codec.TakeText(s, most); x != text || behind != rest || is != ok {
		t.Errorf("TakeText(%.20q, %d): %.20q, %.20q, %v; want %.20q, %.20q, %v", s, most, x, behind, is, text, rest, ok)
	}
}

// TestTakeText is P3.2 and P3.3: what is written is taken, of at most most bytes, and nothing behind it.
func TestTakeText(t *testing.T) {
	for _, text := range someTexts() {
		for _, rest := range rests {
			s := codec.Text(text) + rest
			checkText(t, s, len(text), text, rest, true)
			checkText(t, s, 65535, text, rest, true)
			checkText(t, s, 65536, text, rest, true)
			checkText(t, s, math.MaxInt, text, rest, true)
			checkText(t, s, len(text)-1, "", "", false)
			checkText(t, s, -1, "", "", false)
			checkText(t, s, math.MinInt, "", "", false)
		}
	}
}

// TestTakeTextOfNone is P3.2: bytes that begin with no text.
func TestTakeTextOfNone(t *testing.T) {
	for _, s := range []string{
		"", "\x00", "\x01", "\xff", "\x00\x01", "\x00\x02a", "\x01\x00a", "\xff\xff",
		"\x01\x00" + strings.Repeat("a", 255), "\xff\xff" + strings.Repeat("a", 65534),
	} {
		checkText(t, s, math.MaxInt, "", "", false)
		checkText(t, s, 0, "", "", false)
		checkText(t, s, -1, "", "", false)
		checkText(t, s, math.MinInt, "", "", false)
	}
	s := codec.Text("some text")
	for end := range s {
		checkText(t, s[:end], 100, "", "", false)
	}
}

// TestNoneBeginsAnother is P3.3: no bytes begin with two numbers, or two texts.
func TestNoneBeginsAnother(t *testing.T) {
	var numbers, texts []string
	for _, n := range someNumbers() {
		numbers = append(numbers, codec.Number(n))
	}
	for _, s := range someTexts() {
		texts = append(texts, codec.Text(s))
	}
	for _, l := range [][]string{numbers, texts} {
		for i, x := range l {
			for j, y := range l {
				if i != j && x != y && strings.HasPrefix(x, y) {
					t.Errorf("%.20q begins with %.20q", x, y)
				}
			}
		}
	}
}

// TestTakenInARow is P3.3: many behind one another are taken as they were written, and nothing is left.
func TestTakenInARow(t *testing.T) {
	var row strings.Builder
	for _, n := range someNumbers() {
		row.WriteString(codec.Number(n))
		row.WriteString(codec.Text(codec.Number(n)))
	}
	rest := row.String()
	for _, want := range someNumbers() {
		n, behind, ok := codec.TakeNumber(rest, math.MaxInt)
		if !ok || n != want {
			t.Fatalf("number %d: %d, %v", want, n, ok)
		}
		text, behindThat, ok := codec.TakeText(behind, 9)
		if !ok || text != codec.Number(want) {
			t.Fatalf("text of %d: %q, %v", want, text, ok)
		}
		rest = behindThat
	}
	if rest != "" {
		t.Errorf("left: %.20q", rest)
	}
}
