package script_test

import (
	"encoding/hex"
	"fmt"
	"math"
	"reflect"
	"regexp"
	"slices"
	"strconv"
	"strings"
	"testing"

	"hopper/api"
	"hopper/audit"
	"hopper/fair"
	"hopper/hist"
	"hopper/pool"
	"hopper/script"
	"hopper/txn"
	"hopper/world"
)

const maxTip = 1 << 40

// tx is a transaction that may be, of one slot, and of a gas of 10.
func tx(sender, nonce, tip int) api.Tx {
	return api.Tx{Sender: sender, Nonce: nonce, Tip: tip, Cap: maxTip, Gas: 10}
}

// data is its bytes.
func data(t api.Tx) string {
	s, _ := txn.Encode(t)
	return s
}

// ask is the call that asks that op.
func ask(o pool.Op) world.Call {
	return world.Call{Kind: world.Ask, Op: o}
}

// add is the call that adds one.
func add(t api.Tx) world.Call {
	return ask(pool.Op{Kind: pool.Add, Data: data(t)})
}

// remove is the call that removes one.
func remove(sender, nonce int) world.Call {
	return ask(pool.Op{Kind: pool.Remove, Sender: sender, Nonce: nonce})
}

// advance is the call that advances a sender.
func advance(sender, base int) world.Call {
	return ask(pool.Op{Kind: pool.Advance, Sender: sender, Nonce: base})
}

// batch is the call that sends those bytes.
func batch(datas ...string) world.Call {
	return world.Call{Kind: world.Batch, Datas: datas}
}

// read is the call that reads of that feed.
func read(n int) world.Call {
	return world.Call{Kind: world.Read, Feed: n}
}

var (
	stats     = ask(pool.Op{Kind: pool.Stats})
	subscribe = world.Call{Kind: world.Subscribe}
	shut      = world.Call{Kind: world.Close}
)

// differs tells where two values are not alike; a list without elements is one whether nil or not.
func differs(a, b any) string {
	return differ(reflect.ValueOf(a), reflect.ValueOf(b))
}

func differ(a, b reflect.Value) string {
	switch a.Kind() {
	case reflect.Slice:
		if a.Len() != b.Len() {
			return fmt.Sprintf(": %d elements, want %d: %v, want %v", a.Len(), b.Len(), a, b)
		}
		for i := range a.Len() {
			if d := differ(a.Index(i), b.Index(i)); d != "" {
				return fmt.Sprintf("[%d]%s", i, d)
			}
		}
	case reflect.Struct:
		for i := range a.NumField() {
			if d := differ(a.Field(i), b.Field(i)); d != "" {
				return "." + a.Type().Field(i).Name + d
			}
		}
	default:
		if !a.Equal(b) {
			return fmt.Sprintf(": %v, want %v", a, b)
		}
	}
	return ""
}

// clone is v with lists of its own, each of which has room for more.
func clone[T any](v T) T {
	return cloned(reflect.ValueOf(v)).Interface().(T)
}

func cloned(v reflect.Value) reflect.Value {
	x := reflect.New(v.Type()).Elem()
	x.Set(v)
	switch v.Kind() {
	case reflect.Slice:
		x.Set(reflect.MakeSlice(v.Type(), v.Len(), v.Len()+3))
		for i := range v.Len() {
			x.Index(i).Set(cloned(v.Index(i)))
		}
	case reflect.Struct:
		for i := range v.NumField() {
			x.Field(i).Set(cloned(v.Field(i)))
		}
	}
	return x
}

// unused tells whether the room for more that clone's lists have holds nothing.
func unused(v reflect.Value) bool {
	switch v.Kind() {
	case reflect.Slice:
		all := v.Slice(0, v.Cap())
		for i := range all.Len() {
			if i < v.Len() && !unused(all.Index(i)) || i >= v.Len() && !all.Index(i).IsZero() {
				return false
			}
		}
	case reflect.Struct:
		for i := range v.NumField() {
			if !unused(v.Field(i)) {
				return false
			}
		}
	}
	return true
}

// dice are thrown, the same ones each time.
type dice uint64

func (d *dice) below(n int) int {
	*d = *d*6364136223846793005 + 1442695040888963407
	return int(uint64(*d)>>33) % n
}

// edges: numbers at which bounds lie, and plain ones.
var edges = []int{math.MinInt, -1000000000, -1, 0, 1, 7, 10, 999999998, 999999999, 1000000000, 1 << 32, math.MaxInt}

// isNumber tells whether n is told as a number.
func isNumber(n int) bool { return n >= 0 && n <= 999999999 }

// hexOf is the chapter's words of Hex.
func hexOf(s string) string {
	if s == "" {
		return "-"
	}
	return hex.EncodeToString([]byte(s))
}

// begins is the step that begins a call.
func begins(c world.Call) script.Step {
	return script.Step{Move: hist.Move{Begin: true, Call: c}}
}

// asks is the step that asks that op.
func asks(o pool.Op) script.Step { return begins(ask(o)) }

// turns is the step of a turn.
func turns(n int) script.Step { return script.Step{Move: hist.Move{N: n}} }

// lineOf is P24.2's words: x's line, if all that it does not tell is zero.
func lineOf(x script.Step) string {
	c, o := x.Move.Call, x.Move.Call.Op
	line, numbers, told := "", []int(nil), script.Step{}
	switch {
	case x.Drain:
		line, told = "drain", script.Step{Drain: true}
	case !x.Move.Begin:
		line, numbers, told = "turn", []int{x.Move.N}, turns(x.Move.N)
	case c.Kind == 0 && o.Kind == 0:
		line, told = "add "+hexOf(o.Data), asks(pool.Op{Data: o.Data})
	case c.Kind == 0 && 1 <= o.Kind && o.Kind <= 3:
		line, numbers, told = []string{"remove", "advance", "get"}[o.Kind-1], []int{o.Sender, o.Nonce}, asks(pool.Op{Kind: o.Kind, Sender: o.Sender, Nonce: o.Nonce})
	case c.Kind == 0 && o.Kind == 4:
		line, told = "stats", asks(pool.Op{Kind: 4})
	case c.Kind == 0 && o.Kind == 5:
		line, numbers, told = "template", []int{o.Gas}, asks(pool.Op{Kind: 5, Gas: o.Gas})
	case c.Kind == 1:
		line, told = "batch", begins(world.Call{Kind: 1, Datas: c.Datas})
		for _, s := range c.Datas {
			line += " " + hexOf(s)
		}
	case c.Kind == 2:
		line, told = "close", begins(world.Call{Kind: 2})
	case c.Kind == 3:
		line, told = "subscribe", begins(world.Call{Kind: 3})
	case c.Kind == 4:
		line, numbers, told = "read", []int{c.Feed}, begins(world.Call{Kind: 4, Feed: c.Feed})
	}
	for _, n := range numbers {
		if !isNumber(n) {
			return ""
		}
		line += fmt.Sprint(" ", n)
	}
	if differs(x, told) != "" {
		return ""
	}
	return line
}

const (
	aNumber = `(0|[1-9][0-9]{0,8})`
	someHex = `(-|(?:[0-9a-f][0-9a-f])+)`
)

// The lines that there are, as the chapter tells them.
var (
	turnLine  = regexp.MustCompile(`^turn ` + aNumber + `$`)
	addLine   = regexp.MustCompile(`^add ` + someHex + `$`)
	twoLine   = regexp.MustCompile(`^(remove|advance|get) ` + aNumber + ` ` + aNumber + `$`)
	gasLine   = regexp.MustCompile(`^template ` + aNumber + `$`)
	batchLine = regexp.MustCompile(`^batch((?: ` + someHex + `)*)$`)
	readLine  = regexp.MustCompile(`^read ` + aNumber + `$`)
	firstLine = regexp.MustCompile(`^hopper` + strings.Repeat(` `+aNumber, 8) + `$`)
)

// the number that s tells.
func the(s string) int {
	n, _ := strconv.Atoi(s)
	return n
}

// bytesOf is the bytes of which s is the hex.
func bytesOf(s string) string {
	b, _ := hex.DecodeString(s)
	if s == "-" {
		return ""
	}
	return string(b)
}

// stepOf is P24.2's words: the step whose line s is.
func stepOf(s string) (script.Step, bool) {
	switch s {
	case "drain":
		return script.Step{Drain: true}, true
	case "stats":
		return asks(pool.Op{Kind: 4}), true
	case "close":
		return begins(world.Call{Kind: 2}), true
	case "subscribe":
		return begins(world.Call{Kind: 3}), true
	}
	if l := turnLine.FindStringSubmatch(s); l != nil {
		return turns(the(l[1])), true
	}
	if l := addLine.FindStringSubmatch(s); l != nil {
		return asks(pool.Op{Data: bytesOf(l[1])}), true
	}
	if l := twoLine.FindStringSubmatch(s); l != nil {
		kind := map[string]int{"remove": 1, "advance": 2, "get": 3}[l[1]]
		return asks(pool.Op{Kind: kind, Sender: the(l[2]), Nonce: the(l[3])}), true
	}
	if l := gasLine.FindStringSubmatch(s); l != nil {
		return asks(pool.Op{Kind: 5, Gas: the(l[1])}), true
	}
	if l := batchLine.FindStringSubmatch(s); l != nil {
		c := world.Call{Kind: 1}
		for _, word := range strings.Fields(l[1]) {
			c.Datas = append(c.Datas, bytesOf(word))
		}
		return begins(c), true
	}
	if l := readLine.FindStringSubmatch(s); l != nil {
		return begins(world.Call{Kind: 4, Feed: the(l[1])}), true
	}
	return script.Step{}, false
}

// configOf is P24.1's words: the config whose line s is.
func configOf(s string) (api.Config, bool) {
	l := firstLine.FindStringSubmatch(s)
	if l == nil {
		return api.Config{}, false
	}
	return api.Config{Shards: the(l[1]), Soft: the(l[2]), Hard: the(l[3]), Per: the(l[4]), Bump: the(l[5]), Feed: the(l[6]), Workers: the(l[7]), Room: the(l[8])}, true
}

// played is P24.3's words.
func played(s string) (string, int, api.Errno) {
	var lines []string
	for s != "" {
		line, rest, _ := strings.Cut(s, "\n")
		lines, s = append(lines, line), rest
	}
	if len(lines) == 0 {
		return "", 0, api.ErrLine
	}
	c, ok := configOf(lines[0])
	if !ok {
		return "", 0, api.ErrLine
	}
	for n := 1; n < len(lines); n++ {
		if _, ok := stepOf(lines[n]); !ok {
			return "", n, api.ErrLine
		}
	}
	w, e := world.New(c)
	if e != api.OK {
		return "", 0, api.ErrArg
	}
	for _, line := range lines[1:] {
		x, _ := stepOf(line)
		switch {
		case x.Drain:
			w, _, _ = fair.Drain(w)
		case x.Move.Begin:
			w, _ = world.Begin(w, x.Move.Call)
		default:
			w = world.Pick(w, x.Move.N)
		}
	}
	return audit.Text(w), len(lines), audit.Good(w)
}

// lays holds that Line tells what its words tell, and that a step that has a line is read as it was.
func lays(t *testing.T, x script.Step) string {
	t.Helper()
	s := script.Line(x)
	if want := lineOf(x); s != want {
		t.Errorf("Line of %+v: %q, want %q", x, s, want)
	}
	if s != "" {
		if d := differs(parses(t, s), x); d != "" {
			t.Errorf("Parse of %q%s", s, d)
		}
	}
	return s
}

// parses holds that Parse tells what its words tell.
func parses(t *testing.T, s string) script.Step {
	t.Helper()
	x, ok := script.Parse(s)
	want, is := stepOf(s)
	if d := differs(x, want); d != "" || ok != is {
		t.Errorf("Parse of %q: %v, want %v%s", s, ok, is, d)
	}
	if ok && script.Line(x) != s {
		t.Errorf("Line of %+v: %q, want %q", x, script.Line(x), s)
	}
	return x
}

// configures holds that Config tells what its words tell.
func configures(t *testing.T, s string) (api.Config, bool) {
	t.Helper()
	c, ok := script.Config(s)
	want, is := configOf(s)
	if c != want || ok != is {
		t.Errorf("Config of %q: %v, %v, want %v, %v", s, c, ok, want, is)
	}
	if ok && script.Text(c) != s {
		t.Errorf("Text of %v: %q, want %q", c, script.Text(c), s)
	}
	return c, ok
}

// plays holds that Play tells what its words tell.
func plays(t *testing.T, s string) (string, int, api.Errno) {
	t.Helper()
	text, n, e := script.Play(s)
	wantText, wantN, want := played(s)
	if text != wantText || n != wantN || e != want {
		t.Errorf("Play of %q: %q, %d, %d, want %q, %d, %d", s, text, n, e, wantText, wantN, want)
	}
	return text, n, e
}

// TestText is P24.1: a config's line, if all its numbers are such; it is read again as it was.
func TestText(t *testing.T) {
	c := api.Config{Shards: 1, Soft: 2, Hard: 3, Per: 4, Bump: 5, Feed: 6, Workers: 7, Room: 8}
	if s := script.Text(c); s != "hopper 1 2 3 4 5 6 7 8" {
		t.Errorf("%q", s)
	}
	if s := script.Text(api.Config{}); s != "hopper 0 0 0 0 0 0 0 0" {
		t.Errorf("%q", s)
	}
	for i := range 8 {
		for _, n := range edges {
			c := c
			reflect.ValueOf(&c).Elem().Field(i).SetInt(int64(n))
			want := ""
			if isNumber(n) {
				l := strings.Fields("hopper 1 2 3 4 5 6 7 8")
				l[1+i] = fmt.Sprint(n)
				want = strings.Join(l, " ")
			}
			s := script.Text(c)
			if s != want {
				t.Errorf("Text of %v: %q, want %q", c, s, want)
			}
			if x, ok := configures(t, s); ok != (want != "") || ok && x != c {
				t.Errorf("Config of %q: %v, %v, want %v", s, x, ok, c)
			}
		}
	}
}

// TestConfig is P24.1: the config whose line it is, whether it may be or not; of anything else none.
func TestConfig(t *testing.T) {
	for s, want := range map[string]api.Config{
		"hopper 1 2 4 4 10 2 1 1":        {Shards: 1, Soft: 2, Hard: 4, Per: 4, Bump: 10, Feed: 2, Workers: 1, Room: 1},
		"hopper 0 0 0 0 0 0 0 0":         {},
		"hopper 9 8 7 6 5 4 3 2":         {Shards: 9, Soft: 8, Hard: 7, Per: 6, Bump: 5, Feed: 4, Workers: 3, Room: 2},
		"hopper 999999999 0 0 0 0 0 0 1": {Shards: 999999999, Room: 1},
	} {
		if c, ok := configures(t, s); !ok || c != want {
			t.Errorf("Config of %q: %v, %v", s, c, ok)
		}
	}
	for _, s := range []string{"", " ", "hopper", "hopper 1", "hopper 1 2 3 4 5 6 7", "hopper 1 2 3 4 5 6 7 ", "hopper 1 2 3 4 5 6 7 8 ", " hopper 1 2 3 4 5 6 7 8", "hopper 1 2 3 4 5 6 7 8 9", "hopper  1 2 3 4 5 6 7 8", "hopper 1 2 3 4 5 6 7 8\n",
		"hopper 1 2 3 4 5 6 7 08", "hopper 1 2 3 4 5 6 7 -8", "hopper 1 2 3 4 5 6 7 +8", "hopper 1 2 3 4 5 6 7 -0", "hopper 1 2 3 4 5 6 7 8x", "hopper 1 2 3 4 5 6 7 1000000000", "hopper 1 2 3 4 5 6 7 99999999999999999999", "hopper 1 2 3 4 5 6 7 18446744073709551616", "hopper 1 2 3 4 5 6 7 1_0", "hopper 1 2 3 4 5 6 7 0x1",
		"Hopper 1 2 3 4 5 6 7 8", "hoppe 1 2 3 4 5 6 7 8", "1 2 3 4 5 6 7 8", "hopper\t1 2 3 4 5 6 7 8", "stats", "hopper 1,2,3,4,5,6,7,8"} {
		if c, ok := configures(t, s); ok || c != (api.Config{}) {
			t.Errorf("Config of %q: %v, %v", s, c, ok)
		}
	}
}

// every is steps of each kind, as they have lines.
func every() map[string]script.Step {
	return map[string]script.Step{
		"drain":                 {Drain: true},
		"turn 0":                {},
		"turn 12":               turns(12),
		"turn 999999999":        turns(999999999),
		"add -":                 asks(pool.Op{}),
		"add 00":                asks(pool.Op{Data: "\x00"}),
		"add 0a9f":              asks(pool.Op{Data: "\x0a\x9f"}),
		"remove 1 2":            begins(remove(1, 2)),
		"advance 255 999999999": begins(advance(255, 999999999)),
		"get 0 0":               asks(pool.Op{Kind: pool.Get}),
		"get 10 9":              asks(pool.Op{Kind: pool.Get, Sender: 10, Nonce: 9}),
		"stats":                 begins(stats),
		"template 0":            asks(pool.Op{Kind: pool.Template}),
		"template 21000":        asks(pool.Op{Kind: pool.Template, Gas: 21000}),
		"batch":                 begins(batch()),
		"batch -":               begins(batch("")),
		"batch - 61 - 6263":     begins(batch("", "a", "", "bc")),
		"close":                 begins(shut),
		"subscribe":             begins(subscribe),
		"read 0":                begins(read(0)),
		"read 7":                begins(read(7)),
	}
}

// TestLine is P24.2: each kind's line, that is read as it was.
func TestLine(t *testing.T) {
	for s, x := range every() {
		if got := lays(t, x); got != s {
			t.Errorf("Line of %+v: %q, want %q", x, got, s)
		}
		if y, ok := script.Parse(s); !ok || differs(y, x) != "" {
			t.Errorf("Parse of %q: %v%s", s, ok, differs(y, x))
		}
	}
	// A list without elements is one, whether it is nil or not.
	x := begins(batch([]string{}...))
	x.Move.Call.Datas = []string{}
	if lays(t, x) != "batch" {
		t.Errorf("%q", script.Line(x))
	}
	x = script.Step{Drain: true}
	x.Move.Call.Datas = []string{}
	if lays(t, x) != "drain" {
		t.Errorf("%q", script.Line(x))
	}
}

// TestLineOfAny is P24.2: whatever field has another value, told or not: what is not told is to be zero, what is told a number.
func TestLineOfAny(t *testing.T) {
	had, none := 0, 0
	for _, x := range every() {
		each(reflect.ValueOf(&x).Elem(), func() {
			if lays(t, x) == "" {
				none++
			} else {
				had++
			}
			// Two fields at once.
			y := x
			each(reflect.ValueOf(&y).Elem(), func() { lays(t, y) })
		})
	}
	if had < 100 || none < 100 {
		t.Errorf("%d, %d: too few to tell", had, none)
	}
}

// each gives each field in v, one behind the other, some values.
func each(v reflect.Value, seen func()) {
	was := reflect.ValueOf(v.Interface())
	set := func(x any) {
		v.Set(reflect.ValueOf(x))
		seen()
		v.Set(was)
	}
	switch v.Kind() {
	case reflect.Struct:
		for i := range v.NumField() {
			each(v.Field(i), seen)
		}
	case reflect.Bool:
		set(!v.Bool())
	case reflect.Int:
		for n := -1; n <= 7; n++ {
			set(n)
		}
		for _, n := range edges {
			set(n)
		}
	case reflect.String:
		for _, s := range []string{"", "x", "\x00", "-", " ", "\xff\x80\n"} {
			set(s)
		}
	case reflect.Slice:
		for _, l := range [][]string{nil, {}, {""}, {"x", ""}} {
			set(l)
		}
	}
}

// TestHex is P24.2: each byte, alone and beside another one; in lower digits alone, two of each.
func TestHex(t *testing.T) {
	all := ""
	for i := range 256 {
		s := string([]byte{byte(i)})
		all += s
		if line := lays(t, asks(pool.Op{Data: s})); line != fmt.Sprintf("add %02x", i) {
			t.Errorf("byte %d: %q", i, line)
		}
		for _, j := range []int{0, 9, 10, 127, 128, 255} {
			if line := lays(t, begins(batch(s+string([]byte{byte(j)}), s))); line != fmt.Sprintf("batch %02x%02x %02x", i, j, i) {
				t.Errorf("bytes %d, %d: %q", i, j, line)
			}
		}
	}
	if line := lays(t, asks(pool.Op{Data: all})); line != fmt.Sprintf("add %x", all) {
		t.Errorf("all bytes: %q", line)
	}
	// Any two bytes as a word.
	for i := range 256 {
		for j := range 256 {
			word := string([]byte{byte(i), byte(j)})
			parses(t, "add "+word)
			parses(t, "batch 00 "+word)
			parses(t, "turn "+word)
			if i%16 == 3 {
				parses(t, "add 6"+word+"1")
			}
		}
	}
}

// TestParse is P24.2 of what is no step's line: the zero step, and false.
func TestParse(t *testing.T) {
	for _, s := range []string{"", " ", "  ", "\n", "-", "0", "00", "turn", "turn ", "turn -", "turn -1", "turn 01", "turn 00", "turn +1", "turn 1000000000", "turn 0000000000", "turn 99999999999999999999", "turn 1 2", "turn 1 ", "turn  1", " turn 1", "turn 0x1", "turn 1_0", "turn 1e3", "turn 1.0", "turn x", "turn\t1", "turn1", "Turn 1", "turn 1\n", "turn -0", "turn 18446744073709551616",
		"add", "add ", "add 0", "add 000", "add 0A", "add A0", "add 0g", "add g0", "add --", "add -0", "add 00 ", "add 00 00", "add 00-", "add - -", "add  00", "add 0x", "add +0", "add _0", "add \xff\xff",
		"remove", "remove 1", "remove 1 ", "remove 1 2 3", "remove -1 2", "remove 1 -2", "remove 01 2", "remove 1 02", "remove 1000000000 1", "remove 1 1000000000", "remove - 1", "advance 1", "advance 1 2 3", "get 1", "get x 0", "get 0 x", "get 1  2",
		"stats 1", "stats ", " stats", "stats\n", "stat", "statss", "STATS", "template", "template -", "template 1 2", "template 010", "batch ", "batch 0", "batch 00  00", "batch 00 ", "batch 00 0", "batch 00 0G", "close 0", "close ", "closed", "subscribe 0", "subscribe ", "read", "read ", "read 1 2", "read x", "read -1", "drain 0", "drain ", "drains", "what", "evict", "add\n00", "hopper 1 2 4 4 10 2 1 1", "drain\ndrain", "\xff", "\x00"} {
		if x, ok := script.Parse(s); ok || differs(x, script.Step{}) != "" {
			t.Errorf("Parse of %q: %+v, %v", s, x, ok)
		}
		parses(t, s)
		configures(t, s)
	}
}

// TestParseOfWords is P24.2: all lines of few words.
func TestParseOfWords(t *testing.T) {
	words := []string{"drain", "turn", "add", "remove", "advance", "get", "stats", "template", "batch", "close", "subscribe", "read", "hopper", "0", "1", "10", "-", "01", "999999999", "1000000000", "ab", "-1", ""}
	lines, told := []string{""}, 0
	for range 3 {
		var longer []string
		for _, line := range lines {
			for _, word := range words {
				longer = append(longer, strings.TrimPrefix(line+" "+word, " "))
			}
		}
		for _, line := range longer {
			parses(t, line)
			configures(t, line)
			if _, ok := script.Parse(line); ok {
				told++
			}
		}
		lines = longer
	}
	if told < 100 {
		t.Errorf("%d: too few to tell", told)
	}
}

// spoilt is s, in which one to two bytes are others, gone, or there twice.
func spoilt(d *dice, s string) string {
	const bytes = " -0019aAfgx\n\t+_\xff"
	for range 1 + d.below(2) {
		b := string(bytes[d.below(len(bytes))])
		if len(s) == 0 {
			s = b
			continue
		}
		switch at := d.below(len(s)); d.below(4) {
		case 0:
			s = s[:at] + b + s[at:]
		case 1:
			s = s[:at] + s[at+1:]
		case 2:
			s = s[:at] + b + s[at+1:]
		default:
			s = s[:at] + s[at:at+1] + s[at:]
		}
	}
	return s
}

// anyCall is one of those that may begin, of few senders and nonces.
func anyCall(d *dice) world.Call {
	some := func() string {
		x := tx(d.below(4), d.below(4), 5+d.below(40))
		x.Data = string(make([]byte, d.below(60)))
		if d.below(9) == 0 {
			return "x"
		}
		return data(x)
	}
	switch d.below(16) {
	case 0, 1:
		return ask(pool.Op{Kind: pool.Template, Gas: d.below(50)})
	case 2, 3:
		return subscribe
	case 4, 5, 6:
		return read(d.below(3))
	case 7, 8:
		l := make([]string, d.below(5))
		for k := range l {
			l[k] = some()
		}
		return batch(l...)
	case 9, 10, 11:
		return ask(pool.Op{Kind: pool.Remove + d.below(4), Sender: d.below(5) - 1, Nonce: d.below(5)})
	}
	return ask(pool.Op{Kind: pool.Add, Data: some()})
}

// anyConfig is a small one.
func anyConfig(d *dice) api.Config {
	return api.Config{Shards: 1 + d.below(3), Soft: d.below(4), Hard: 4 + d.below(6), Per: 1 + d.below(3), Bump: 10, Feed: 1 + d.below(2), Workers: 1 + d.below(3), Room: 1 + d.below(2)}
}

// anyStep is one of those that there are; few of them have no line.
func anyStep(d *dice) script.Step {
	switch d.below(12) {
	case 0, 1, 2:
		return begins(anyCall(d))
	case 3:
		return script.Step{Drain: d.below(2) == 0}
	}
	return turns(d.below(9))
}

// TestAnyLine is P24.2 and P24.4: of any steps; and of lines as they are, and in which few bytes are spoilt.
func TestAnyLine(t *testing.T) {
	var d dice = 24
	seen := map[string]int{}
	for range 20000 {
		x := anyStep(&d)
		s := lays(t, x)
		seen[fmt.Sprint("has a line: ", s != "")]++
		s = spoilt(&d, s)
		_, ok := script.Parse(s)
		seen[fmt.Sprint("spoilt, has a step: ", ok)]++
		parses(t, s)
		c := anyConfig(&d)
		s = script.Text(c)
		if y, ok := configures(t, s); !ok || y != c {
			t.Errorf("Config of %q: %v, want %v", s, y, c)
		}
		s = spoilt(&d, s)
		_, ok = configures(t, s)
		seen[fmt.Sprint("spoilt, has a config: ", ok)]++
	}
	for _, what := range []string{"has a line: true", "has a line: false", "spoilt, has a step: true", "spoilt, has a step: false", "spoilt, has a config: true", "spoilt, has a config: false"} {
		if seen[what] < 100 {
			t.Errorf("%s: %d times: too few to tell", what, seen[what])
		}
	}
}

// head is the first line of a small script: job 0 is its worker, job 1 the evictor, job 2 the first client.
const head = "hopper 1 2 4 4 10 2 1 1"

// lined is those lines, one behind the other.
func lined(l ...string) string { return strings.Join(l, "\n") }

// comes holds that a script comes to that, whether a byte 10 is behind its last line or not.
func comes(t *testing.T, s, text string, n int, e api.Errno) {
	t.Helper()
	for _, s := range []string{s, s + "\n"} {
		if got, m, f := plays(t, s); got != text || m != n || f != e {
			t.Errorf("Play of %q: %q, %d, %d, want %q, %d, %d", s, got, m, f, text, n, e)
		}
	}
}

// TestPlay is P24.3: what comes of calls, step by step.
func TestPlay(t *testing.T) {
	a, b := hexOf(data(tx(1, 0, 5))), hexOf(data(tx(2, 0, 7)))
	comes(t, head, "", 1, api.OK)
	comes(t, lined(head, "drain"), "", 2, api.OK)
	comes(t, lined(head, "turn 0", "turn 999999999"), "", 3, api.OK)
	comes(t, lined(head, "stats"), "2 stats open\n", 2, api.OK)
	comes(t, lined(head, "stats", "turn 0"), "2 stats 0 0 0\n", 3, api.OK)
	comes(t, lined(head, "turn 0", "stats"), "2 stats open\n", 3, api.OK)
	// Of those who may go on the one whom the number tells, going round.
	for n, want := range []string{"2 stats 0 0 0\n3 get open\n4 close open\n", "2 stats open\n3 get open\n4 close open\n", "2 stats open\n3 get open\n4 close 0 0 0\n"} {
		for _, n := range []int{n, n + 3, n + 999999999} {
			if n <= 999999999 {
				comes(t, lined(head, "stats", "get 1 0", "close", fmt.Sprint("turn ", n)), want, 5, api.OK)
			}
		}
	}
	// Steps are done one behind the other: what begins behind a Close is told so, what went on ahead of it ends.
	comes(t, lined(head, "close", "add "+a, "turn 0", "stats", "drain"), "2 close 0 0 0\n3 add 8 0 0\n4 stats 8 0 0\n", 6, api.OK)
	comes(t, lined(head, "add "+a, "close", "turn 0", "turn 1", "stats", "drain"), "2 add 0 0 0\n3 close 0 0 0\n4 stats 8 0 0\n", 7, api.OK)
	comes(t, lined(head, "stats", "drain", "add "+a, "drain", "stats", "drain", "remove 1 0", "drain", "stats", "drain"), "2 stats 0 0 0\n3 add 0 0 0\n4 stats 0 1 0\n5 remove 0 0 0\n6 stats 0 0 0\n", 11, api.OK)
	comes(t, lined(head, "add "+a, "add "+b, "drain", "template 10", "template 9", "template 20", "get 2 0", "get 2 1", "drain", "batch "+a+" - "+b, "drain", "advance 2 1", "read 0", "read 7", "drain"),
		"2 add 0 0 0\n3 add 0 0 0\n4 template 0 0 1\n5 template 0 0 0\n6 template 0 0 2\n7 get 0 0 0\n8 get 7 0 0\n9 batch 0 0 0\n10 advance 0 0 1\n11 read 1 0 0\n12 read 1 0 0\n", 16, api.OK)
	// A drain ends all calls that there are, none that are to come.
	comes(t, lined(head, "subscribe", "add "+a, "drain", "read 0", "drain", "read 0", "batch", "drain", "subscribe", "add 00"), "2 subscribe 0 0 0\n3 add 0 0 0\n4 read 0 0 0\n5 read 7 0 0\n6 batch 0 0 0\n7 subscribe open\n8 add open\n", 11, api.OK)
	// The evictor goes on, too: three of two slots, by and by.
	comes(t, lined(head, "add "+a, "add "+b, "drain", "add "+hexOf(data(tx(3, 0, 6))), "drain", "stats", "drain", "get 1 0", "drain"), "2 add 0 0 0\n3 add 0 0 0\n4 add 0 0 0\n5 stats 0 2 0\n6 get 7 0 0\n", 10, api.OK)
	// What may not begin is left out; lines are counted all the same.
	comes(t, lined(head, "batch - - - - - - - - -", "stats", "batch - - - - - - - -", "drain"), "2 stats 0 0 0\n3 batch 0 0 0\n", 5, api.OK)
	many := strings.Repeat("stats\n", 41)
	comes(t, head+"\n"+many+"drain\nstats", ended("stats 0 0 0", 40), 44, api.OK)
}

// ended is the lines of so many jobs, from job 2 on, that all end so.
func ended(end string, n int) string {
	s := ""
	for i := range n {
		s += fmt.Sprint(2+i, " ", end, "\n")
	}
	return s
}

// TestPlayOfWrong is P24.3: what holds first of a first line that is no config's, a line that is no step's, a config that may not be.
func TestPlayOfWrong(t *testing.T) {
	none := "hopper 0 2 4 4 10 2 1 1"
	for s, x := range map[string]struct {
		at int
		e  api.Errno
	}{
		"":                                   {0, api.ErrLine},
		"\n":                                 {0, api.ErrLine},
		"\n\n":                               {0, api.ErrLine},
		"\n" + head:                          {0, api.ErrLine},
		"stats":                              {0, api.ErrLine},
		"what\nwhat":                         {0, api.ErrLine},
		" " + head:                           {0, api.ErrLine},
		head + " ":                           {0, api.ErrLine},
		head + "\r\nstats":                   {0, api.ErrLine},
		lined(head, "what"):                  {1, api.ErrLine},
		lined(head, head):                    {1, api.ErrLine},
		lined(head, "", "stats"):             {1, api.ErrLine},
		lined(head, "", ""):                  {1, api.ErrLine},
		lined(head, "stats", "", ""):         {2, api.ErrLine},
		lined(head, "stats", "what", "what"): {2, api.ErrLine},
		lined(head, "stats", "drain", "turn", "stats"): {3, api.ErrLine},
		lined(head, "stats\r", "drain"):                {1, api.ErrLine},
		lined(none, "what"):                            {1, api.ErrLine},
		lined(none, "stats", "stats", "turn 01"):       {3, api.ErrLine},
		none:                                           {0, api.ErrArg},
		none + "\n":                                    {0, api.ErrArg},
		none + "\n\n":                                  {1, api.ErrLine},
		lined(none, "stats"):                           {0, api.ErrArg},
		lined(none, "stats", "drain"):                  {0, api.ErrArg},
		"hopper 0 0 0 0 0 0 0 0\ndrain":                {0, api.ErrArg},
		"hopper 1 5 4 4 10 2 1 1":                      {0, api.ErrArg},
		"hopper 1 2 4 4 10 2 1 9":                      {0, api.ErrArg},
	} {
		if text, n, e := plays(t, s); text != "" || n != x.at || e != x.e {
			t.Errorf("Play of %q: %q, %d, %d, want %d, %d", s, text, n, e, x.at, x.e)
		}
	}
}

// TestAnyPlay is P24.3 and P24.4: whatever is played ends with OK; with a drain at its end all lines tell an end; with lines that are spoilt the first one of these is told.
func TestAnyPlay(t *testing.T) {
	var d dice = 7
	seen := map[string]int{}
	for range 300 {
		lines := []string{script.Text(anyConfig(&d))}
		for range d.below(120) {
			if s := script.Line(anyStep(&d)); s != "" {
				lines = append(lines, s)
			}
		}
		text, n, e := plays(t, lined(lines...))
		if e != api.OK || n != len(lines) {
			t.Errorf("%q: %d, %d", lines, n, e)
		}
		seen[fmt.Sprint("open: ", strings.Contains(text, "open"))]++
		seen[fmt.Sprint("told 3 calls: ", strings.Count(text, "\n") > 2)]++
		text, n, e = plays(t, lined(append(lines, "drain\n")...))
		if e != api.OK || n != len(lines)+1 || strings.Contains(text, "open") || strings.Contains(text, "?") {
			t.Errorf("%q, drain: %q, %d, %d", lines, text, n, e)
		}
		for range 4 {
			_, _, e = plays(t, spoilt(&d, lined(lines...)))
			seen[fmt.Sprint("spoilt: ", e)]++
			_, _, e = plays(t, lined(append([]string{spoilt(&d, lines[0])}, lines[1:]...)...))
			seen[fmt.Sprint("spoilt: ", e)]++
		}
	}
	for _, what := range []string{"open: true", "open: false", "told 3 calls: true", "spoilt: 0", "spoilt: 1", "spoilt: 9"} {
		if seen[what] < 20 {
			t.Errorf("%s: %d times: too few to tell", what, seen[what])
		}
	}
}

// TestKeepsWhatIsHandedIn is R5 and R6: a step that is handed in is not changed, also where its list has room for more; a step that is told has a list of its own; the same again is the same.
func TestKeepsWhatIsHandedIn(t *testing.T) {
	x := begins(batch("a", "", "bc"))
	x.Move.Call.Datas = append(make([]string, 0, 9), x.Move.Call.Datas...)
	kept := begins(batch("a", "", "bc"))
	for range 3 {
		if script.Line(x) != "batch 61 - 6263" || differs(x, kept) != "" || x.Move.Call.Datas[:4][3] != "" {
			t.Fatalf("%q%s", script.Line(x), differs(x, kept))
		}
	}
	one, _ := script.Parse("batch 61 - 6263")
	two, _ := script.Parse("batch 61 - 6263")
	two.Move.Call.Datas[0] = "other"
	if differs(one, kept) != "" {
		t.Errorf("Parse%s", differs(one, kept))
	}
	s := lined(head, "subscribe", "add "+hexOf(data(tx(1, 0, 5))), "turn 5", "batch "+hexOf(data(tx(2, 0, 5)))+" 00", "turn 2", "turn 7", "read 0", "drain")
	text, n, e := script.Play(s)
	for range 3 {
		if again, m, f := script.Play(s); again != text || m != n || f != e {
			t.Errorf("%q, %d, %d, again %q, %d, %d", text, n, e, again, m, f)
		}
	}
}

// TestMany is R1: long words, many words, many lines.
func TestMany(t *testing.T) {
	n := 1 << 20
	long := strings.Repeat("\x9a", n)
	if s := script.Line(asks(pool.Op{Data: long})); s != "add "+strings.Repeat("9a", n) {
		t.Errorf("%d bytes", len(s))
	}
	if x, ok := script.Parse("add " + strings.Repeat("9a", n)); !ok || x.Move.Call.Op.Data != long {
		t.Errorf("%v", ok)
	}
	if x, ok := script.Parse("batch" + strings.Repeat(" -", n)); !ok || !slices.Equal(x.Move.Call.Datas, make([]string, n)) {
		t.Errorf("%v", ok)
	}
	for _, s := range []string{strings.Repeat("9", n), "turn " + strings.Repeat("9", n), "turn" + strings.Repeat(" 1", n), strings.Repeat(" ", n), "hopper" + strings.Repeat(" 1", n), "add " + strings.Repeat("9a", n) + "9"} {
		if _, ok := script.Parse(s); ok {
			t.Errorf("Parse of %.10q", s)
		}
		if _, ok := script.Config(s); ok {
			t.Errorf("Config of %.10q", s)
		}
	}
	if text, m, e := script.Play(head + strings.Repeat("\nstats", n) + "\nwhat"); text != "" || m != n+1 || e != api.ErrLine {
		t.Errorf("%.50q, %d, %d", text, m, e)
	}
	if text, m, e := script.Play(head + strings.Repeat("\nsubscribe\nturn 3\nstats\ndrain", 5000)); m != 20001 || e != api.OK || strings.Count(text, "\n") != 40 {
		t.Errorf("%.50q, %d, %d", text, m, e)
	}
}

// TestExample is the document's, and README's.
func TestExample(t *testing.T) {
	comes(t, "hopper 1 2 4 4 10 2 1 1\nadd 010101010001050109010a0000\ntemplate 100\nturn 2\ndrain", "2 add 0 0 0\n3 template 0 0 1\n", 5, api.OK)
	comes(t, "hopper 1 2 4 4 10 2 1 1\nstats\ndrain", "2 stats 0 0 0\n", 3, api.OK)
}
