package label

import (
	"math"
	"regexp"
	"slices"
	"strings"
	"testing"

	"trimtab/api"
)

// wrongNames are texts that are no names.
var wrongNames = []string{
	"", "-", "--", "-a", "a-", "-a-", "a--", "--a",
	strings.Repeat("a", 33), strings.Repeat("a", 1000), strings.Repeat("-", 32),
	"-" + strings.Repeat("a", 31), strings.Repeat("a", 31) + "-",
	"A", "Z", "aB", "Ba", "aBa",
	// neighbours of what may stand there
	"`", "{", "/", ":", ",", ".", "a`a", "a{a", "a/a", "a:a", "a,a", "a.a", "a_a", "a=a", "a+a",
	// blanks and what can't be seen
	" ", " a", "a ", "a a", "\ta", "a\n", "a\x00", "\x00", "\x7f", "\ufeffa",
	// what is no letter as a byte
	"ä", "aäa", "\xff", "a\xffa", "\u0430", "\u0661", "\uff41",
}

// rightNames are names.
var rightNames = []string{
	"a", "z", "0", "9", "m", "5", "zone", "disk", "n1", "0a", "a0", "007",
	"a-b", "a--b", "0-0", "a-0-z", "web-0001",
	strings.Repeat("a", 31), strings.Repeat("z", 32), strings.Repeat("9", 32),
	"a" + strings.Repeat("-", 30) + "z",
}

// noOps are numbers that are no Op, around those that are and at their ends.
var noOps = []int{
	math.MinInt, math.MinInt32, -4, -3, -2, -1, 4, 5, 6, 7, 8, 256, 257, 1 << 32, 1<<32 + 1, math.MaxInt,
}

func labels(pairs ...string) []api.Label {
	var l []api.Label
	for i := 0; i < len(pairs); i += 2 {
		l = append(l, api.Label{Key: pairs[i], Value: pairs[i+1]})
	}
	return l
}

func TestName(t *testing.T) {
	for _, s := range rightNames {
		if !Name(s) {
			t.Errorf("Name(%q) = false", s)
		}
	}
	for _, s := range wrongNames {
		if Name(s) {
			t.Errorf("Name(%.40q) = true", s)
		}
	}
}

var form = regexp.MustCompile(`^[a-z0-9]([a-z0-9-]{0,30}[a-z0-9])?$`)

// TestNameEachByte sets each byte at the first, a middle and the last place.
func TestNameEachByte(t *testing.T) {
	for b := range 256 {
		x := string([]byte{byte(b)})
		for _, s := range []string{x, x + "a", "a" + x, "a" + x + "a", x + x, x + "-", "-" + x} {
			if want := form.MatchString(s); Name(s) != want {
				t.Errorf("Name(%q) = %v", s, !want)
			}
		}
	}
}

func TestNameEachLength(t *testing.T) {
	for n := range 70 {
		for _, s := range []string{strings.Repeat("a", n), strings.Repeat("-", n), "a" + strings.Repeat("-", n) + "a"} {
			if want := form.MatchString(s); Name(s) != want {
				t.Errorf("Name(%q) = %v", s, !want)
			}
		}
	}
}

// rising is n labels whose keys rise.
func rising(n int) []api.Label {
	var l []api.Label
	for i := range n {
		l = append(l, api.Label{Key: "k" + string(rune('a'+i)), Value: "v"})
	}
	return l
}

func TestRight(t *testing.T) {
	for _, l := range [][]api.Label{
		nil, {}, rising(1), rising(7), rising(8),
		labels("disk", "ssd", "zone", "a"),
		labels("a", ""), labels("a", "", "b", ""), labels("a", "a", "b", "a"),
		// byte by byte: - stands ahead of digits, these ahead of letters, a beginning ahead of what goes on
		labels("a-b", "", "a0", "", "aa", ""), labels("a", "", "a-0", ""), labels("10", "", "9", ""), labels("9", "", "a", ""),
		labels(strings.Repeat("a", 31), "", strings.Repeat("a", 32), strings.Repeat("b", 32)),
	} {
		if !Right(l) {
			t.Errorf("Right(%v) = false", l)
		}
	}
	for _, l := range [][]api.Label{
		rising(9), rising(20),
		labels("zone", "a", "disk", "ssd"),
		labels("a", "", "a", ""), labels("a", "x", "a", "x"), labels("a", "x", "a", "y"),
		labels("a", "", "b", "", "b", ""), labels("a", "", "b", "", "a", ""), labels("b", "", "a", "", "c", ""), labels("a", "", "c", "", "b", ""),
		labels("9", "", "10", ""), labels("a", "", "9", ""), labels("aa", "", "a", ""), labels("a0", "", "a-0", ""),
		labels("", ""), labels("", "a"), labels("", "", "a", ""),
	} {
		if Right(l) {
			t.Errorf("Right(%v) = true", l)
		}
	}
}

// TestRightNames sets what is no name as a key and as a value, at each place.
func TestRightNames(t *testing.T) {
	for i := range 3 {
		for _, s := range rightNames {
			l := rising(3)
			if l[i].Value = s; !Right(l) {
				t.Errorf("Right(%v) = false", l)
			}
			if l := labels(s, ""); !Right(l) {
				t.Errorf("Right(%v) = false", l)
			}
		}
		for _, s := range wrongNames {
			l := rising(3)
			if l[i].Value = s; Right(l) != (s == "") {
				t.Errorf("Right(%.40q) = %v", l, s != "")
			}
			// the key rises, but is no name
			for _, prefix := range []string{"", l[i].Key} {
				l := rising(3)
				l[i].Key = prefix + s
				if !form.MatchString(prefix+s) && Right(l) {
					t.Errorf("Right(%.40q) = true", l)
				}
			}
			if l := labels(s, ""); Right(l) {
				t.Errorf("Right(%.40q) = true", l)
			}
		}
	}
}

func TestAsks(t *testing.T) {
	for _, op := range []int{api.Is, api.Isnt} {
		for _, value := range append([]string{""}, rightNames...) {
			if r := []api.Require{{Key: "zone", Value: value, Op: op}}; !Asks(r) {
				t.Errorf("Asks(%v) = false", r)
			}
		}
		for _, value := range wrongNames {
			if r := []api.Require{{Key: "zone", Value: value, Op: op}}; Asks(r) != (value == "") {
				t.Errorf("Asks(%d of %.40q) = %v", op, value, value != "")
			}
		}
	}
	for _, op := range []int{api.There, api.Absent} {
		if r := []api.Require{{Key: "zone", Op: op}}; !Asks(r) {
			t.Errorf("Asks(%v) = false", r)
		}
		for _, value := range append([]string{"a"}, wrongNames[1:]...) {
			if r := []api.Require{{Key: "zone", Value: value, Op: op}}; Asks(r) {
				t.Errorf("Asks(%d of %.40q) = true", op, value)
			}
		}
	}
	for _, op := range []int{api.Is, api.Isnt, api.There, api.Absent} {
		for _, key := range rightNames {
			if r := []api.Require{{Key: key, Op: op}}; !Asks(r) {
				t.Errorf("Asks(%v) = false", r)
			}
		}
		for _, key := range wrongNames {
			if r := []api.Require{{Key: key, Op: op}}; Asks(r) {
				t.Errorf("Asks(%d of key %.40q) = true", op, key)
			}
		}
	}
	for _, op := range noOps {
		for _, value := range []string{"", "a"} {
			if r := []api.Require{{Key: "zone", Value: value, Op: op}}; Asks(r) {
				t.Errorf("Asks(%v) = true", r)
			}
		}
	}
}

func TestAsksOfRows(t *testing.T) {
	for n := range 20 {
		r := make([]api.Require, n)
		for i := range r {
			r[i] = api.Require{Key: "zone", Value: "a", Op: i % 2}
		}
		if want := n <= 8; Asks(r) != want {
			t.Errorf("Asks of %d = %v", n, !want)
		}
		// at each place one alone that isn't right
		for i := range r {
			for _, wrong := range []api.Require{{}, {Key: "Zone"}, {Key: "zone", Value: "-"}, {Key: "zone", Value: "a", Op: api.There}} {
				l := slices.Clone(r)
				if l[i] = wrong; Asks(l) {
					t.Errorf("Asks(%v) = true", l)
				}
			}
		}
	}
	// neither do keys rise here, nor are they told once
	for _, r := range [][]api.Require{
		nil, {}, {{Key: "b"}, {Key: "a"}}, {{Key: "a"}, {Key: "a"}}, {{Key: "a", Op: api.There}, {Key: "a", Op: api.Absent}},
	} {
		if !Asks(r) {
			t.Errorf("Asks(%v) = false", r)
		}
	}
}

func TestGet(t *testing.T) {
	odd := labels("b", "1", "a", "2", "b", "3", "", "4", "A B", "\xff", "c", "", "c", "5")
	for _, c := range []struct {
		l          []api.Label
		key, value string
		there      bool
	}{
		{nil, "a", "", false}, {nil, "", "", false}, {labels(), "a", "", false},
		{labels("disk", "ssd", "zone", "a"), "disk", "ssd", true},
		{labels("disk", "ssd", "zone", "a"), "zone", "a", true},
		{labels("disk", "ssd", "zone", "a"), "ssd", "", false},
		{labels("disk", "ssd", "zone", "a"), "dis", "", false},
		{labels("disk", "ssd", "zone", "a"), "disks", "", false},
		{labels("disk", "ssd", "zone", "a"), "Disk", "", false},
		{labels("disk", "ssd", "zone", "a"), "", "", false},
		{labels("disk", ""), "disk", "", true},
		// labels that aren't right: the first one of a key
		{odd, "b", "1", true}, {odd, "a", "2", true}, {odd, "", "4", true}, {odd, "A B", "\xff", true}, {odd, "c", "", true},
	} {
		if value, there := Get(c.l, c.key); value != c.value || there != c.there {
			t.Errorf("Get(%v, %q) = %q, %v", c.l, c.key, value, there)
		}
	}
}

func TestMatchOne(t *testing.T) {
	l := labels("disk", "ssd", "spare", "", "zone", "a")
	odd := labels("zone", "b", "disk", "ssd", "zone", "a", "", "x")
	for _, c := range []struct {
		l          []api.Label
		key, value string
		holds      [4]bool // Is, Isnt, There, Absent
	}{
		{l, "zone", "a", [4]bool{true, false, true, false}},
		{l, "zone", "b", [4]bool{false, true, true, false}},
		{l, "zone", "", [4]bool{false, true, true, false}},
		{l, "disk", "ssd", [4]bool{true, false, true, false}},
		{l, "disk", "a", [4]bool{false, true, true, false}},
		{l, "spare", "", [4]bool{true, false, true, false}},
		{l, "spare", "a", [4]bool{false, true, true, false}},
		{l, "rack", "", [4]bool{false, true, false, true}},
		{l, "rack", "a", [4]bool{false, true, false, true}},
		{l, "", "", [4]bool{false, true, false, true}},
		{nil, "zone", "", [4]bool{false, true, false, true}},
		{nil, "zone", "a", [4]bool{false, true, false, true}},
		{nil, "", "", [4]bool{false, true, false, true}},
		// labels as Get tells them: the first one of a key counts
		{odd, "zone", "b", [4]bool{true, false, true, false}},
		{odd, "zone", "a", [4]bool{false, true, true, false}},
		{odd, "disk", "ssd", [4]bool{true, false, true, false}},
		// what isn't right is asked all the same
		{odd, "", "x", [4]bool{true, false, true, false}},
		{odd, "", "", [4]bool{false, true, true, false}},
		{odd, "\xff", "", [4]bool{false, true, false, true}},
	} {
		for op, want := range c.holds {
			if r := []api.Require{{Key: c.key, Value: c.value, Op: op}}; Match(c.l, r) != want {
				t.Errorf("Match(%v, %v) = %v", c.l, r, !want)
			}
		}
		for _, op := range noOps {
			if r := []api.Require{{Key: c.key, Value: c.value, Op: op}}; Match(c.l, r) {
				t.Errorf("Match(%v, %v) = true", c.l, r)
			}
		}
	}
}

func TestMatchAll(t *testing.T) {
	l := labels("disk", "ssd", "zone", "a")
	holds := []api.Require{
		{Key: "zone", Value: "a", Op: api.Is}, {Key: "disk", Value: "hdd", Op: api.Isnt},
		{Key: "disk", Op: api.There}, {Key: "rack", Op: api.Absent}, {Key: "rack", Value: "r1", Op: api.Isnt},
	}
	for n := range len(holds) + 1 {
		if !Match(l, holds[:n]) {
			t.Errorf("Match(%v, %v) = false", l, holds[:n])
		}
	}
	// at each place one alone that doesn't hold
	for i := range holds {
		for _, wrong := range []api.Require{
			{Key: "zone", Value: "b", Op: api.Is}, {Key: "disk", Value: "ssd", Op: api.Isnt},
			{Key: "rack", Op: api.There}, {Key: "zone", Op: api.Absent}, {Key: "zone", Value: "a", Op: 4}, {Key: "zone", Value: "a", Op: -1},
		} {
			r := slices.Clone(holds)
			if r[i] = wrong; Match(l, r) {
				t.Errorf("Match(%v, %v) = true", l, r)
			}
		}
	}
	if !Match(nil, nil) || !Match(l, nil) || !Match(nil, []api.Require{}) {
		t.Error("nothing is asked, and doesn't hold")
	}
	// more than MaxLabels are asked one by one as well
	many := slices.Repeat(holds, 5)
	if !Match(l, many) || Match(l, append(many, api.Require{Key: "rack", Op: api.There})) {
		t.Error("Match of many")
	}
}

func TestMatchExample(t *testing.T) {
	if !Match(labels("zone", "a"), []api.Require{{Key: "zone", Value: "a", Op: api.Is}, {Key: "disk", Op: api.Absent}}) {
		t.Error("zone=a doesn't match Is zone a, and Absent disk")
	}
}

func TestTolerates(t *testing.T) {
	for _, c := range []struct {
		taints, tolerations []api.Label
		want                bool
	}{
		{nil, nil, true}, {nil, labels("a", "x"), true}, {labels(), labels(), true},
		{labels("a", "x"), nil, false}, {labels("a", ""), nil, false},
		{labels("a", "x"), labels("a", "x"), true},
		{labels("a", "x"), labels("a", ""), true},
		{labels("a", ""), labels("a", ""), true},
		{labels("a", "x"), labels("a", "y"), false},
		// an empty value tolerates each one, but isn't tolerated by each one
		{labels("a", ""), labels("a", "x"), false},
		{labels("a", "x"), labels("b", "x"), false},
		{labels("a", "x"), labels("b", ""), false},
		{labels("a", "x"), labels("", ""), false},
		{labels("", ""), labels("a", ""), false},
		{labels("", "x"), labels("", ""), true},
		// one of the tolerations is enough, wherever it stands
		{labels("a", "x"), labels("a", "y", "a", "x"), true},
		{labels("a", "x"), labels("a", "y", "a", ""), true},
		{labels("a", "x"), labels("b", "x", "a", "x", "c", "x"), true},
		{labels("a", "x"), labels("b", "x", "a", "y", "c", ""), false},
		// each taint, wherever it stands
		{labels("a", "x", "b", "y"), labels("a", "x", "b", "y"), true},
		{labels("a", "x", "b", "y"), labels("b", "y", "a", "x"), true},
		{labels("a", "x", "b", "y"), labels("b", "", "a", ""), true},
		{labels("a", "x", "b", "y"), labels("a", "x"), false},
		{labels("a", "x", "b", "y"), labels("b", "y"), false},
		{labels("a", "x", "b", "y", "c", "z"), labels("a", "", "c", ""), false},
		{labels("a", "x", "b", "y"), labels("a", "y", "b", "x"), false},
		{labels("a", "x", "a", "y"), labels("a", ""), true},
		{labels("a", "x", "a", "y"), labels("a", "x"), false},
		{labels("a", "x", "a", "y"), labels("a", "x", "a", "y"), true},
		// what isn't right counts all the same
		{labels("A b", "\xff"), labels("A b", "\xff"), true},
		{labels("A b", "\xff"), labels("A b", "\xfe"), false},
		{rising(20), rising(20), true}, {rising(20), rising(19), false}, {rising(19), rising(20), true},
	} {
		if Tolerates(c.taints, c.tolerations) != c.want {
			t.Errorf("Tolerates(%v, %v) = %v", c.taints, c.tolerations, !c.want)
		}
	}
}

func TestSort(t *testing.T) {
	for _, c := range []struct{ l, want []api.Label }{
		{nil, nil}, {labels(), nil},
		{labels("a", "x"), labels("a", "x")},
		{labels("b", "1", "a", "2"), labels("a", "2", "b", "1")},
		{labels("a", "1", "b", "2"), labels("a", "1", "b", "2")},
		{labels("c", "1", "a", "2", "b", "3"), labels("a", "2", "b", "3", "c", "1")},
		// of a key that stands twice the first one, whatever their values
		{labels("a", "1", "a", "2"), labels("a", "1")},
		{labels("a", "2", "a", "1"), labels("a", "2")},
		{labels("a", "", "a", "1"), labels("a", "")},
		{labels("a", "1", "a", ""), labels("a", "1")},
		{labels("a", "1", "a", "1", "a", "1"), labels("a", "1")},
		{labels("b", "9", "a", "5", "b", "1", "a", "7", "b", "3"), labels("a", "5", "b", "9")},
		// byte by byte, of any bytes
		{labels("9", "", "10", "", "a0", "", "a-", "", "a", "", "Z", ""), labels("10", "", "9", "", "Z", "", "a", "", "a-", "", "a0", "")},
		{labels("\xff", "1", "ä", "2", "z", "3", "", "4", "\x00", "5"), labels("", "4", "\x00", "5", "z", "3", "ä", "2", "\xff", "1")},
	} {
		if got := Sort(c.l); !slices.Equal(got, c.want) {
			t.Errorf("Sort(%q) = %q, want %q", c.l, got, c.want)
		}
	}
}

// mixed is n labels of some keys, each key many times, with values that tell
// their places.
func mixed(n, keys int) []api.Label {
	l := make([]api.Label, n)
	state := uint32(n*31 + keys)
	for i := range l {
		state = state*1664525 + 1013904223
		l[i] = api.Label{Key: "k" + string(rune('a'+int(state>>16)%keys)), Value: strings.Repeat("v", i%7) + string(rune('0'+i%10))}
	}
	return l
}

// first is what Sort should answer: each key's first one, rising.
func first(l []api.Label) []api.Label {
	values := map[string]string{}
	var keys []string
	for _, x := range l {
		if _, there := values[x.Key]; !there {
			values[x.Key] = x.Value
			keys = append(keys, x.Key)
		}
	}
	slices.Sort(keys)
	var want []api.Label
	for _, k := range keys {
		want = append(want, api.Label{Key: k, Value: values[k]})
	}
	return want
}

// TestSortLongRows goes beyond the lengths up to which a sort that isn't
// stable happens to be so.
func TestSortLongRows(t *testing.T) {
	for _, n := range []int{1, 2, 3, 8, 12, 13, 20, 50, 100, 1000} {
		for _, keys := range []int{1, 2, 5, 26} {
			l := mixed(n, keys)
			if got, want := Sort(l), first(l); !slices.Equal(got, want) {
				t.Errorf("Sort of %d labels of %d keys = %v, want %v", n, keys, got, want)
			}
			a, b := l[:n/2], l[n/2:]
			if got, want := Merge(a, b), first(slices.Concat(b, a)); !slices.Equal(got, want) {
				t.Errorf("Merge of %d labels of %d keys = %v, want %v", n, keys, got, want)
			}
		}
	}
}

func TestMerge(t *testing.T) {
	for _, c := range []struct{ a, b, want []api.Label }{
		{nil, nil, nil}, {labels(), labels(), nil},
		{labels("a", "1"), nil, labels("a", "1")},
		{nil, labels("a", "1"), labels("a", "1")},
		{labels("b", "1", "a", "2"), nil, labels("a", "2", "b", "1")},
		{nil, labels("b", "1", "a", "2"), labels("a", "2", "b", "1")},
		{labels("a", "1"), labels("b", "2"), labels("a", "1", "b", "2")},
		{labels("b", "1"), labels("a", "2"), labels("a", "2", "b", "1")},
		// who stands in both has the second one's value
		{labels("a", "1"), labels("a", "2"), labels("a", "2")},
		{labels("a", "2"), labels("a", "1"), labels("a", "1")},
		{labels("a", "1"), labels("a", ""), labels("a", "")},
		{labels("a", ""), labels("a", "1"), labels("a", "1")},
		{labels("disk", "ssd", "zone", "a"), labels("disk", "hdd"), labels("disk", "hdd", "zone", "a")},
		{labels("a", "1", "c", "3"), labels("b", "2", "c", "4"), labels("a", "1", "b", "2", "c", "4")},
		// of a key that stands twice in one of them the first one
		{labels("a", "1", "a", "2"), nil, labels("a", "1")},
		{nil, labels("a", "1", "a", "2"), labels("a", "1")},
		{labels("a", "1", "a", "2"), labels("a", "3", "a", "4"), labels("a", "3")},
		{labels("b", "1", "a", "2", "b", "3"), labels("c", "4", "a", "5", "c", "6"), labels("a", "5", "b", "1", "c", "4")},
		// there may be more than MaxLabels
		{rising(12), rising(10), rising(12)},
	} {
		if got := Merge(c.a, c.b); !slices.Equal(got, c.want) {
			t.Errorf("Merge(%v, %v) = %v, want %v", c.a, c.b, got, c.want)
		}
	}
}

// spared is labels with spare room behind them, and the whole of it.
func spared(l []api.Label) (row, whole []api.Label) {
	whole = slices.Concat(l, labels("spare", "1", "spare", "2", "spare", "3", "spare", "4", "spare", "5", "spare", "6"))
	return whole[:len(l)], whole
}

// TestArgumentsStay is P5.2: what is handed in isn't changed, its spare room
// neither, and answers share nothing with it.
func TestArgumentsStay(t *testing.T) {
	a, allA := spared(labels("zone", "a", "disk", "ssd", "zone", "b"))
	b, allB := spared(labels("disk", "hdd", "arch", "x"))
	r := []api.Require{{Key: "zone", Value: "a"}, {Key: "disk", Op: api.There}}
	keptA, keptB, keptR := slices.Clone(allA), slices.Clone(allB), slices.Clone(r)
	same := func(call string) {
		if !slices.Equal(allA, keptA) || !slices.Equal(allB, keptB) || !slices.Equal(r, keptR) {
			t.Fatalf("%s has changed what was handed in: %v, %v, %v", call, allA, allB, r)
		}
	}
	Right(a)
	Asks(r)
	Get(a, "zone")
	Match(a, r)
	Tolerates(a, b)
	same("asking")
	for call, answer := range map[string]func() []api.Label{
		"Sort":               func() []api.Label { return Sort(a) },
		"Merge":              func() []api.Label { return Merge(a, b) },
		"Sort of one":        func() []api.Label { return Sort(a[:1]) },
		"Merge with nothing": func() []api.Label { return Merge(a, nil) },
		"Merge of nothing":   func() []api.Label { return Merge(nil, b) },
		"Sort of none":       func() []api.Label { return Sort(a[:0]) },
		"Merge of none":      func() []api.Label { return Merge(a[:0], b[:0]) },
	} {
		one := answer()
		same(call)
		two := answer()
		want := slices.Clone(two)
		// who writes into an answer, and into its spare room, reaches nothing else
		clear(one)
		one = append(one, labels("x", "1", "y", "2", "z", "3")...)
		clear(one[:cap(one)])
		same(call + ", written into,")
		if !slices.Equal(two, want) {
			t.Fatalf("%s: two answers share memory: %v, %v", call, two, want)
		}
	}
}

// TestAnswersStay is P5.2: nothing is kept that a later change of what was
// handed in could reach.
func TestAnswersStay(t *testing.T) {
	a, b := labels("zone", "a", "disk", "ssd"), labels("disk", "hdd")
	sorted, merged := Sort(a), Merge(a, b)
	clear(a)
	clear(b)
	if !slices.Equal(sorted, labels("disk", "ssd", "zone", "a")) {
		t.Errorf("sorted: %v", sorted)
	}
	if !slices.Equal(merged, labels("disk", "hdd", "zone", "a")) {
		t.Errorf("merged: %v", merged)
	}
	if got := Merge(nil, nil); len(got) != 0 {
		t.Errorf("Merge of nothing = %v", got)
	}
}
