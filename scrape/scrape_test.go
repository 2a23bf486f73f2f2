package scrape

import (
	"cmp"
	"math"
	"math/rand"
	"slices"
	"strconv"
	"strings"
	"testing"

	"trimtab/api"
	"trimtab/ring"
)

type sample = ring.Sample[api.Milli]

// noMost and noAge are numbers of which no book is.
var (
	noMost = []int{math.MinInt, -256, -32, -1, 0, 33, 64, 256, 1800, 1 << 32, 1<<32 + 1, math.MaxInt}
	noAge  = []int{math.MinInt, -1800, -1, 0, 1801, 3600, 65536, 1 << 32, 1<<32 + 1, math.MaxInt}
)

// noTicks are below 0, or above MaxClock.
var noTicks = []int64{math.MinInt64, math.MinInt64 + 1, -1 << 32, -256, -1, api.MaxClock + 1, math.MaxInt64 - 1, math.MaxInt64}

// noNames are texts that are no names.
var noNames = []string{"", "-", "-a", "a-", "A", "a b", "a/b", "a\x00", "\xff", "ä", strings.Repeat("a", 33), strings.Repeat("a", 300)}

// noSamples are bits that have no quantity, with what is told of them.
var noSamples = []struct {
	bits uint64
	e    api.Errno
}{
	{0x7ff8000000000001, api.ErrForm}, {0x7ff0000000000001, api.ErrForm}, {0xffffffffffffffff, api.ErrForm},
	{bits(math.Inf(1)), api.ErrRange}, {bits(math.Inf(-1)), api.ErrRange}, {bits(-1), api.ErrRange},
	{bits(-0.0001), api.ErrRange}, {bits(9007199254741), api.ErrRange}, {bits(math.MaxFloat64), api.ErrRange},
}

var cpu = Series{"p1", "cpu"}

// one is a sample's quantity at a tick.
func one(at int64, m api.Milli) sample { return sample{At: at, Value: m} }

func bits(x float64) uint64 { return math.Float64bits(x) }

// made is a book of no samples.
func made(t *testing.T, most, age int) *Book {
	t.Helper()
	b, e := New(Rules{Most: most, Age: age})
	if b == nil || e != api.OK {
		t.Fatalf("New(%d, %d): %v, %d", most, age, b, e)
	}
	return b
}

// bring brings samples of so many wholes of one series, at ticks.
func bring(t *testing.T, b *Book, s Series, wholes int64, ticks ...int64) {
	t.Helper()
	for _, at := range ticks {
		if m, e := b.Scrape(at, s, bits(float64(wholes))); int64(m) != 1000*wholes || e != api.OK {
			t.Fatalf("Scrape(%d, %v, %d): %d, %d", at, s, wholes, m, e)
		}
	}
}

// refused wants an error of Scrape, beside it no quantity, and that the book
// tells what it told.
func refused(t *testing.T, b *Book, at int64, s Series, x uint64, want api.Errno) {
	t.Helper()
	before := told(b)
	if m, e := b.Scrape(at, s, x); m != 0 || e != want {
		t.Fatalf("Scrape(%d, %q, %x): %d, %d, want %d", at, s, x, m, e, want)
	}
	same(t, told(b), before)
}

// tale is what a book tells.
type tale struct {
	all   []Series
	fresh []sample // with the error as its tick
	rows  [][]sample
}

// told is what a book tells of all its series, at ticks around all its samples.
func told(b *Book) tale {
	x := tale{all: b.All()}
	for _, s := range x.all {
		for _, now := range nows(b, s) {
			m, e := b.Fresh(now, s)
			x.fresh = append(x.fresh, one(int64(e), m))
			x.rows = append(x.rows, b.Row(now, s))
		}
	}
	return x
}

// nows are ticks around all samples that a ring has, and around their ages.
func nows(b *Book, s Series) []int64 {
	l := []int64{math.MinInt64, -1, 0, math.MaxInt64}
	for x := range b.rings[s].Since(0) {
		end := x.At + int64(b.rules.Age)
		l = append(l, x.At-1, x.At, x.At+1, end-1, end, end+1)
	}
	return l
}

func same(t *testing.T, got, want tale) {
	t.Helper()
	if !slices.Equal(got.all, want.all) || !slices.Equal(got.fresh, want.fresh) || !slices.EqualFunc(got.rows, want.rows, slices.Equal) {
		t.Fatalf("it tells %v, not %v", got, want)
	}
}

// asked wants what is fresh of a series at a tick, and its row.
func asked(t *testing.T, b *Book, now int64, s Series, m api.Milli, e api.Errno, row ...sample) {
	t.Helper()
	if got, err := b.Fresh(now, s); got != m || err != e {
		t.Errorf("Fresh(%d, %q): %d, %d, want %d, %d", now, s, got, err, m, e)
	}
	if got := b.Row(now, s); !slices.Equal(got, row) {
		t.Errorf("Row(%d, %q): %v, want %v", now, s, got, row)
	}
}

// P11.1, New

func TestNew(t *testing.T) {
	for most := 1; most <= api.MaxRing; most++ {
		for _, age := range []int{1, 2, 32, 33, 1799, 1800} {
			b := made(t, most, age)
			if l := b.All(); len(l) != 0 {
				t.Error(l)
			}
			asked(t, b, 0, cpu, 0, api.ErrNone)
		}
	}
}

func TestNewErrors(t *testing.T) {
	var bad []Rules
	for _, most := range noMost {
		bad = append(bad, Rules{most, 1}, Rules{most, 1800})
		for _, age := range noAge {
			bad = append(bad, Rules{most, age})
		}
	}
	for _, age := range noAge {
		bad = append(bad, Rules{1, age}, Rules{32, age})
	}
	for _, r := range bad {
		if b, e := New(r); b != nil || e != api.ErrArg {
			t.Errorf("New(%v): %v, %d", r, b, e)
		}
	}
}

// TestMost: as many samples are kept as Most says, of each series.
func TestMost(t *testing.T) {
	for most := 1; most <= api.MaxRing; most++ {
		b := made(t, most, 1800)
		for i := range int64(2*most + 1) {
			bring(t, b, cpu, 3, i)
			bring(t, b, Series{"p1", "mem"}, 4, i)
			want := min(int(i)+1, most)
			for m, s := range map[api.Milli]Series{3000: cpu, 4000: {"p1", "mem"}} {
				l := b.Row(i, s)
				if len(l) != want || l[0].At != i+1-int64(want) || l[0].Value != m {
					t.Fatalf("of %d, behind %d: %v", most, i, l)
				}
			}
		}
	}
}

// P11.1, Scrape

func TestScrape(t *testing.T) {
	b := made(t, 32, 1800)
	for i, x := range []struct {
		of   float64
		want api.Milli
	}{
		{0, 0}, {math.Copysign(0, -1), 0}, {1, 1000}, {1.5, 1500}, {0.1, 100}, {0.0005, 1}, {0.0004, 0},
		{0.0625, 62}, {0.1875, 188}, {math.SmallestNonzeroFloat64, 0}, {9007199254740.992, api.MaxMilli},
	} {
		at := int64(i)
		if m, e := b.Scrape(at, cpu, bits(x.of)); m != x.want || e != api.OK {
			t.Errorf("Scrape of %v: %d, %d, want %d", x.of, m, e, x.want)
		}
		if l := b.Row(at, cpu); len(l) != i+1 || l[i] != one(at, x.want) {
			t.Errorf("Row behind %v: %v", x.of, l)
		}
		if m, e := b.Fresh(at, cpu); m != x.want || e != api.OK {
			t.Errorf("Fresh behind %v: %d, %d", x.of, m, e)
		}
	}
	if l := b.All(); !slices.Equal(l, []Series{cpu}) {
		t.Error(l)
	}
}

// TestScrapeAtEnds: each tick from 0 to MaxClock may be.
func TestScrapeAtEnds(t *testing.T) {
	ends := []int64{0, 1, 1 << 31, 1 << 32, api.MaxClock - 1, api.MaxClock}
	b := made(t, 6, 1)
	for i, at := range ends {
		s := Series{"at", strconv.Itoa(i)}
		bring(t, b, cpu, 1, at)
		bring(t, b, s, 7, at)
		asked(t, b, at, s, 7000, api.OK, one(at, 7000))
	}
}

func TestScrapeNames(t *testing.T) {
	b := made(t, 2, 9)
	names := []string{"a", "0", "a-b", "9--z", strings.Repeat("a", 32), "external"}
	for _, subject := range names {
		for _, metric := range names {
			bring(t, b, Series{subject, metric}, 1, 5)
		}
	}
	if n := len(b.All()); n != len(names)*len(names) {
		t.Error(n)
	}
	for _, no := range noNames {
		for _, s := range []Series{{no, "cpu"}, {"p1", no}, {no, no}} {
			refused(t, b, 5, s, bits(1), api.ErrName)
			asked(t, b, 5, s, 0, api.ErrNone)
		}
	}
}

func TestScrapeTicks(t *testing.T) {
	b := made(t, 2, 9)
	for behind := range int64(2) { // of no series, and of one that there is
		for _, at := range noTicks {
			refused(t, b, at, cpu, bits(1), api.ErrArg)
		}
		bring(t, b, cpu, 1, behind)
	}
}

func TestScrapeBits(t *testing.T) {
	b := made(t, 2, 9)
	for at := range int64(2) {
		for _, x := range noSamples {
			refused(t, b, at, cpu, x.bits, x.e)
		}
		bring(t, b, cpu, 1, at)
	}
}

// TestScrapeStale: a tick must be above the last one of its own series, also
// when those below it were driven out.
func TestScrapeStale(t *testing.T) {
	other := Series{"p2", "cpu"}
	for most := 1; most <= 3; most++ {
		b := made(t, most, 9)
		for _, last := range []int64{0, 4, 5, 9, 1000, api.MaxClock} {
			bring(t, b, cpu, 1, last)
			for _, at := range []int64{last, last - 1, last - 2, 0} {
				if at >= 0 {
					refused(t, b, at, cpu, bits(2), api.ErrStale)
				}
			}
		}
		bring(t, b, other, 1, 0, 3)
		bring(t, b, Series{"p1", "mem"}, 1, 0, 2)
		refused(t, b, 3, other, bits(2), api.ErrStale)
	}
}

// full is a book of as many series as there may be.
func full(t *testing.T) *Book {
	t.Helper()
	b := made(t, 2, 9)
	for i := range api.MaxObjects {
		if n := len(b.All()); n != i {
			t.Fatal(i, n)
		}
		bring(t, b, Series{"p" + strconv.Itoa(i/4), "m" + strconv.Itoa(i%4)}, 1, 5)
	}
	return b
}

// TestScrapeFull: there is no room for a new one, but for more of those there are.
func TestScrapeFull(t *testing.T) {
	b := full(t)
	for _, at := range []int64{0, 5, 6, api.MaxClock} {
		refused(t, b, at, cpu, bits(1), api.ErrFull)
		refused(t, b, at, Series{"p0", "m4"}, bits(1), api.ErrFull)
		refused(t, b, at, Series{"m0", "p0"}, bits(1), api.ErrFull)
	}
	for i := range api.MaxObjects {
		s := Series{"p" + strconv.Itoa(i/4), "m" + strconv.Itoa(i%4)}
		bring(t, b, s, 2, 6, 7)
		asked(t, b, 7, s, 2000, api.OK, one(6, 2000), one(7, 2000))
	}
	if n := b.Forget("p77"); n != 4 {
		t.Fatal(n)
	}
	for i := range 4 {
		bring(t, b, Series{"new", strconv.Itoa(i)}, 1, 0)
	}
	refused(t, b, 9, Series{"p77", "m0"}, bits(1), api.ErrFull)
	if n := len(b.All()); n != api.MaxObjects {
		t.Error(n)
	}
}

// TestScrapeOrder: of several errors the one that is named first.
func TestScrapeOrder(t *testing.T) {
	const nan = 0x7ff8000000000000
	b := full(t)
	there, fresh := Series{"p0", "m0"}, Series{"q", "m"}
	for _, at := range noTicks {
		for _, s := range []Series{there, fresh, {"", "m"}, {"p", ""}} {
			refused(t, b, at, s, bits(1), api.ErrArg)
			refused(t, b, at, s, nan, api.ErrArg)
			refused(t, b, at, s, bits(-1), api.ErrArg)
		}
	}
	for _, x := range noSamples {
		for _, at := range []int64{0, 5, 6} {
			refused(t, b, at, Series{"", "m"}, x.bits, api.ErrName)
			refused(t, b, at, Series{"p0", ""}, x.bits, api.ErrName)
			refused(t, b, at, there, x.bits, x.e) // at 0 and 5 too old also
			refused(t, b, at, fresh, x.bits, x.e) // no room also
		}
	}
	refused(t, b, 0, Series{"", "m"}, bits(1), api.ErrName)
	refused(t, b, 5, there, bits(1), api.ErrStale)
	refused(t, b, 5, fresh, bits(1), api.ErrFull)
}

// TestRefusedIsNew: what was refused, and made no series, may come at any tick.
func TestRefusedIsNew(t *testing.T) {
	b := made(t, 2, 9)
	for _, x := range noSamples {
		refused(t, b, 100, cpu, x.bits, x.e)
	}
	refused(t, b, api.MaxClock+1, cpu, bits(1), api.ErrArg)
	if l := b.All(); len(l) != 0 {
		t.Error(l)
	}
	if n := b.Forget("p1"); n != 0 {
		t.Error(n)
	}
	bring(t, b, cpu, 1, 0)
	refused(t, b, 100, cpu, noSamples[0].bits, noSamples[0].e)
	bring(t, b, cpu, 1, 1)
}

// P11.1, Fresh and Row

// TestFreshExample: of Age 10, scraped at 5: fresh at 15, stale at 16.
func TestFreshExample(t *testing.T) {
	b := made(t, 3, 10)
	bring(t, b, cpu, 1, 5)
	for now := int64(5); now <= 15; now++ {
		asked(t, b, now, cpu, 1000, api.OK, one(5, 1000))
	}
	asked(t, b, 4, cpu, 0, api.ErrNone)
	asked(t, b, 16, cpu, 0, api.ErrStale)
}

// TestFreshAges: each Age is a sample's last fresh tick, wherever it stands.
func TestFreshAges(t *testing.T) {
	for _, age := range []int64{1, 2, 10, 255, 256, 1799, 1800} {
		for _, at := range []int64{0, 1, age, 1 << 32, api.MaxClock - 1800, api.MaxClock} {
			b := made(t, 3, int(age))
			bring(t, b, cpu, 2, at)
			x := one(at, 2000)
			asked(t, b, at-1, cpu, 0, api.ErrNone)
			asked(t, b, at, cpu, 2000, api.OK, x)
			asked(t, b, at+1, cpu, 2000, api.OK, x)
			asked(t, b, at+age-1, cpu, 2000, api.OK, x)
			asked(t, b, at+age, cpu, 2000, api.OK, x)
			asked(t, b, at+age+1, cpu, 0, api.ErrStale)
			asked(t, b, at+1<<32, cpu, 0, api.ErrStale)
			asked(t, b, math.MaxInt64, cpu, 0, api.ErrStale)
			asked(t, b, -1, cpu, 0, api.ErrNone)
			asked(t, b, math.MinInt64, cpu, 0, api.ErrNone)
			asked(t, b, math.MinInt64+age, cpu, 0, api.ErrNone)
		}
	}
}

// TestFreshAmong: of several samples those above now count for nothing, and the
// last one of the others is fresh or not.
func TestFreshAmong(t *testing.T) {
	b := made(t, 4, 20)
	for i, at := range []int64{0, 10, 30, 50, 90} { // the first one is driven out
		bring(t, b, cpu, int64(i), at)
	}
	second, third, fourth, fifth := one(10, 1000), one(30, 2000), one(50, 3000), one(90, 4000)
	for _, x := range []struct {
		now int64
		m   api.Milli
		e   api.Errno
		row []sample
	}{
		{-1, 0, api.ErrNone, nil}, {0, 0, api.ErrNone, nil}, {9, 0, api.ErrNone, nil},
		{10, 1000, api.OK, []sample{second}}, {29, 1000, api.OK, []sample{second}},
		{30, 2000, api.OK, []sample{second, third}}, {31, 2000, api.OK, []sample{third}},
		{49, 2000, api.OK, []sample{third}}, {50, 3000, api.OK, []sample{third, fourth}},
		{51, 3000, api.OK, []sample{fourth}}, {70, 3000, api.OK, []sample{fourth}},
		{71, 0, api.ErrStale, nil}, {89, 0, api.ErrStale, nil},
		{90, 4000, api.OK, []sample{fifth}}, {110, 4000, api.OK, []sample{fifth}}, {111, 0, api.ErrStale, nil},
	} {
		asked(t, b, x.now, cpu, x.m, x.e, x.row...)
	}
}

// TestFreshOfWhom: series are told apart by both of their names.
func TestFreshOfWhom(t *testing.T) {
	b := made(t, 3, 10)
	all := []Series{{"a", "b"}, {"b", "a"}, {"a", "a"}, {"a", "b-c"}, {"a-b", "c"}, {"ab", "c"}, {"a", "bc"}}
	for i, s := range all {
		bring(t, b, s, int64(i), int64(i))
	}
	for i, s := range all {
		asked(t, b, 9, s, api.Milli(1000*i), api.OK, one(int64(i), api.Milli(1000*i)))
	}
	for _, s := range []Series{{}, {"a", ""}, {"", "b"}, {"b", "b"}, {"a-b-c", ""}, {"", "a-b-c"}, {"A", "b"}, {"c", "ab"}} {
		for _, now := range []int64{math.MinInt64, 0, 9, math.MaxInt64} {
			asked(t, b, now, s, 0, api.ErrNone)
		}
	}
	if n := len(b.All()); n != len(all) { // asking makes none
		t.Error(n)
	}
}

// P11.1, Forget

func TestForget(t *testing.T) {
	b := made(t, 3, 10)
	all := []Series{{"p1", "cpu"}, {"p1", "mem"}, {"p1", "p1"}, {"p10", "cpu"}, {"p", "p1"}, {"cpu", "p1"}, {"p2", "cpu"}}
	for _, s := range all {
		bring(t, b, s, 1, 5)
	}
	for _, none := range append([]string{"p3", "mem", "p1-", "p11", "P1"}, noNames...) {
		before := told(b)
		if n := b.Forget(none); n != 0 {
			t.Errorf("Forget(%q): %d", none, n)
		}
		same(t, told(b), before)
	}
	if n := b.Forget("p1"); n != 3 {
		t.Error(n)
	}
	if l := b.All(); !slices.Equal(l, []Series{{"cpu", "p1"}, {"p", "p1"}, {"p10", "cpu"}, {"p2", "cpu"}}) {
		t.Error(l)
	}
	for i, s := range all {
		if i < 3 {
			asked(t, b, 5, s, 0, api.ErrNone)
		} else {
			asked(t, b, 5, s, 1000, api.OK, one(5, 1000))
		}
	}
	if n := b.Forget("p1"); n != 0 {
		t.Error(n)
	}
	bring(t, b, cpu, 2, 0) // at a tick below the one that went
	asked(t, b, 5, cpu, 2000, api.OK, one(0, 2000))
	if n := b.Forget("p1"); n != 1 {
		t.Error(n)
	}
}

// TestForgetAll lets each subject of a full book go.
func TestForgetAll(t *testing.T) {
	b := full(t)
	for i := range api.MaxObjects / 4 {
		if n := b.Forget("p" + strconv.Itoa(i)); n != 4 {
			t.Fatal(i, n)
		}
		if n := len(b.All()); n != api.MaxObjects-4*(i+1) {
			t.Fatal(i, n)
		}
	}
}

// P11.1, All

// TestAll: names rise byte by byte, subjects ahead of metrics, however they came.
func TestAll(t *testing.T) {
	names := []string{"0", "0-0", "00", "1", "10", "2", "9", "a", "a-b", "a0", "aa", "b", "z", strings.Repeat("z", 32)}
	var all []Series
	for _, subject := range names {
		for _, metric := range names {
			all = append(all, Series{subject, metric})
		}
	}
	chance := rand.New(rand.NewSource(2))
	for range 5 {
		b := made(t, 1, 1)
		for _, i := range chance.Perm(len(all)) {
			bring(t, b, all[i], 1, chance.Int63n(100))
		}
		for range 5 {
			if l := b.All(); !slices.Equal(l, all) {
				t.Fatal(l)
			}
		}
	}
}

// TestAllOfOld: a series stays, however old its samples are.
func TestAllOfOld(t *testing.T) {
	b := made(t, 1, 1)
	bring(t, b, cpu, 1, 0)
	bring(t, b, Series{"p2", "cpu"}, 1, api.MaxClock)
	asked(t, b, api.MaxClock, cpu, 0, api.ErrStale)
	if l := b.All(); !slices.Equal(l, []Series{cpu, {"p2", "cpu"}}) {
		t.Error(l)
	}
}

// P11.1, Copy

// TestCopy: what becomes of one isn't told by the other, and both go by the same
// rules.
func TestCopy(t *testing.T) {
	b := made(t, 2, 10)
	if l := b.Copy().All(); len(l) != 0 {
		t.Error(l)
	}
	mem := Series{"p1", "mem"}
	bring(t, b, cpu, 1, 0, 5, 8)
	bring(t, b, mem, 2, 6)
	bring(t, b, Series{"p2", "cpu"}, 3, 7)
	before := told(b)
	c := b.Copy()
	same(t, told(c), before)
	bring(t, b, cpu, 4, 9)
	bring(t, b, Series{"new", "cpu"}, 4, 9)
	b.Forget("p2")
	same(t, told(c), before)
	behind := told(b)
	bring(t, c, cpu, 5, 9, 10, 11)
	bring(t, c, mem, 5, 11)
	bring(t, c, Series{"other", "cpu"}, 5, 9)
	c.Forget("p2")
	same(t, told(b), behind)
	asked(t, c, 20, cpu, 5000, api.OK, one(10, 5000), one(11, 5000))
	asked(t, c, 21, cpu, 5000, api.OK, one(11, 5000))
	asked(t, c, 22, cpu, 0, api.ErrStale)
	asked(t, c, 16, mem, 5000, api.OK, one(6, 2000), one(11, 5000))
	refused(t, c, 11, cpu, bits(1), api.ErrStale)
	c.Forget("p1")
	same(t, told(b), behind)
}

func TestCopyOfFull(t *testing.T) {
	b := full(t)
	c := b.Copy()
	same(t, told(c), told(b))
	refused(t, c, 5, cpu, bits(1), api.ErrFull)
	c.Forget("p3")
	bring(t, c, cpu, 1, 5)
	refused(t, b, 5, cpu, bits(1), api.ErrFull)
}

// P11.1, nil

func TestNilBook(t *testing.T) {
	var b *Book
	for _, at := range append([]int64{0, 5, api.MaxClock}, noTicks...) {
		for _, s := range []Series{{}, cpu, {"p1", ""}} {
			for _, x := range []uint64{0, bits(1), noSamples[0].bits} {
				if m, e := b.Scrape(at, s, x); m != 0 || e != api.ErrArg {
					t.Error(at, s, m, e)
				}
			}
			asked(t, b, at, s, 0, api.ErrArg)
		}
	}
	if b.Forget("p1") != 0 || b.Forget("") != 0 || len(b.All()) != 0 || b.Copy() != nil {
		t.Error(b.All(), b.Copy())
	}
}

// TestNotMade: one that New didn't make keeps nothing, and no call panics.
func TestNotMade(t *testing.T) {
	for _, b := range []*Book{new(Book), new(Book).Copy()} {
		refused(t, b, 5, cpu, bits(1), api.ErrArg)
		asked(t, b, 5, cpu, 0, api.ErrNone)
		if b.Forget("p1") != 0 || len(b.All()) != 0 {
			t.Error(b.All())
		}
	}
}

// P11.1, all together

// page is all samples of a series that are kept.
type page struct {
	of   Series
	rows []sample
}

// pages is a book kept as a list.
type pages struct {
	r   Rules
	all []page
}

func (p *pages) find(s Series) int {
	return slices.IndexFunc(p.all, func(x page) bool { return x.of == s })
}

// scrape puts a sample of a quantity at a tick that may be.
func (p *pages) scrape(at int64, s Series, m api.Milli) api.Errno {
	i := p.find(s)
	if i < 0 {
		p.all = append(p.all, page{of: s})
		i = len(p.all) - 1
	}
	l := p.all[i].rows
	if len(l) > 0 && at <= l[len(l)-1].At {
		return api.ErrStale
	}
	l = append(slices.Clone(l), one(at, m))
	p.all[i].rows = l[max(0, len(l)-p.r.Most):]
	return api.OK
}

// ask is what is fresh of a series, and its row.
func (p *pages) ask(now int64, s Series) (api.Milli, api.Errno, []sample) {
	m, e, row := api.Milli(0), api.ErrNone, []sample(nil)
	if i := p.find(s); i >= 0 {
		for _, x := range p.all[i].rows {
			switch {
			case x.At > now:
			case x.At+int64(p.r.Age) < now:
				e = api.ErrStale
			default:
				m, e, row = x.Value, api.OK, append(row, x)
			}
		}
	}
	return m, e, row
}

func (p *pages) forget(subject string) int {
	before := len(p.all)
	p.all = slices.DeleteFunc(p.all, func(x page) bool { return x.of.Subject == subject })
	return before - len(p.all)
}

func (p *pages) names() []Series {
	var l []Series
	for _, x := range p.all {
		l = append(l, x.of)
	}
	slices.SortFunc(l, func(a, b Series) int { // no name has a blank, and each sign of one is above it
		return cmp.Compare(a.Subject+" "+a.Metric, b.Subject+" "+b.Metric)
	})
	return l
}

// TestAgainstPages holds books against lists that do the same.
func TestAgainstPages(t *testing.T) {
	chance := rand.New(rand.NewSource(1))
	for range 60 {
		p := &pages{r: Rules{1 + chance.Intn(api.MaxRing), 1 + chance.Intn(40)}}
		b := made(t, p.r.Most, p.r.Age)
		for now := range int64(120) {
			s := Series{"p" + strconv.Itoa(chance.Intn(4)), "m" + strconv.Itoa(chance.Intn(3))}
			at := max(0, now-chance.Int63n(4))
			x := float64(chance.Intn(100)) / 8
			want := p.scrape(at, s, api.Milli(1000*x))
			if m, e := b.Scrape(at, s, bits(x)); e != want || e == api.OK && m != api.Milli(1000*x) || e != api.OK && m != 0 {
				t.Fatalf("Scrape(%d, %v, %v): %d, %d, want %d", at, s, x, m, e, want)
			}
			if chance.Intn(30) == 0 {
				if n, want := b.Forget(s.Subject), p.forget(s.Subject); n != want {
					t.Fatalf("Forget(%v): %d, want %d", s.Subject, n, want)
				}
			}
			if chance.Intn(20) == 0 {
				b = b.Copy()
			}
			if !slices.Equal(b.All(), p.names()) {
				t.Fatal(b.All(), p.names())
			}
			for range 10 {
				s := Series{"p" + strconv.Itoa(chance.Intn(4)), "m" + strconv.Itoa(chance.Intn(3))}
				when := now + 20 - chance.Int63n(80)
				m, e, row := p.ask(when, s)
				asked(t, b, when, s, m, e, row...)
			}
		}
	}
}

// P11.2

// TestMemoryOfAnswers spoils what was answered, and the spare room behind it: the
// book tells what it told.
func TestMemoryOfAnswers(t *testing.T) {
	b := made(t, 5, 100)
	for i := range 9 {
		bring(t, b, Series{"p" + strconv.Itoa(i), "mem"}, 1, 5, 6, 7)
		bring(t, b, cpu, 1, int64(20+i))
	}
	before := told(b)
	for now := int64(20); now < 130; now++ {
		first, second := b.Row(now, cpu), b.Row(now, cpu)
		keep := slices.Clone(second)
		for i := range first[:cap(first)] {
			first[:cap(first)][i] = one(99, 99)
		}
		if !slices.Equal(second, keep) {
			t.Fatal(second, keep)
		}
	}
	first, second := b.All(), b.All()
	for i := range first[:cap(first)] {
		first[:cap(first)][i] = Series{"z", "z"}
	}
	if !slices.Equal(second, before.all) {
		t.Fatal(second)
	}
	same(t, told(b), before)
}

// TestRulesAreApart: the rules that were handed in may change behind New.
func TestRulesAreApart(t *testing.T) {
	r := Rules{Most: 2, Age: 10}
	b, _ := New(r)
	r.Most, r.Age = 1, 1
	bring(t, b, cpu, 1, 0, 1, 2)
	asked(t, b, 11, cpu, 1000, api.OK, one(1, 1000), one(2, 1000))
}

// TestNothingIsKept: of what went, and of what was only asked for, there is
// nothing in the book.
func TestNothingIsKept(t *testing.T) {
	b := made(t, 2, 10)
	for i := range int64(2000) {
		s := Series{"p" + strconv.FormatInt(i, 10), "cpu"}
		b.Fresh(i, s)
		b.Row(i, s)
		bring(t, b, s, 1, i)
		b.Scrape(i, s, bits(1))
		b.Scrape(i, Series{s.Subject, "mem"}, bits(-1))
		if n := b.Forget(s.Subject); n != 1 || len(b.rings) != 0 {
			t.Fatal(i, n, len(b.rings))
		}
	}
}
