package cloud

import (
	"fmt"
	"math"
	"math/rand"
	"reflect"
	"slices"
	"sort"
	"strings"
	"testing"

	"trimtab/api"
	"trimtab/store"
)

// noTicks are numbers that are no tick; ticks are such as are.
var (
	noTicks = []int64{math.MinInt64, math.MinInt64 + 1, -api.MaxClock, -1, api.MaxClock + 1, math.MaxInt64 - 1, math.MaxInt64}
	ticks   = []int64{0, 1, 7, 1 << 32, api.MaxClock - 1, api.MaxClock}
)

// noNames are texts that are no name (chapter 5).
var noNames = []string{"", "-", "-g", "g-", "G", "g ", " g", "g\x00", "g_a", "g.a", "g!0000", "é", "\xff", strings.Repeat("g", 33), strings.Repeat("g", 5000)}

// longNames are names that an instance's name leaves no room for.
var longNames = []string{strings.Repeat("g", 28), strings.Repeat("g", 29), strings.Repeat("g", 31), strings.Repeat("g", 32)}

// few are numbers of nodes that nobody asks for.
var few = []int{math.MinInt, math.MinInt + 1, -1 << 32, -64, -1, 0}

func same(t *testing.T, got, want any) {
	t.Helper()
	if !reflect.DeepEqual(got, want) {
		t.Fatalf("got %+v, want %+v", got, want)
	}
}

// instances are a group's of these numbers, there from a tick on.
func instances(group string, at int64, numbers ...int) []Instance {
	var l []Instance
	for _, n := range numbers {
		l = append(l, Instance{Name: fmt.Sprintf("%s-%04d", group, n), Group: group, At: at})
	}
	return l
}

// count is the numbers from one to another.
func count(from, to int) []int {
	var l []int
	for n := from; n <= to; n++ {
		l = append(l, n)
	}
	return l
}

// rising is instances, rising by names.
func rising(l ...[]Instance) []Instance {
	all := slices.Concat(l...)
	sort.Slice(all, func(i, j int) bool { return all[i].Name < all[j].Name })
	return all
}

// wantAll wants a cloud to have these instances, and no others; the groups' counts
// too.
func wantAll(t *testing.T, c *Cloud, l ...[]Instance) {
	t.Helper()
	want := rising(l...)
	if got := c.All(); !slices.Equal(got, want) {
		t.Fatalf("there are %v, want %v", got, want)
	}
	many := map[string]int{}
	for _, i := range want {
		many[i.Group]++
	}
	for _, group := range append(groups(c), "nobody", "", "g-0000") {
		if got := c.Count(group); got != many[group] {
			t.Fatalf("Count(%q): %d, want %d", group, got, many[group])
		}
	}
}

// groups are the groups of a cloud's instances.
func groups(c *Cloud) []string {
	var l []string
	for _, i := range c.All() {
		l = append(l, i.Group)
	}
	return l
}

func set(t *testing.T, c *Cloud, group string, r Rules) {
	t.Helper()
	if e := c.Set(group, r); e != api.OK {
		t.Fatalf("Set(%q, %+v): %d", group, r, e)
	}
}

// asks wants an answer of Ask.
func asks(t *testing.T, c *Cloud, group string, n int, now int64, want int, error api.Errno) {
	t.Helper()
	if got, e := c.Ask(group, n, now); got != want || e != error {
		t.Fatalf("Ask(%q, %d, %d): %d, %d, want %d, %d", group, n, now, got, e, want, error)
	}
}

func away(t *testing.T, c *Cloud, names ...string) {
	t.Helper()
	for _, name := range names {
		if e := c.Delete(name); e != api.OK {
			t.Fatalf("Delete(%q): %d", name, e)
		}
	}
}

// look is what a cloud tells of a group: how many instances it has, whether it is
// asked at a tick, and what it would answer then, with all instances behind that.
type look struct {
	Count int
	Back  bool
	Asked [3]int
	Error [3]api.Errno
	Wait  int
	All   [3][]Instance
}

// see is all that a cloud tells, of these groups at these ticks.
func see(c *Cloud, at []int64, groups ...string) []any {
	l := []any{c.All()}
	for _, now := range at {
		l = append(l, c.There(now))
		for _, group := range groups {
			x := look{Count: c.Count(group), Back: c.Back(group, now)}
			for i, n := range []int{1, 3, 1000} {
				d := c.Copy()
				x.Asked[i], x.Error[i] = d.Ask(group, n, now)
				x.All[i] = d.All()
				for x.Wait = 0; d.Back(group, now+int64(x.Wait)) && x.Wait < 5000; {
					x.Wait++
				}
			}
			l = append(l, x)
		}
	}
	return l
}

// refused wants a call to answer an error, and the cloud to be as it was.
func refused(t *testing.T, c *Cloud, call func() api.Errno, want api.Errno) {
	t.Helper()
	at := []int64{0, 7, 2000}
	before := see(c, at, "g", "h")
	if e := call(); e != want {
		t.Fatalf("got %d, want %d", e, want)
	}
	same(t, see(c, at, "g", "h"), before)
}

// asked is a call of Ask that is to grant none.
func asked(t *testing.T, c *Cloud, group string, n int, now int64) func() api.Errno {
	t.Helper()
	return func() api.Errno {
		k, e := c.Ask(group, n, now)
		same(t, k, 0)
		return e
	}
}

// P24.1, New

func TestNew(t *testing.T) {
	c, d := New(), New()
	wantAll(t, c)
	for _, now := range append(ticks, noTicks...) {
		same(t, len(c.There(now)), 0)
		for _, group := range append([]string{"g"}, noNames...) {
			same(t, c.Back(group, now), false)
			same(t, c.Count(group), 0)
		}
	}
	same(t, c.Delete("g-0000"), api.ErrNone)
	asks(t, c, "g", 1, 5, 1, api.OK)
	wantAll(t, c, instances("g", 5, 0))
	wantAll(t, d)
}

// TestWithoutRules: at once, up to 64, and none is refused.
func TestWithoutRules(t *testing.T) {
	for _, now := range ticks {
		c := New()
		asks(t, c, "g", 60, now, 60, api.OK)
		same(t, c.There(now), instances("g", now, count(0, 59)...))
		asks(t, c, "g", 5, now, 4, api.OK)
		asks(t, c, "g", 1, now, 0, api.ErrQuota)
		wantAll(t, c, instances("g", now, count(0, 63)...))
		same(t, c.Back("g", now), false)
		asks(t, c, "h", math.MaxInt, now, 64, api.OK) // each group by itself
	}
}

// P24.1, Set

func TestSet(t *testing.T) {
	for _, r := range []Rules{
		{}, {Delay: 1800, Quota: 64, Refuse: true, Back: 1800}, {Delay: 1}, {Delay: 1800}, {Quota: 1}, {Quota: 64}, {Back: 1}, {Back: 1800}, {Refuse: true},
	} {
		c := New()
		for _, group := range append([]string{"g", "0", "g-0000", "a--b"}, longNames...) {
			set(t, c, group, r)
		}
		wantAll(t, c)
		want, e := min(r.Quota, 9), api.OK
		switch {
		case r.Refuse:
			want, e = 0, api.ErrRefuse
		case r.Quota == 0:
			e = api.ErrQuota
		}
		asks(t, c, "g", 9, 10, want, e)
		wantAll(t, c, instances("g", int64(10+r.Delay), count(0, want-1)...))
		for k := range int64(2000) {
			same(t, c.Back("g", 10+k), r.Refuse && k < int64(r.Back))
		}
	}
}

// TestSetAgain: the last rules hold, and nothing else of those ahead.
func TestSetAgain(t *testing.T) {
	c := New()
	set(t, c, "g", Rules{Delay: 5, Quota: 2, Refuse: true, Back: 7})
	set(t, c, "g", Rules{Delay: 9, Quota: 4})
	asks(t, c, "g", 3, 10, 3, api.OK)
	wantAll(t, c, instances("g", 19, 0, 1, 2))
	set(t, c, "g", Rules{Quota: 5})
	asks(t, c, "g", 3, 20, 2, api.OK)
	wantAll(t, c, instances("g", 19, 0, 1, 2), instances("g", 20, 3, 4)) // what is to come stays as it was
	set(t, c, "g", Rules{})
	asks(t, c, "g", 1, 30, 0, api.ErrQuota)
	set(t, c, "h", Rules{Refuse: true, Quota: 1})
	asks(t, c, "g", 1, 30, 0, api.ErrQuota) // of another group
	asks(t, c, "h", 1, 30, 0, api.ErrRefuse)
	wantAll(t, c, instances("g", 19, 0, 1, 2), instances("g", 20, 3, 4))
}

// badRules are rules that may not be.
func badRules() []Rules {
	var l []Rules
	for _, n := range []int{math.MinInt, -1 << 32, -1800, -1, 1801, 1 << 32, 1<<32 + 1, math.MaxInt} {
		l = append(l, Rules{Delay: n, Quota: 1}, Rules{Back: n, Quota: 1}, Rules{Delay: n, Back: n, Refuse: true})
	}
	for _, n := range []int{math.MinInt, -64, -1, 65, 1800, 1 << 32, 1<<32 + 1, math.MaxInt} {
		l = append(l, Rules{Quota: n}, Rules{Quota: n, Refuse: true, Delay: 1800, Back: 1800})
	}
	return l
}

func TestSetErrors(t *testing.T) {
	c := New()
	set(t, c, "g", Rules{Delay: 3, Quota: 4, Back: 5})
	asks(t, c, "g", 2, 1, 2, api.OK)
	for _, r := range badRules() {
		refused(t, c, func() api.Errno { return c.Set("g", r) }, api.ErrArg)
		refused(t, c, func() api.Errno { return c.Set("h", r) }, api.ErrArg)
		for _, group := range noNames { // ErrName is ahead of ErrArg
			same(t, c.Set(group, r), api.ErrName)
		}
	}
	for _, group := range noNames {
		refused(t, c, func() api.Errno { return c.Set(group, Rules{Quota: 5}) }, api.ErrName)
	}
}

// P24.1, Ask

func TestAskExample(t *testing.T) {
	c := New()
	set(t, c, "g", Rules{Delay: 5, Quota: 64})
	asks(t, c, "g", 2, 10, 2, api.OK)
	wantAll(t, c, instances("g", 15, 0, 1))
	same(t, len(c.There(14)), 0)
	same(t, c.There(15), instances("g", 15, 0, 1))
}

// TestAskDelay: there so many ticks behind the tick, also beyond the last one.
func TestAskDelay(t *testing.T) {
	for _, now := range ticks {
		for _, delay := range []int{0, 1, 4, 1799, 1800} {
			c := New()
			set(t, c, "g", Rules{Delay: delay, Quota: 3})
			asks(t, c, "g", 3, now, 3, api.OK)
			at := now + int64(delay)
			wantAll(t, c, instances("g", at, 0, 1, 2))
			same(t, len(c.There(at-1)), 0)
			same(t, len(c.There(at)), 3)
			same(t, len(c.There(at+1)), 3)
		}
	}
}

// TestAskMany: so many as there is room for, no more than are asked for.
func TestAskMany(t *testing.T) {
	for _, quota := range []int{1, 2, 7, 63, 64} {
		for had := range quota + 1 {
			for _, n := range []int{1, 2, 6, 7, 8, 63, 64, 65, 1 << 31, 1<<32 + 1, math.MaxInt} {
				c := New()
				set(t, c, "g", Rules{Quota: quota})
				if had > 0 {
					asks(t, c, "g", had, 3, had, api.OK)
				}
				if had == quota {
					refused(t, c, asked(t, c, "g", n, 4), api.ErrQuota)
					continue
				}
				want := min(n, quota-had)
				asks(t, c, "g", n, 4, want, api.OK)
				wantAll(t, c, instances("g", 3, count(0, had-1)...), instances("g", 4, count(had, had+want-1)...))
			}
		}
	}
}

// TestAskNames: of a group and a number; of groups, the name of one of which begins
// as another's, each by itself.
func TestAskNames(t *testing.T) {
	c := New()
	l := []string{"g", "g0", "0", "a-b", "g-0000", "g-0", "g--0", "g-0000-0000", strings.Repeat("g", 27), "0-" + strings.Repeat("9", 25)}
	for k := range 3 {
		var want []Instance
		for i, group := range l {
			asks(t, c, group, i+1, 5, i+1, api.OK)
			want = append(want, instances(group, 5, count(0, (k+1)*(i+1)-1)...)...)
		}
		wantAll(t, c, want)
	}
}

func TestAskErrors(t *testing.T) {
	c := New()
	set(t, c, "g", Rules{Quota: 4, Back: 5})
	set(t, c, "h", Rules{Refuse: true, Back: 5})
	asks(t, c, "g", 2, 0, 2, api.OK)
	ask := func(group string, n int, now int64) func() api.Errno { return asked(t, c, group, n, now) }
	for _, group := range slices.Concat([]string{"g", "h", "new"}, noNames, longNames) { // ErrArg is ahead of all
		for _, now := range ticks {
			for _, n := range few {
				same(t, ask(group, n, now)(), api.ErrArg)
			}
		}
		for _, now := range noTicks {
			for _, n := range []int{-1, 0, 1, 5, math.MaxInt} {
				same(t, ask(group, n, now)(), api.ErrArg)
			}
		}
	}
	for _, group := range slices.Concat(noNames, longNames) {
		same(t, ask(group, 1, 7)(), api.ErrName)
	}
	for _, n := range few {
		refused(t, c, ask("g", n, 7), api.ErrArg)
		refused(t, c, ask("h", n, 7), api.ErrArg)
	}
	for _, now := range noTicks {
		refused(t, c, ask("g", 1, now), api.ErrArg)
		refused(t, c, ask("h", 1, now), api.ErrArg)
	}
	for _, group := range longNames { // ahead of what the group's rules say
		set(t, c, group, Rules{Refuse: true, Back: 9})
		refused(t, c, ask(group, 1, 7), api.ErrName)
		same(t, c.Back(group, 7), false)
		set(t, c, group, Rules{})
		refused(t, c, ask(group, 1, 7), api.ErrName)
	}
	wantAll(t, c, instances("g", 0, 0, 1))
}

// TestAskOrder: ErrState is ahead of ErrRefuse, that ahead of ErrQuota, that ahead of
// ErrLong.
func TestAskOrder(t *testing.T) {
	c := New()
	last(t, c, "g", 9999)
	set(t, c, "g", Rules{Refuse: true, Back: 4}) // of no room, and with one number
	asks(t, c, "g", 2, 10, 0, api.ErrRefuse)
	refused(t, c, asked(t, c, "g", 2, 13), api.ErrState)
	set(t, c, "g", Rules{})
	refused(t, c, asked(t, c, "g", 2, 13), api.ErrState)
	refused(t, c, asked(t, c, "g", 2, 14), api.ErrQuota)
	set(t, c, "g", Rules{Quota: 2})
	refused(t, c, asked(t, c, "g", 2, 13), api.ErrState)
	refused(t, c, asked(t, c, "g", 2, 14), api.ErrLong)
	set(t, c, "g", Rules{Quota: 2, Refuse: true})
	asks(t, c, "g", 2, 14, 0, api.ErrRefuse)
}

// P24.1, ErrRefuse, ErrState and Back

func TestRefuse(t *testing.T) {
	for _, back := range []int{0, 1, 2, 3, 1799, 1800} {
		for _, now := range ticks {
			c := New()
			set(t, c, "g", Rules{Quota: 9, Refuse: true, Back: back})
			asks(t, c, "g", 1, now, 0, api.ErrRefuse)
			wantAll(t, c)
			for _, k := range []int64{0, 1, 2, 3, 1798, 1799, 1800, 1801, 1 << 33} {
				waits := k < int64(back)
				same(t, c.Back("g", now+k), waits)
				same(t, c.Back("h", now+k), false) // of another group
				if now+k > api.MaxClock {
					continue
				}
				want := api.ErrRefuse
				if waits {
					want = api.ErrState
				}
				asks(t, c.Copy(), "g", 1, now+k, 0, want)
				asks(t, c.Copy(), "h", 1, now+k, 1, api.OK)
			}
		}
	}
}

// TestRefuseAgain: each refusal has ticks of its own, and none comes of a group that
// isn't asked.
func TestRefuseAgain(t *testing.T) {
	c := New()
	set(t, c, "g", Rules{Quota: 9, Refuse: true, Back: 3})
	for _, now := range []int64{7, 10, 13, 20} {
		same(t, c.Back("g", now), false)
		asks(t, c, "g", 1, now, 0, api.ErrRefuse)
		for k := range int64(3) {
			refused(t, c, asked(t, c, "g", 1, now+k), api.ErrState)
			same(t, c.Back("g", now+k), true)
		}
		same(t, c.Back("g", now+3), false)
	}
}

// TestRefuseAndRules: behind a refusal the ticks are those of the rules at that time,
// whatever rules come; new ones count from the next refusal on.
func TestRefuseAndRules(t *testing.T) {
	for _, r := range []Rules{{Quota: 9}, {Quota: 9, Back: 100}, {Quota: 9, Refuse: true}, {Quota: 9, Refuse: true, Back: 100}, {}} {
		c := New()
		set(t, c, "g", Rules{Quota: 9, Refuse: true, Back: 6})
		asks(t, c, "g", 1, 10, 0, api.ErrRefuse)
		set(t, c, "g", r)
		for now := int64(10); now < 16; now++ {
			same(t, c.Back("g", now), true)
			asks(t, c, "g", 1, now, 0, api.ErrState)
		}
		same(t, c.Back("g", 16), false)
		switch {
		case r.Refuse:
			asks(t, c, "g", 1, 16, 0, api.ErrRefuse)
			same(t, c.Back("g", 16), r.Back > 0)
			same(t, c.Back("g", 116), false)
			same(t, c.Back("g", 115), r.Back > 0)
		case r.Quota == 0:
			asks(t, c, "g", 1, 16, 0, api.ErrQuota)
		default:
			asks(t, c, "g", 1, 16, 1, api.OK)
		}
		same(t, c.Back("g", 200), false)
	}
}

// TestRefuseLeavesInstances: those that there are stay, come, and may go.
func TestRefuseLeavesInstances(t *testing.T) {
	c := New()
	set(t, c, "g", Rules{Quota: 9, Delay: 5})
	asks(t, c, "g", 3, 10, 3, api.OK)
	set(t, c, "g", Rules{Quota: 9, Refuse: true, Back: 50})
	asks(t, c, "g", 3, 11, 0, api.ErrRefuse)
	wantAll(t, c, instances("g", 15, 0, 1, 2))
	same(t, len(c.There(15)), 3)
	away(t, c, "g-0001")
	same(t, c.Back("g", 60), true)
	wantAll(t, c, instances("g", 15, 0, 2))
}

// P24.1, ErrLong

// last uses up a group's numbers, up to the first one that is left.
func last(t *testing.T, c *Cloud, group string, left int) {
	t.Helper()
	for n := 0; n < left; {
		k := min(left-n, 64)
		asks(t, c, group, k, 0, k, api.OK)
		for _, i := range instances(group, 0, count(n, n+k-1)...) {
			away(t, c, i.Name)
		}
		n += k
	}
	wantAll(t, c)
}

func TestLong(t *testing.T) {
	for _, left := range []int{1, 2, 3, 64} {
		c := New()
		last(t, c, "g", 10000-left)
		if left < 64 {
			for _, n := range []int{left + 1, 64, math.MaxInt} {
				refused(t, c, asked(t, c, "g", n, 5), api.ErrLong)
			}
			d := c.Copy()
			set(t, d, "g", Rules{Quota: left}) // of those for whom there is room all have numbers
			asks(t, d, "g", left+1, 5, left, api.OK)
			wantAll(t, d, instances("g", 5, count(10000-left, 9999)...))
		}
		asks(t, c, "g", left, 5, left, api.OK)
		wantAll(t, c, instances("g", 5, count(10000-left, 9999)...))
		away(t, c, "g-9999")
		for _, n := range []int{1, 2, 100} {
			refused(t, c, asked(t, c, "g", n, 5), api.ErrLong)
		}
		asks(t, c, "h", 1, 5, 1, api.OK) // another group has numbers of its own
		same(t, c.Copy().Delete("h-0000"), api.OK)
	}
}

// P24.1, Delete

func TestDelete(t *testing.T) {
	c := New()
	asks(t, c, "g", 3, 5, 3, api.OK)
	asks(t, c, "h", 2, 5, 2, api.OK)
	away(t, c, "g-0001")
	wantAll(t, c, instances("g", 5, 0, 2), instances("h", 5, 0, 1))
	same(t, c.Delete("g-0001"), api.ErrNone)
	asks(t, c, "g", 1, 6, 1, api.OK) // none has a number that there was
	wantAll(t, c, instances("g", 5, 0, 2), instances("g", 6, 3), instances("h", 5, 0, 1))
	away(t, c, "g-0003", "g-0000", "g-0002")
	wantAll(t, c, instances("h", 5, 0, 1))
	asks(t, c, "g", 2, 7, 2, api.OK)
	wantAll(t, c, instances("g", 7, 4, 5), instances("h", 5, 0, 1))
}

// TestDeleteMakesRoom: for one more each, also of one that isn't there yet.
func TestDeleteMakesRoom(t *testing.T) {
	c := New()
	set(t, c, "g", Rules{Quota: 2, Delay: 1800})
	asks(t, c, "g", 2, 0, 2, api.OK)
	for n := range 50 {
		asks(t, c, "g", 2, int64(n), 0, api.ErrQuota)
		away(t, c, instances("g", 0, n)[0].Name)
		same(t, c.Count("g"), 1)
		asks(t, c, "g", 2, int64(n), 1, api.OK)
		same(t, c.Count("g"), 2)
	}
}

func TestDeleteErrors(t *testing.T) {
	c := New()
	asks(t, c, "g", 2, 5, 2, api.OK)
	for _, name := range slices.Concat(noNames, longNames, []string{"g", "g-0002", "g-1", "g-00000", "g-000", "h-0000", "G-0000", "g-0000 "}) {
		refused(t, c, func() api.Errno { return c.Delete(name) }, api.ErrNone)
	}
}

// P24.1, All, There and Count

// TestAllRise: by names, byte by byte, whatever their groups, whenever they came.
func TestAllRise(t *testing.T) {
	l := []string{"g", "g0", "a", "g-0000", "g-0001", "g-0000-0000", "z", "0", "g-a", "gg"}
	r := rand.New(rand.NewSource(1))
	for range 20 {
		c := New()
		var want []Instance
		next := map[string]int{}
		for now := range int64(60) {
			group := l[r.Intn(len(l))]
			set(t, c, group, Rules{Quota: 64, Delay: r.Intn(20)})
			n := 1 + r.Intn(3)
			asks(t, c, group, n, now, n, api.OK)
			at := c.instances[instances(group, 0, next[group])[0].Name].At
			want = append(want, instances(group, at, count(next[group], next[group]+n-1)...)...)
			next[group] += n
		}
		wantAll(t, c, want)
		want = rising(want)
		for now := int64(-2); now < 90; now++ {
			var there []Instance
			for _, i := range want {
				if i.At <= now {
					there = append(there, i)
				}
			}
			if got := c.There(now); !slices.Equal(got, there) {
				t.Fatalf("There(%d): %v, want %v", now, got, there)
			}
		}
		for _, now := range noTicks {
			same(t, len(c.There(now)) == len(want), now > 0)
			same(t, len(c.There(now)) == 0, now < 0)
		}
	}
}

// P24.1, nil

func TestNilCloud(t *testing.T) {
	var c *Cloud
	s := world(t, 5, group("g", 2)).s
	for _, group := range append([]string{"g", "g-0000"}, noNames...) {
		for _, now := range append(ticks, noTicks...) {
			same(t, c.Set(group, Rules{}), api.ErrArg)
			same(t, c.Set(group, Rules{Quota: -1}), api.ErrArg)
			for _, n := range []int{-1, 0, 1, 64} {
				asks(t, c, group, n, now, 0, api.ErrArg)
			}
			same(t, c.Delete(group), api.ErrArg)
			same(t, c.Count(group), 0)
			same(t, c.Back(group, now), false)
			same(t, len(c.All())+len(c.There(now)), 0)
			for _, x := range []*store.Store{s, nil} {
				if l, e := c.Pass(x, now); l != nil || e != api.ErrArg {
					t.Error(l, e)
				}
			}
		}
	}
	same(t, c.Copy() == nil, true)
	same(t, s.Now(), uint64(1))
}

// TestBareCloud: one that New didn't make answers too.
func TestBareCloud(t *testing.T) {
	for i, do := range []func(c *Cloud) api.Errno{
		func(c *Cloud) api.Errno { return c.Set("g", Rules{Quota: 3}) },
		func(c *Cloud) api.Errno { _, e := c.Ask("g", 1, 1); return e },
		func(c *Cloud) api.Errno { _, e := c.Pass(world(t, 5, group("g", 2)).s, 1); return e },
		func(c *Cloud) api.Errno { *c = *c.Copy(); return api.OK },
	} {
		c := &Cloud{}
		same(t, c.Delete("g-0000"), api.ErrNone)
		same(t, c.Count("g")+len(c.All())+len(c.There(9)), 0)
		same(t, c.Back("g", -1), false)
		same(t, do(c), api.OK)
		asks(t, c, "g", 1, 9, 1, api.OK)
		same(t, c.Count("g"), []int{1, 2, 3, 1}[i])
	}
}

// P24.1, Copy

func TestCopy(t *testing.T) {
	at := []int64{0, 5, 14, 15, 16, 30}
	begin := func() *Cloud {
		c := New()
		set(t, c, "g", Rules{Quota: 9, Delay: 4})
		asks(t, c, "g", 4, 10, 4, api.OK)
		away(t, c, "g-0002")
		set(t, c, "h", Rules{Quota: 3, Refuse: true, Back: 8})
		asks(t, c, "h", 1, 8, 0, api.ErrRefuse)
		return c
	}
	want := see(begin(), at, "g", "h", "i")
	for _, do := range []func(c *Cloud){
		func(c *Cloud) {},
		func(c *Cloud) { set(t, c, "g", Rules{}); set(t, c, "h", Rules{}); set(t, c, "i", Rules{}) },
		func(c *Cloud) { asks(t, c, "g", 9, 20, 6, api.OK); asks(t, c, "i", 1, 20, 1, api.OK) },
		func(c *Cloud) { asks(t, c, "h", 9, 20, 0, api.ErrRefuse) },
		func(c *Cloud) { away(t, c, "g-0000", "g-0001", "g-0003") },
		func(c *Cloud) { c.Pass(world(t, 9, group("g", 6), group("i", 2)).s, 40) },
	} {
		c := begin()
		d := c.Copy()
		same(t, see(d, at, "g", "h", "i"), want)
		do(c)
		same(t, see(d, at, "g", "h", "i"), want)
		c = begin()
		d = c.Copy()
		do(d)
		same(t, see(c, at, "g", "h", "i"), want)
	}
}

// P24.2

// cluster is a store, with a cloud.
type cluster struct {
	t *testing.T
	s *store.Store
	c *Cloud
}

// world is a cluster of a store of at most so many objects, with these.
func world(t *testing.T, most int, l ...api.Object) *cluster {
	t.Helper()
	s, e := store.New(most)
	same(t, e, api.OK)
	w := &cluster{t, s, New()}
	w.put(l...)
	return w
}

// put creates objects, or puts them in the places of those that are there.
func (w *cluster) put(l ...api.Object) {
	w.t.Helper()
	for _, o := range l {
		was, there := w.s.Get(o.Kind, o.Name)
		o.Version = was.Version
		do := w.s.Create
		if there {
			do = w.s.Update
		}
		if _, e := do(o); e != api.OK {
			w.t.Fatalf("%q: %d", o.Name, e)
		}
	}
}

// gone deletes objects of a kind.
func (w *cluster) gone(kind int, names ...string) {
	w.t.Helper()
	for _, name := range names {
		if _, e := w.s.Delete(kind, name, 0); e != api.OK {
			w.t.Fatalf("%q: %d", name, e)
		}
	}
}

// change is what became of a node.
type change struct {
	Type int
	Name string
}

// made and left are changes of nodes.
func made(names ...string) []change { return changes(api.Created, names) }
func left(names ...string) []change { return changes(api.Deleted, names) }

func changes(what int, names []string) []change {
	var l []change
	for _, name := range names {
		l = append(l, change{what, name})
	}
	return l
}

// passes wants a pass to change these nodes, in this order, and nothing else.
func (w *cluster) passes(now int64, want ...[]change) {
	w.t.Helper()
	before := w.s.Now()
	var events []api.Event
	for i, x := range slices.Concat(want...) {
		events = append(events, api.Event{Type: x.Type, Kind: api.KindNode, Name: x.Name, Version: before + uint64(i) + 1})
	}
	l, e := w.c.Pass(w.s, now)
	if e != api.OK || !slices.Equal(l, events) {
		w.t.Fatalf("Pass at %d: %+v, %d, want %+v", now, l, e, events)
	}
	if w.s.Now() != before+uint64(len(events)) {
		w.t.Fatalf("Pass at %d: %d changes, %d events", now, w.s.Now()-before, len(events))
	}
}

// nodes wants a store to have these nodes, and no others.
func (w *cluster) nodes(names ...string) {
	w.t.Helper()
	var l []string
	for o := range w.s.List(api.KindNode) {
		l = append(l, o.Name)
	}
	same(w.t, l, names)
}

// all is all objects of a store.
func all(s *store.Store) []api.Object {
	var l []api.Object
	for kind := range api.Kinds {
		l = slices.AppendSeq(l, s.List(kind))
	}
	return l
}

// group is one of so many nodes, with something in each row.
func group(name string, target int) api.Object {
	return api.Object{Kind: api.KindGroup, Name: name, Group: api.Group{
		Max: 64, Target: target, Size: api.Resources{CPU: 1000, Mem: 77},
		Labels: []api.Label{{Key: "disk", Value: name}, {Key: "zone", Value: "a"}}, Taints: []api.Label{{Key: "only", Value: name}}, Priority: 3,
	}}
}

// node is one of a group.
func node(name, group string) api.Object {
	return api.Object{Kind: api.KindNode, Name: name, Node: api.Node{Group: group, Size: api.Resources{CPU: 5}, Since: 2}}
}

// others are things of other kinds, of a name.
func others(name string) []api.Object {
	ask := api.Resources{CPU: 1}
	return []api.Object{
		{Kind: api.KindWorkload, Name: name, Workload: api.Workload{Replicas: 3, Ask: ask}},
		{Kind: api.KindPod, Name: name, Pod: api.Pod{Owner: "app", Node: "g-0000", Phase: api.Bound, Ask: ask}},
		{Kind: api.KindHpa, Name: name, Hpa: api.Hpa{Target: "g", Min: 1, Max: 2, Metrics: []api.Metric{{Name: "cpu", Target: 1}}}},
	}
}

// names are the names of a group's instances.
func names(group string, numbers ...int) []string {
	var l []string
	for _, i := range instances(group, 0, numbers...) {
		l = append(l, i.Name)
	}
	return l
}

// TestPass: asked for at once, there behind the delay, and gone with its instance.
func TestPass(t *testing.T) {
	w := world(t, 50, group("g", 3))
	set(t, w.c, "g", Rules{Delay: 4, Quota: 2})
	w.passes(1)
	wantAll(t, w.c, instances("g", 5, 0, 1))
	w.passes(4)
	w.nodes()
	w.passes(5, made("g-0000", "g-0001"))
	w.passes(5)
	w.passes(900)
	away(t, w.c, "g-0000")
	w.passes(901, left("g-0000"))
	wantAll(t, w.c, instances("g", 5, 1), instances("g", 905, 2))
	w.passes(904)
	w.passes(906, made("g-0002")) // late, and since then
	o, _ := w.s.Get(api.KindNode, "g-0002")
	same(t, o.Node.Since, int64(906))
	w.nodes("g-0001", "g-0002")
}

// TestPassMakes: a node is of the group, with its size, labels and taints, since the
// tick, and nothing else.
func TestPassMakes(t *testing.T) {
	for _, now := range ticks {
		g := group("g", 1)
		w := world(t, 50, g)
		w.passes(now, made("g-0000"))
		o, _ := w.s.Get(api.KindNode, "g-0000")
		same(t, o, api.Object{Kind: api.KindNode, Name: "g-0000", Version: 2, Node: api.Node{
			Group: "g", Size: g.Group.Size, Labels: g.Group.Labels, Taints: g.Group.Taints, Since: now,
		}})
	}
	w := world(t, 50, group("g", 1), group("h", 2))
	set(t, w.c, "g", Rules{Delay: 3, Quota: 1})
	w.passes(1, made("h-0000", "h-0001"))
	g := group("g", 1)
	g.Group.Size, g.Group.Labels, g.Group.Taints = api.Resources{CPU: 4, Mem: 0}, nil, []api.Label{{Key: "new"}}
	w.put(g)
	w.passes(9, made("g-0000")) // as the group is now, not as it was when it was asked for
	o, _ := w.s.Get(api.KindNode, "g-0000")
	same(t, o.Node, api.Node{Group: "g", Size: g.Group.Size, Taints: g.Group.Taints, Since: 9})
	o, _ = w.s.Get(api.KindNode, "h-0001")
	same(t, o.Node, api.Node{Group: "h", Size: group("h", 2).Group.Size, Labels: group("h", 2).Group.Labels, Taints: group("h", 2).Group.Taints, Since: 1})
	w.put(g)
	w.passes(10)
}

// TestPassAsks: for as many as are wanting, of all that are there, or come; what are
// too many stay.
func TestPassAsks(t *testing.T) {
	for had := range 6 {
		for target := range 8 {
			for _, delay := range []int{0, 5} {
				w := world(t, 50, group("g", target))
				set(t, w.c, "g", Rules{Delay: delay, Quota: 64})
				if had > 0 {
					asks(t, w.c, "g", had, 10, had, api.OK)
				}
				if delay > 0 {
					w.passes(11)
				} else {
					w.passes(11, made(names("g", count(0, max(had, target)-1)...)...))
				}
				wantAll(t, w.c, instances("g", int64(10+delay), count(0, had-1)...), instances("g", int64(11+delay), count(had, target-1)...))
				w.put(group("g", 0))
				now := int64(11 + 2*delay)
				if delay > 0 {
					w.passes(now, made(names("g", count(0, max(had, target)-1)...)...))
				}
				w.passes(now + 1)
				same(t, w.c.Count("g"), max(had, target))
			}
		}
	}
}

// TestPassOfQuota: so many as are granted, and more when there is room.
func TestPassOfQuota(t *testing.T) {
	w := world(t, 200, group("g", 64), group("h", 3))
	set(t, w.c, "g", Rules{Quota: 2})
	set(t, w.c, "h", Rules{})
	w.passes(1, made(names("g", 0, 1)...))
	w.passes(2)
	set(t, w.c, "g", Rules{Quota: 3})
	set(t, w.c, "h", Rules{Quota: 1})
	w.passes(3, made("g-0002", "h-0000"))
	set(t, w.c, "g", Rules{Quota: 1})
	w.passes(4) // what is too much by a new quota stays
	away(t, w.c, "g-0000")
	w.passes(5, left("g-0000"))
	wantAll(t, w.c, instances("g", 1, 1), instances("g", 3, 2), instances("h", 3, 0))
	set(t, w.c, "g", Rules{Quota: 64})
	w.passes(6, made(names("g", count(3, 64)...)...))
	same(t, w.c.Count("g"), 64)
}

// TestPassOfRefusals: a pass asks, and is refused, as others are; what is refused in
// one group isn't in another.
func TestPassOfRefusals(t *testing.T) {
	w := world(t, 200, group("g", 3), group("h", 1), group("i", 0))
	set(t, w.c, "g", Rules{Quota: 9, Refuse: true, Back: 4})
	set(t, w.c, "i", Rules{Quota: 9, Refuse: true, Back: 4})
	w.passes(10, made("h-0000"))
	same(t, w.c.Back("g", 13), true)
	same(t, w.c.Back("g", 14), false)
	same(t, w.c.Back("i", 10), false) // nothing is wanting, so that it isn't asked
	set(t, w.c, "g", Rules{Quota: 9})
	w.passes(13)
	same(t, w.c.Back("g", 14), false)
	w.passes(14, made(names("g", 0, 1, 2)...))
	set(t, w.c, "g", Rules{Quota: 9, Refuse: true, Back: 4})
	w.passes(15)
	same(t, w.c.Back("g", 15), false)
	away(t, w.c, "g-0001")
	w.passes(16, left("g-0001"))
	same(t, w.c.Back("g", 19), true)
	same(t, w.c.Back("g", 20), false)
}

// TestPassOfNoNumbers: no more come, also if one could have a number, and others go on.
func TestPassOfNoNumbers(t *testing.T) {
	w := world(t, 50, group("g", 2), group("h", 1))
	last(t, w.c, "g", 9999)
	w.passes(1, made("h-0000"))
	w.put(group("g", 1))
	w.passes(2, made("g-9999"))
	away(t, w.c, "g-9999")
	w.passes(3, left("g-9999"))
	w.passes(4)
}

// TestPassOfLongNames: a group whose instances can have no names gets none.
func TestPassOfLongNames(t *testing.T) {
	w := world(t, 50, group("a", 1), group("h", 1), group(strings.Repeat("g", 27), 1))
	for _, name := range longNames {
		w.put(group(name, 2))
	}
	w.passes(1, made("a-0000", strings.Repeat("g", 27)+"-0000", "h-0000"))
	w.passes(2)
}

// TestPassRises: instances come rising by names, whatever their groups; nodes go so.
func TestPassRises(t *testing.T) {
	w := world(t, 50, group("g", 2), group("g-0000", 2), group("g0", 1), group("a", 1), group("g-0001", 1))
	come := []string{"a-0000", "g-0000", "g-0000-0000", "g-0000-0001", "g-0001", "g-0001-0000", "g0-0000"}
	w.passes(5, made(come...))
	w.nodes(come...)
	for _, name := range []string{"g", "g-0000", "g0", "a", "g-0001"} {
		w.put(group(name, 0))
	}
	for _, i := range []int{6, 2, 0, 4, 1, 5, 3} {
		away(t, w.c, come[i])
	}
	w.passes(6, left(come...))
	w.nodes()
}

// TestPassComesAheadOfLeaving: of a store with no room what goes makes room for the
// next pass alone.
func TestPassComesAheadOfLeaving(t *testing.T) {
	w := world(t, 3, group("g", 1), node("a", "g"), node("z", "h"))
	w.passes(1, left("a", "z"))
	w.passes(2, made("g-0000"))
	w.put(node("0", "g"))
	away(t, w.c, "g-0000")
	w.passes(3, left("0", "g-0000"))
	w.passes(4, made("g-0001"))
}

// TestPassOfFullStores: the first ones come, as many as there is room for; others stay
// as instances, and come later.
func TestPassOfFullStores(t *testing.T) {
	for room := range 8 {
		w := world(t, 2+room, group("g", 3), group("h", 3))
		come := slices.Concat(names("g", 0, 1, 2), names("h", 0, 1, 2))
		w.passes(5, made(come[:min(room, 6)]...))
		wantAll(t, w.c, instances("g", 5, 0, 1, 2), instances("h", 5, 0, 1, 2))
		w.passes(6)
		if room > 0 && room < 6 {
			away(t, w.c, "g-0000")
			w.put(group("g", 2))
			w.passes(7, left("g-0000"))
			w.passes(8, made(come[room]))
			o, _ := w.s.Get(api.KindNode, come[room])
			same(t, o.Node.Since, int64(8))
		}
	}
}

// TestPassOfGroupsThatGo: of a group that isn't there no node comes, and none goes
// that has an instance.
func TestPassOfGroupsThatGo(t *testing.T) {
	w := world(t, 50, group("g", 2))
	set(t, w.c, "g", Rules{Delay: 3, Quota: 9})
	asks(t, w.c, "h", 1, 0, 1, api.OK) // nobody's
	w.passes(1)
	w.gone(api.KindGroup, "g")
	w.passes(4)
	w.put(group("g", 0))
	w.passes(5, made(names("g", 0, 1)...))
	w.gone(api.KindGroup, "g")
	w.passes(6)
	w.nodes(names("g", 0, 1)...)
	away(t, w.c, "g-0001")
	w.passes(7, left("g-0001"))
	w.put(group("h", 1))
	w.passes(8, made("h-0000"))
	wantAll(t, w.c, instances("g", 4, 0), instances("h", 0, 0))
}

// TestPassOfNodes: a node without a group stays; one with a group goes, but if there is
// an instance of its name, whosever it is.
func TestPassOfNodes(t *testing.T) {
	w := world(t, 50, node("a", ""), node("b", "g"), node("c", "x"), node("h-0000", "h"), node("z", ""), group("h", 0), group("g", 0))
	w.passes(1, left("b", "c", "h-0000"))
	w.nodes("a", "z")
	w.put(node("g-0000", ""), node("g-0001", "h"), node("g-0002", "g"), node("g-0003", "x"), node("g-0004", ""), group("g", 4))
	was, _ := w.s.Get(api.KindNode, "g-0001")
	w.passes(2) // what has its name is there
	w.nodes("a", "g-0000", "g-0001", "g-0002", "g-0003", "g-0004", "z")
	o, _ := w.s.Get(api.KindNode, "g-0001")
	same(t, o, was)
	away(t, w.c, "g-0000", "g-0001", "g-0002", "g-0003")
	w.put(group("g", 0))
	w.passes(3, left("g-0001", "g-0002", "g-0003"))
	w.nodes("a", "g-0000", "g-0004", "z")
}

// TestPassOfInstancesToCome: as long as one isn't there, a node of its name goes.
func TestPassOfInstancesToCome(t *testing.T) {
	w := world(t, 50, group("g", 2), node("g-0000", "g"), node("g-0001", ""))
	set(t, w.c, "g", Rules{Delay: 3, Quota: 9})
	w.passes(1, left("g-0000"))
	w.put(node("g-0000", "x"))
	w.passes(3, left("g-0000"))
	w.put(node("g-0000", "x"))
	w.passes(4)
	w.gone(api.KindNode, "g-0000", "g-0001")
	w.passes(3) // at an earlier tick none is there
	w.passes(4, made(names("g", 0, 1)...))
	w.passes(3, left(names("g", 0, 1)...))
}

// TestPassOfOtherKinds: things of other kinds stay as they are, and hold no names; a
// node that is closed, or that pods are on, goes as others do.
func TestPassOfOtherKinds(t *testing.T) {
	w := world(t, 50, group("g", 1))
	w.put(others("g")...)
	w.put(others("g-0000")...)
	before := all(w.s)
	w.passes(5, made("g-0000"))
	o, _ := w.s.Get(api.KindNode, "g-0000")
	o.Node.Closed, o.Node.Labels, o.Node.Size = true, nil, api.Resources{CPU: 3}
	w.put(o)
	w.passes(6)
	got, _ := w.s.Get(api.KindNode, "g-0000")
	same(t, got.Node, o.Node)
	away(t, w.c, "g-0000")
	set(t, w.c, "g", Rules{})
	w.passes(7, left("g-0000"))
	same(t, all(w.s), before)
}

// TestPassOfMany: all of a pass's events are told, as many as there can be, also
// behind so many others that the first ones aren't kept any more.
func TestPassOfMany(t *testing.T) {
	w := world(t, api.MaxObjects)
	var come, spent []string
	for k := range 7 {
		g := group(fmt.Sprintf("g%d", k), 64)
		w.put(g)
		come = append(come, names(g.Name, count(0, 63)...)...)
	}
	for range 2000 {
		w.put(group("g0", 64))
	}
	for k := range api.MaxObjects - 7 - 300 {
		spent = append(spent, fmt.Sprintf("x%03d", k))
		w.put(node(spent[k], "x"))
	}
	w.passes(5, made(come[:300]...), left(spent...))
	w.passes(6, made(come[300:]...))
	for _, name := range come {
		away(t, w.c, name)
	}
	for k := range 7 {
		w.put(group(fmt.Sprintf("g%d", k), 0))
	}
	w.passes(7, left(come...))
	w.nodes()
}

// TestPassErrors: at wrong ticks, and of nil, nothing is done.
func TestPassErrors(t *testing.T) {
	w := world(t, 50, group("g", 2), group("h", 1), node("x", "g"))
	asks(t, w.c, "g", 1, 0, 1, api.OK)
	set(t, w.c, "h", Rules{Refuse: true, Back: 9})
	before := all(w.s)
	pass := func(s *store.Store, now int64) func() api.Errno {
		return func() api.Errno {
			l, e := w.c.Pass(s, now)
			same(t, len(l), 0)
			return e
		}
	}
	for _, now := range noTicks {
		refused(t, w.c, pass(w.s, now), api.ErrArg)
		refused(t, w.c, pass(nil, now), api.ErrArg)
	}
	for _, now := range ticks {
		refused(t, w.c, pass(nil, now), api.ErrArg)
	}
	same(t, all(w.s), before)
	same(t, w.s.Now(), uint64(3))
}

// TestPassOfNothing: a store with nothing in it, or nothing for a cloud, stays.
func TestPassOfNothing(t *testing.T) {
	w := world(t, 50)
	asks(t, w.c, "g", 3, 0, 3, api.OK)
	for _, now := range ticks {
		w.passes(now)
	}
	w.put(others("a")...)
	w.put(node("b", ""), group("h", 0))
	w.passes(5)
	wantAll(t, w.c, instances("g", 0, 0, 1, 2))
}

// P24.3, and all by chance

// slow does by the chapter's words what a cloud does.
type slow struct {
	rules map[string]Rules
	list  []Instance
	given map[string][]int // numbers
	ends  map[string]int64 // of the ticks behind the last refusal
}

func newSlow() *slow {
	return &slow{map[string]Rules{}, nil, map[string][]int{}, map[string]int64{}}
}

func (x *slow) of(group string) Rules {
	if r, ok := x.rules[group]; ok {
		return r
	}
	return Rules{Delay: 0, Quota: 64, Refuse: false, Back: 0}
}

func (x *slow) count(group string) int {
	n := 0
	for _, i := range x.list {
		if i.Group == group {
			n++
		}
	}
	return n
}

func (x *slow) back(group string, now int64) bool {
	end, was := x.ends[group]
	return was && now < end
}

func (x *slow) ask(group string, n int, now int64) (int, api.Errno) {
	if n < 1 || now < 0 || now > 1<<62 {
		return 0, api.ErrArg
	}
	if group == "" || group == "G" || len(group) > 27 {
		return 0, api.ErrName
	}
	if x.back(group, now) {
		return 0, api.ErrState
	}
	r := x.of(group)
	if r.Refuse {
		x.ends[group] = now + int64(r.Back)
		return 0, api.ErrRefuse
	}
	granted := 0
	for granted < n && x.count(group)+granted < r.Quota {
		granted++
	}
	if granted == 0 {
		return 0, api.ErrQuota
	}
	first := 0
	for _, k := range x.given[group] {
		first = max(first, k+1)
	}
	if first+granted-1 > 9999 {
		return 0, api.ErrLong
	}
	for k := first; k < first+granted; k++ {
		x.given[group] = append(x.given[group], k)
		x.list = append(x.list, instances(group, now+int64(r.Delay), k)...)
	}
	return granted, api.OK
}

func (x *slow) delete(name string) api.Errno {
	for k, i := range x.list {
		if i.Name == name {
			x.list = slices.Delete(x.list, k, k+1)
			return api.OK
		}
	}
	return api.ErrNone
}

func (x *slow) there(now int64) []Instance {
	var l []Instance
	for _, i := range rising(x.list) {
		if i.At <= now {
			l = append(l, i)
		}
	}
	return l
}

func (x *slow) pass(s *store.Store, now int64) []change {
	var l []change
	for _, o := range slices.Collect(s.List(api.KindGroup)) {
		if has := x.count(o.Name); has < o.Group.Target {
			x.ask(o.Name, o.Group.Target-has, now)
		}
	}
	there := x.there(now)
	for _, i := range there {
		g, ok := s.Get(api.KindGroup, i.Group)
		_, has := s.Get(api.KindNode, i.Name)
		if !ok || has {
			continue
		}
		n := api.Node{Group: i.Group, Size: g.Group.Size, Labels: g.Group.Labels, Taints: g.Group.Taints, Since: now}
		if _, e := s.Create(api.Object{Kind: api.KindNode, Name: i.Name, Node: n}); e == api.OK {
			l = append(l, change{api.Created, i.Name})
		}
	}
	for _, o := range slices.Collect(s.List(api.KindNode)) {
		if o.Node.Group != "" && !slices.ContainsFunc(there, func(i Instance) bool { return i.Name == o.Name }) {
			s.Delete(api.KindNode, o.Name, 0)
			l = append(l, change{api.Deleted, o.Name})
		}
	}
	return l
}

// pick is one of some.
func pick[T any](r *rand.Rand, l ...T) T { return l[r.Intn(len(l))] }

// edit does something to a store of few groups and nodes.
func edit(r *rand.Rand, s *store.Store) {
	name := pick(r, "g", "h", "g-0000", longNames[0])
	g := group(name, r.Intn(6))
	is, ok := s.Get(api.KindGroup, name)
	switch {
	case !ok:
		s.Create(g)
	case r.Intn(4) == 0:
		s.Delete(api.KindGroup, name, 0)
	default:
		g.Version = is.Version
		g.Group.Size.CPU += api.Milli(r.Intn(3))
		s.Update(g)
	}
	if r.Intn(3) > 0 {
		return
	}
	name = pick(r, "a", "g-0000", "g-0001", "g-0005", "h-0002", "g-0000-0001")
	if _, ok := s.Get(api.KindNode, name); ok {
		s.Delete(api.KindNode, name, 0)
	} else {
		s.Create(node(name, pick(r, "", "g", "h", "x")))
	}
}

// step does something to a cloud, to its slow one and to a store, and wants the same
// answers; the tick is near now.
func (w *cluster) step(r *rand.Rand, x *slow, now int64) {
	t := w.t
	t.Helper()
	group := pick(r, "g", "h", "g-0000", "i", pick(r, "", "G", longNames[0]))
	switch r.Intn(8) {
	case 0:
		rules := Rules{Delay: r.Intn(6), Quota: r.Intn(9), Refuse: r.Intn(3) == 0, Back: r.Intn(7)}
		want := api.OK
		if r.Intn(6) == 0 {
			rules, want = pick(r, badRules()...), api.ErrArg
		}
		if group == "" || group == "G" {
			want = api.ErrName
		}
		same(t, w.c.Set(group, rules), want)
		if want == api.OK {
			x.rules[group] = rules
		}
	case 1, 2:
		n, at := r.Intn(6), pick(r, now, now, now, now, now-1, -1)
		want, e := x.ask(group, n, at)
		asks(t, w.c, group, n, at, want, e)
	case 3, 4:
		name := pick(r, "g-0000", "x", "")
		if l := w.c.All(); len(l) > 0 && r.Intn(9) > 0 {
			name = pick(r, l...).Name
		}
		want := x.delete(name)
		same(t, w.c.Delete(name), want)
	case 5:
		edit(r, w.s)
	default:
		s := w.s.Copy()
		w.passes(now, x.pass(s, now))
		same(t, all(w.s), all(s))
	}
	wantAll(t, w.c, x.list)
	for at := now - 3; at < now+9; at++ {
		same(t, slices.Equal(w.c.There(at), x.there(at)), true)
		for _, group := range []string{"g", "h", "g-0000", "i", "", "G", longNames[0]} {
			same(t, w.c.Back(group, at), x.back(group, at))
		}
	}
}

// TestAny holds clouds and stores, of little room and of much, against the chapter's
// words; now and then a copy goes on, and what it was copied of goes another way.
func TestAny(t *testing.T) {
	for _, most := range []int{3, 6, 12, 60} {
		for seed := range int64(12) {
			r := rand.New(rand.NewSource(seed))
			w, x := world(t, most), newSlow()
			for i := range 600 {
				w.step(r, x, int64(i/3))
				if r.Intn(40) == 0 {
					old := w.c
					w.c = old.Copy()
					old.Pass(w.s.Copy(), int64(i))
					old.Ask("g", 9, int64(i))
					for _, i := range old.All() {
						old.Delete(i.Name)
					}
					old.Set("g", Rules{})
					old.Set("h", Rules{Refuse: true})
				}
			}
		}
	}
}

// TestQuotaHolds: as long as no quota is made less, no group has more instances than
// that, whatever else is done; and no two instances ever have one name.
func TestQuotaHolds(t *testing.T) {
	for seed := range int64(20) {
		r := rand.New(rand.NewSource(seed))
		w := world(t, 40)
		quota := map[string]int{"g": 64, "h": 64, "g-0000": 64}
		for group := range quota {
			quota[group] = r.Intn(4)
			set(t, w.c, group, Rules{Quota: quota[group]})
		}
		seen := map[string]int{}
		were := map[string]Instance{}
		for i := range 400 {
			now := int64(i)
			group := pick(r, "g", "h", "g-0000")
			switch r.Intn(6) {
			case 0:
				quota[group] = min(64, quota[group]+r.Intn(2))
				set(t, w.c, group, Rules{Delay: r.Intn(9), Quota: quota[group], Refuse: r.Intn(3) == 0, Back: r.Intn(4)})
			case 1, 2:
				w.c.Ask(group, r.Intn(70), now)
			case 3:
				if l := w.c.All(); len(l) > 0 {
					w.c.Delete(pick(r, l...).Name)
				}
			case 4:
				edit(r, w.s)
			default:
				w.c.Pass(w.s, now)
			}
			is := map[string]Instance{}
			for _, i := range w.c.All() {
				is[i.Name] = i
				was, there := were[i.Name]
				if !there {
					seen[i.Name]++
				} else if was != i {
					t.Fatalf("%+v was %+v", i, was)
				}
				if seen[i.Name] > 1 {
					t.Fatalf("%q comes twice", i.Name)
				}
			}
			were = is
			for group, most := range quota {
				if n := w.c.Count(group); n > most {
					t.Fatalf("%q has %d, of at most %d", group, n, most)
				}
			}
		}
	}
}

// TestRest: where nobody does anything, and the clock goes on, a pass changes nothing
// any more at last, and each group has what it should have.
func TestRest(t *testing.T) {
	for seed := range int64(40) {
		r := rand.New(rand.NewSource(seed))
		w, now := world(t, 90), int64(0)
		for range 60 {
			w.step(r, newSlowOf(w), now)
			now++
		}
		for _, group := range []string{"g", "h", "g-0000", longNames[0]} {
			set(t, w.c, group, Rules{Quota: 64, Delay: 3})
		}
		for k := range int64(9) {
			w.c.Pass(w.s, now+4*k)
		}
		w.passes(now + 50)
		for o := range w.s.List(api.KindGroup) {
			same(t, o.Name == longNames[0] || w.c.Count(o.Name) >= o.Group.Target, true)
		}
		for _, i := range w.c.All() {
			if _, ok := w.s.Get(api.KindGroup, i.Group); ok {
				_, ok = w.s.Get(api.KindNode, i.Name)
				same(t, ok, true)
			}
		}
	}
}

// newSlowOf is a slow cloud that is as a cluster's is.
func newSlowOf(w *cluster) *slow {
	x := newSlow()
	x.list = w.c.All()
	for group, g := range w.c.groups {
		x.rules[group] = g.rules
		if g.until > math.MinInt64 {
			x.ends[group] = g.until
		}
		if g.next > 0 {
			x.given[group] = []int{g.next - 1}
		}
	}
	return x
}

// P24.3, memory

// rich is a group with something in each row, and with spare room that has something
// in it.
func rich(name string) api.Object {
	o := group(name, 2)
	o.Group.Labels = append(o.Group.Labels, api.Label{Key: "zz", Value: "spare"})[:2]
	o.Group.Taints = append(o.Group.Taints, api.Label{Key: "zz", Value: "spare"})[:1]
	return o
}

// TestAnswersAreTheirOwn: what is done to answers changes neither the cloud nor
// another answer.
func TestAnswersAreTheirOwn(t *testing.T) {
	c := New()
	asks(t, c, "g", 5, 3, 5, api.OK)
	set(t, c, "h", Rules{Delay: 9, Quota: 9})
	asks(t, c, "h", 2, 3, 2, api.OK)
	before := see(c, []int64{0, 3, 12}, "g", "h")
	for _, tell := range []func() []Instance{c.All, func() []Instance { return c.There(3) }, func() []Instance { return c.There(99) }} {
		first, second := tell(), tell()
		want := slices.Clone(second)
		for i := range first[:cap(first)] {
			first[:cap(first)][i] = Instance{Name: "smudged", Group: "g", At: -1}
		}
		same(t, slices.Equal(second, want), true)
		same(t, slices.Equal(tell(), want), true)
	}
	same(t, see(c, []int64{0, 3, 12}, "g", "h"), before)
}

// TestPassMemory: a node shares nothing with its group, nor with another node, nor
// events with the store.
func TestPassMemory(t *testing.T) {
	g := rich("g")
	w := world(t, 20, g)
	l, e := w.c.Pass(w.s, 5)
	same(t, e, api.OK)
	want, after := slices.Clone(l), all(w.s)
	for i := range l[:cap(l)] {
		l[:cap(l)][i] = api.Event{Type: api.Updated, Name: "smudged"}
	}
	kept, e := w.s.Since(1)
	same(t, e, api.OK)
	same(t, kept, want)
	o, _ := w.s.Get(api.KindNode, "g-0000")
	for _, r := range [][]api.Label{o.Node.Labels, o.Node.Taints, g.Group.Labels, g.Group.Taints} {
		for i := range r[:cap(r)] {
			r[:cap(r)][i].Key = "smudged"
		}
	}
	same(t, all(w.s), after)
	same(t, len(l), 2)
	d := w.s.Copy() // of a pass over a copy a store hears nothing
	away(t, w.c, "g-0000")
	w.c.Pass(d, 6)
	same(t, all(w.s), after)
}
