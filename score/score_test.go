package score

import (
	"math"
	"math/big"
	"math/rand"
	"reflect"
	"slices"
	"strings"
	"testing"

	"trimtab/api"
	"trimtab/room"
)

// ways are all ways; noWays are numbers of none.
var (
	ways   = []int{Spread, Pack, Even}
	noWays = []int{math.MinInt, math.MinInt + 1, -3, -2, -1, 3, 4, 5, api.Mille, 1 << 31, 1 << 32, 1<<32 + 1, math.MaxInt - 1, math.MaxInt}
)

// ends are quantities at which answers change their ways, and numbers that are no
// quantities.
var ends = []api.Milli{
	math.MinInt64, math.MinInt64 + 1, -api.MaxMilli - 1, -1000, -1,
	0, 1, 2, 599, 600, 999, 1000, 1001,
	api.MaxMilli - 1, api.MaxMilli, api.MaxMilli + 1, math.MaxInt64 / 1000, math.MaxInt64/1000 + 1, math.MaxInt64 - 1, math.MaxInt64,
}

// names rise, byte by byte: one that begins another goes ahead of it, and of "10" and "9"
// the number isn't asked.
var names = []string{"", "\x00", "-", "00", "10", "9", "A", "Z", "a", "a\x00", "a-", "aa",
	strings.Repeat("b", api.MaxName+1), strings.Repeat("b", api.MaxName+2), "n-10", "n-2", "n1", "\x80", "é", "\xff", "\xff\xff"}

func same(t *testing.T, got, want any) {
	t.Helper()
	if !reflect.DeepEqual(got, want) {
		t.Fatalf("got %+v, want %+v", got, want)
	}
}

// of is a room of a size, of which so much is used.
func of(name string, size, used api.Resources) room.Room {
	return room.Room{Name: name, Node: api.Node{Size: size}, Used: used, Pods: 3}
}

// full is a room of CPU and Mem 1000, of which so much is used.
func full(name string, cpu, mem api.Milli) room.Room {
	return of(name, api.Resources{CPU: 1000, Mem: 1000}, api.Resources{CPU: cpu, Mem: mem})
}

// asks is a pod that asks for so much.
func asks(cpu, mem api.Milli) api.Pod { return api.Pod{Ask: api.Resources{CPU: cpu, Mem: mem}} }

// wantOf wants a score, and no error.
func wantOf(t *testing.T, r room.Room, p api.Pod, way, want int) {
	t.Helper()
	if got, e := Of(r, p, way); got != want || e != api.OK {
		t.Fatalf("Of %+v for %+v by %d: %d, %d, want %d", r, p.Ask, way, got, e, want)
	}
}

// wantNoOf wants an error, and nothing beside it.
func wantNoOf(t *testing.T, r room.Room, p api.Pod, way int, want api.Errno) {
	t.Helper()
	if got, e := Of(r, p, way); got != 0 || e != want {
		t.Fatalf("Of %+v for %+v by %d: %d, %d, want 0, %d", r, p.Ask, way, got, e, want)
	}
}

// wantBest wants this room of a row.
func wantBest(t *testing.T, l []room.Room, p api.Pod, way, want int) {
	t.Helper()
	if got, e := Best(l, p, way); got != want || e != api.OK {
		t.Fatalf("Best by %d: %d, %d, want %d", way, got, e, want)
	}
}

// wantNoBest wants an error, and nothing beside it.
func wantNoBest(t *testing.T, l []room.Room, p api.Pod, way int, want api.Errno) {
	t.Helper()
	if got, e := Best(l, p, way); got != 0 || e != want {
		t.Fatalf("Best by %d: %d, %d, want 0, %d", way, got, e, want)
	}
}

// wantRank wants these names.
func wantRank(t *testing.T, l []room.Room, p api.Pod, way int, want ...string) {
	t.Helper()
	if got := Rank(l, p, way); !slices.Equal(got, want) {
		t.Fatalf("Rank by %d: %q, want %q", way, got, want)
	}
}

// P18.1 Of

func TestWayNumbers(t *testing.T) {
	same(t, ways, []int{0, 1, 2})
}

func TestOfExample(t *testing.T) {
	r := room.Rooms([]api.Object{{Kind: api.KindNode, Name: "n1", Node: api.Node{Size: api.Resources{CPU: 1000}}}}, nil)[0]
	wantOf(t, r, asks(300, 0), Spread, 700)
	wantOf(t, r, asks(300, 0), Pack, 300)
	wantOf(t, r, asks(300, 0), Even, 700)
}

func TestOfTable(t *testing.T) {
	for _, c := range []struct {
		size, used, ask    api.Resources
		spread, pack, even int
	}{
		// what counts is what is used behind Put
		{api.Resources{CPU: 1000, Mem: 500}, api.Resources{}, api.Resources{}, 1000, 0, 1000},
		{api.Resources{CPU: 1000, Mem: 500}, api.Resources{CPU: 600, Mem: 200}, api.Resources{}, 400, 600, 800},
		{api.Resources{CPU: 1000, Mem: 500}, api.Resources{CPU: 600, Mem: 200}, api.Resources{CPU: 300, Mem: 50}, 100, 900, 600},
		{api.Resources{CPU: 1000, Mem: 500}, api.Resources{CPU: 600, Mem: 200}, api.Resources{CPU: 400, Mem: 300}, 0, 1000, 1000},
		{api.Resources{CPU: 1000, Mem: 500}, api.Resources{}, api.Resources{CPU: 1000, Mem: 500}, 0, 1000, 1000},

		// the greater share is the room's, whichever it is; Even asks how far they are apart
		{api.Resources{CPU: 1000, Mem: 1000}, api.Resources{CPU: 500, Mem: 100}, api.Resources{CPU: 200, Mem: 200}, 300, 700, 600},
		{api.Resources{CPU: 1000, Mem: 1000}, api.Resources{CPU: 100, Mem: 500}, api.Resources{CPU: 200, Mem: 200}, 300, 700, 600},
		{api.Resources{CPU: 1000, Mem: 500}, api.Resources{}, api.Resources{Mem: 500}, 0, 1000, 0},
		{api.Resources{CPU: 1000, Mem: 500}, api.Resources{}, api.Resources{CPU: 1000}, 0, 1000, 0},
		{api.Resources{CPU: 1000, Mem: 500}, api.Resources{}, api.Resources{CPU: 1}, 999, 1, 999},
		{api.Resources{CPU: 1000, Mem: 500}, api.Resources{}, api.Resources{Mem: 1}, 998, 2, 998},
		{api.Resources{CPU: 1000, Mem: 500}, api.Resources{}, api.Resources{CPU: 2, Mem: 1}, 998, 2, 1000},

		// each share is rounded down by itself
		{api.Resources{CPU: 3, Mem: 3}, api.Resources{}, api.Resources{CPU: 1}, 667, 333, 667},
		{api.Resources{CPU: 3, Mem: 3}, api.Resources{}, api.Resources{CPU: 2, Mem: 1}, 334, 666, 667},
		{api.Resources{CPU: 3, Mem: 3}, api.Resources{CPU: 1}, api.Resources{CPU: 1, Mem: 1}, 334, 666, 667},
		{api.Resources{CPU: 1001, Mem: 1000}, api.Resources{}, api.Resources{CPU: 1}, 1000, 0, 1000},
		{api.Resources{CPU: 1001, Mem: 1000}, api.Resources{}, api.Resources{CPU: 1, Mem: 1}, 999, 1, 999},
		{api.Resources{CPU: 1000, Mem: 1001}, api.Resources{CPU: 1000}, api.Resources{Mem: 1000}, 0, 1000, 999},

		// of Mem 0: 0 as its share
		{api.Resources{CPU: 1000}, api.Resources{}, api.Resources{}, 1000, 0, 1000},
		{api.Resources{CPU: 1000}, api.Resources{CPU: 600}, api.Resources{CPU: 400}, 0, 1000, 0},
		{api.Resources{CPU: 1000}, api.Resources{CPU: 600}, api.Resources{CPU: 1}, 399, 601, 399},

		// of CPU 0, which no node may have, likewise
		{api.Resources{}, api.Resources{}, api.Resources{}, 1000, 0, 1000},
		{api.Resources{Mem: 500}, api.Resources{Mem: 100}, api.Resources{Mem: 50}, 700, 300, 700},

		{api.Resources{CPU: api.MaxMilli, Mem: api.MaxMilli}, api.Resources{}, api.Resources{CPU: api.MaxMilli, Mem: api.MaxMilli - 1}, 0, 1000, 999},
		{api.Resources{CPU: api.MaxMilli, Mem: api.MaxMilli}, api.Resources{CPU: api.MaxMilli / 2}, api.Resources{Mem: api.MaxMilli / 4}, 500, 500, 750},
	} {
		r, p := of("n", c.size, c.used), api.Pod{Ask: c.ask}
		wantOf(t, r, p, Spread, c.spread)
		wantOf(t, r, p, Pack, c.pack)
		wantOf(t, r, p, Even, c.even)
	}
}

// TestOfEach: at each thousandth of CPU, and of Mem, and one less.
func TestOfEach(t *testing.T) {
	for _, size := range []api.Milli{1000, 8000, api.MaxMilli / 1000 * 1000} {
		r := of("n", api.Resources{CPU: size, Mem: size}, api.Resources{CPU: size / 1000 * 300, Mem: size / 1000 * 200})
		for n := range 701 {
			p := asks(size/1000*api.Milli(n), 0)
			wantOf(t, r, p, Spread, 700-n)
			wantOf(t, r, p, Pack, 300+n)
			wantOf(t, r, p, Even, 900-n)
			p.Ask.CPU-- // one less is the share below
			wantOf(t, r, p, Spread, 701-n)
			wantOf(t, r, p, Pack, 299+n)
			wantOf(t, r, p, Even, 901-n)
		}
		for n := range 801 {
			p := asks(0, size/1000*api.Milli(n))
			wantOf(t, r, p, Spread, 1000-max(300, 200+n))
			wantOf(t, r, p, Pack, max(300, 200+n))
			wantOf(t, r, p, Even, 1000-max(100-n, n-100))
			p.Ask.Mem--
			wantOf(t, r, p, Spread, 1000-max(300, 199+n))
			wantOf(t, r, p, Pack, max(300, 199+n))
			wantOf(t, r, p, Even, 1000-max(101-n, n-101))
		}
	}
}

// TestOfNoWay: whether it fits or not, there is no such way.
func TestOfNoWay(t *testing.T) {
	for _, way := range noWays {
		wantNoOf(t, full("n", 0, 0), asks(300, 0), way, api.ErrArg)
		wantNoOf(t, full("n", 800, 0), asks(300, 0), way, api.ErrArg)
		wantNoOf(t, room.Room{}, api.Pod{}, way, api.ErrArg)
	}
}

// spared is a row of one in memory of its own, with spare room that has another in it.
func spared[T any](one, spare T) []T { return []T{one, spare}[:1] }

// rich is a room with rows that a pod is held against; each time the same in memory of
// its own.
func rich() room.Room {
	r := of("n1", api.Resources{CPU: 1000, Mem: 500}, api.Resources{CPU: 600, Mem: 200})
	r.Node.Labels = spared(api.Label{Key: "zone", Value: "a"}, api.Label{Key: "zone", Value: "b"})
	r.Node.Taints = spared(api.Label{Key: "gpu"}, api.Label{Key: "disk"})
	r.Node.Group, r.Node.Since = "g1", 8
	return r
}

// comes is a pod that fits in the rich room, but hardly.
func comes() api.Pod {
	p := asks(300, 50)
	p.Select = spared(api.Require{Key: "zone", Value: "a"}, api.Require{Key: "zone", Value: "b"})
	p.Tolerate = spared(api.Label{Key: "gpu"}, api.Label{Key: "cpu"})
	p.Labels = spared(api.Label{Key: "app"}, api.Label{Key: "web"})
	p.Owner, p.Node, p.Phase, p.Since, p.Warm = "app", "n2", api.Ready, 4, 7
	return p
}

// misfits are rooms in which the pod that comes doesn't fit, each for one reason.
func misfits() []room.Room {
	l := []room.Room{rich(), rich(), rich(), rich(), rich(), rich(), {}}
	l[0].Node.Closed = true
	l[1].Node.Labels[0].Value = "b"
	l[2].Node.Taints[0].Key = "other"
	l[3].Used.CPU = 701
	l[4].Used.Mem = 451
	l[5].Node.Labels = nil
	return l
}

// TestOfAMisfit: that it doesn't fit, for whatever reason.
func TestOfAMisfit(t *testing.T) {
	for _, way := range ways {
		for _, r := range misfits() {
			wantNoOf(t, r, comes(), way, api.ErrFew)
		}
		r := rich()
		r.Used = api.Resources{CPU: 700, Mem: 450}
		wantOf(t, r, comes(), way, []int{0, 1000, 1000}[way])

		wantNoOf(t, full("n", 1000, 0), asks(1, 0), way, api.ErrFew)
		wantNoOf(t, full("n", 0, 1000), asks(0, 1), way, api.ErrFew)
		wantNoOf(t, full("n", 1001, 0), asks(0, 0), way, api.ErrFew)
		wantNoOf(t, of("n", api.Resources{CPU: 1000}, api.Resources{}), asks(300, 1), way, api.ErrFew)
		wantNoOf(t, of("n", api.Resources{CPU: 1000}, api.Resources{Mem: 1}), asks(300, 0), way, api.ErrFew)
	}
}

// TestOfHangsOnShares: on nothing else, if the pod fits.
func TestOfHangsOnShares(t *testing.T) {
	r, p := rich(), comes()
	for range 2 {
		wantOf(t, r, p, Spread, 100)
		wantOf(t, r, p, Pack, 900)
		wantOf(t, r, p, Even, 600)
		r.Name, r.Pods, r.Node.Group, r.Node.Since, r.Node.Taints = "", math.MinInt, "", -1, nil
		p.Owner, p.Node, p.Phase, p.Since, p.Labels, p.Select, p.Warm = "", "", 9, math.MinInt64, nil, nil, -1
	}
}

// whole is a number without bounds.
func whole(m api.Milli) *big.Int { return big.NewInt(int64(m)) }

// behind is how much of a size is used with an ask, in thousandths, worked out without
// a bound, 0 to 1000; and whether that much is there.
func behind(size, used, ask api.Milli) (int, bool) {
	sum := new(big.Int).Add(whole(used), whole(ask))
	switch {
	case sum.Cmp(whole(size)) > 0:
		return 0, false
	case sum.Sign() <= 0:
		return 0, true
	}
	sum.Mul(sum, big.NewInt(1000))
	return int(sum.Div(sum, whole(size)).Int64()), true
}

// slow is the score of a room for a pod, if what it asks for is there.
func slow(r room.Room, p api.Pod, way int) (int, bool) {
	cpu, ok := behind(r.Node.Size.CPU, r.Used.CPU, p.Ask.CPU)
	mem, too := behind(r.Node.Size.Mem, r.Used.Mem, p.Ask.Mem)
	switch {
	case !ok || !too:
		return 0, false
	case way == Spread:
		return 1000 - max(cpu, mem), true
	case way == Pack:
		return max(cpu, mem), true
	case cpu > mem:
		return 1000 - cpu + mem, true
	}
	return 1000 - mem + cpu, true
}

// wantSlow wants of Of what the slow way tells.
func wantSlow(t *testing.T, r room.Room, p api.Pod, way int) {
	t.Helper()
	if want, ok := slow(r, p, way); ok {
		wantOf(t, r, p, way, want)
	} else {
		wantNoOf(t, r, p, way, api.ErrFew)
	}
}

// TestOfAnyNumbers: also of such as are no quantities.
func TestOfAnyNumbers(t *testing.T) {
	for _, size := range ends {
		for _, used := range ends {
			for _, ask := range ends {
				for _, way := range ways {
					for _, mem := range []api.Milli{0, 300, 1000} {
						wantSlow(t, of("n", api.Resources{CPU: size, Mem: 1000}, api.Resources{CPU: used}), asks(ask, mem), way)
						wantSlow(t, of("n", api.Resources{CPU: 1000, Mem: size}, api.Resources{Mem: used}), asks(mem, ask), way)
					}
					wantSlow(t, of("n", api.Resources{CPU: size}, api.Resources{CPU: used}), asks(ask, 0), way)
				}
			}
		}
	}
}

// P18.1 Best, Rank

func TestBestAndRankTable(t *testing.T) {
	l := []room.Room{full("a", 500, 100), full("b", 0, 0), full("c", 900, 900), full("d", 700, 800)}
	p := asks(200, 200)
	wantRank(t, l, p, Spread, "b", "a", "d")
	wantBest(t, l, p, Spread, 1)
	wantRank(t, l, p, Pack, "d", "a", "b")
	wantBest(t, l, p, Pack, 3)
	wantRank(t, l, p, Even, "b", "d", "a")
	wantBest(t, l, p, Even, 1)

	wantRank(t, l[2:], p, Even, "d")
	wantBest(t, l[2:], p, Even, 1)
	wantRank(t, l, asks(900, 900), Pack, "b")
	wantBest(t, l, asks(900, 900), Pack, 1)
	wantRank(t, l, asks(0, 0), Pack, "c", "d", "a", "b")
	wantBest(t, l, asks(0, 0), Pack, 2)
}

// TestBestAndRankOfNone: of no rooms, and of such as it doesn't fit in.
func TestBestAndRankOfNone(t *testing.T) {
	for _, l := range [][]room.Room{nil, {}, misfits(), misfits()[:1]} {
		for _, way := range ways {
			wantNoBest(t, l, comes(), way, api.ErrNone)
			wantRank(t, l, comes(), way)
		}
		for _, way := range noWays {
			wantNoBest(t, l, comes(), way, api.ErrArg)
			wantRank(t, l, comes(), way)
		}
	}
}

// TestBestAndRankByNoWay: also where it fits.
func TestBestAndRankByNoWay(t *testing.T) {
	l := []room.Room{full("a", 500, 100), full("b", 0, 0)}
	for _, way := range noWays {
		wantNoBest(t, l, asks(200, 200), way, api.ErrArg)
		wantRank(t, l, asks(200, 200), way)
	}
}

// TestMisfitsAreLeftOut: wherever they stand, the number is that in the whole row.
func TestMisfitsAreLeftOut(t *testing.T) {
	fits := rich()
	fits.Name = "z"
	for at := range misfits() {
		l := slices.Insert(misfits(), at, fits)
		for _, way := range ways {
			wantBest(t, l, comes(), way, at)
			wantRank(t, l, comes(), way, "z")
		}
	}
}

// TestLeastName: of one score, names rise byte by byte, in whatever order the rooms
// stand.
func TestLeastName(t *testing.T) {
	var l []room.Room
	for _, name := range names {
		l = append(l, full(name, 300, 200))
	}
	chance := rand.New(rand.NewSource(1))
	for range 50 {
		for _, way := range ways {
			wantRank(t, l, asks(100, 100), way, names...)
			wantBest(t, l, asks(100, 100), way, slices.IndexFunc(l, func(r room.Room) bool { return r.Name == "" }))
			wantRank(t, l, asks(800, 0), way)
		}
		chance.Shuffle(len(l), func(i, j int) { l[i], l[j] = l[j], l[i] })
	}
}

// TestScoreGoesAheadOfName: the least difference of scores does, and what is rounded
// away is no difference.
func TestScoreGoesAheadOfName(t *testing.T) {
	size := api.Resources{CPU: 2000, Mem: 2000}
	l := []room.Room{
		of("c", size, api.Resources{CPU: 1001, Mem: 200}),
		of("b", size, api.Resources{CPU: 1000, Mem: 200}),
		of("a", size, api.Resources{CPU: 1002, Mem: 200}),
		of("d", size, api.Resources{CPU: 998, Mem: 201}),
	}
	wantRank(t, l, asks(0, 0), Spread, "d", "b", "c", "a")
	wantBest(t, l, asks(0, 0), Spread, 3)
	wantRank(t, l, asks(0, 0), Pack, "a", "b", "c", "d")
	wantBest(t, l, asks(0, 0), Pack, 2)
	wantRank(t, l, asks(0, 0), Even, "d", "b", "c", "a")
	wantBest(t, l[:3], asks(0, 0), Spread, 1)
	wantBest(t, l[:2], asks(0, 0), Pack, 1)
}

// TestOneName: of rooms by one name each is told, and of one score the first is best.
func TestOneName(t *testing.T) {
	l := []room.Room{full("b", 0, 0), full("a", 100, 100), full("a", 900, 900), full("a", 100, 100), full("a", 50, 50)}
	wantRank(t, l, asks(100, 100), Spread, "b", "a", "a", "a", "a")
	wantBest(t, l[1:], asks(100, 100), Spread, 3)
	wantBest(t, l[1:4], asks(100, 100), Spread, 0)
	wantRank(t, l, asks(200, 200), Pack, "a", "a", "a", "b")
	wantBest(t, l, asks(200, 200), Pack, 1)
	wantBest(t, l[2:], asks(200, 200), Pack, 1)
}

// ranked is the numbers of all rooms in which a pod fits, picked one by one, the best
// first; of one score and name as they stand.
func ranked(l []room.Room, p api.Pod, way int) []int {
	var order []int
	for {
		best, most := -1, 0
		for i, r := range l {
			n, ok := slow(r, p, way)
			if !ok || slices.Contains(order, i) {
				continue
			}
			if best < 0 || n > most || n == most && r.Name < l[best].Name {
				best, most = i, n
			}
		}
		if best < 0 {
			return order
		}
		order = append(order, best)
	}
}

// TestBestAndRankByChance: as by the slow way, and Best is the first of Rank.
func TestBestAndRankByChance(t *testing.T) {
	chance := rand.New(rand.NewSource(2))
	number := func(n int) api.Milli { return api.Milli(chance.Intn(n)) }
	for range 3000 {
		var l []room.Room
		for range chance.Intn(12) {
			size := api.Resources{CPU: 1 + number(20), Mem: number(20)}
			used := api.Resources{CPU: number(int(size.CPU) + 1), Mem: number(int(size.Mem) + 1)}
			l = append(l, of(names[chance.Intn(len(names))], size, used))
		}
		p := asks(number(6), number(4))
		for _, way := range ways {
			order := ranked(l, p, way)
			var want []string
			for _, i := range order {
				want = append(want, l[i].Name)
			}
			wantRank(t, l, p, way, want...)
			if len(order) == 0 {
				wantNoBest(t, l, p, way, api.ErrNone)
			} else {
				wantBest(t, l, p, way, order[0])
			}
		}
	}
}

// TestManyRooms: more than a cluster has nodes.
func TestManyRooms(t *testing.T) {
	const many = 4 * api.MaxNodes
	var l []room.Room
	var want []string
	for n := range many {
		name := strings.Repeat("n", n+1)
		l = append(l, full(name, api.Milli(n), api.Milli(n)))
		want = append(want, name)
	}
	p := asks(100, 100)
	wantRank(t, l, p, Spread, want...)
	wantBest(t, l, p, Spread, 0)
	wantRank(t, l, p, Even, want...)
	slices.Reverse(want)
	wantRank(t, l, p, Pack, want...)
	wantBest(t, l, p, Pack, many-1)
}

// P18.2

// riches is misfits, and two rooms in which the pod that comes fits, with spare room
// that has something in it; each time the same in memory of its own.
func riches() []room.Room {
	spare := rich()
	spare.Name = "spare"
	l := append(misfits(), rich(), rich())
	l[len(l)-2].Name = "n2"
	l[len(l)-1].Used.CPU = 500
	return append(l, spare)[:len(l)]
}

// all is all of a row, and of its rows, with all spare room.
func all(l []room.Room) []room.Room {
	l = slices.Clone(l[:cap(l)])
	for i := range l {
		n := &l[i].Node
		n.Labels, n.Taints = n.Labels[:cap(n.Labels)], n.Taints[:cap(n.Taints)]
	}
	return l
}

// allOf is all of a pod, with all spare room.
func allOf(p api.Pod) api.Pod {
	p.Labels, p.Select, p.Tolerate = p.Labels[:cap(p.Labels)], p.Select[:cap(p.Select)], p.Tolerate[:cap(p.Tolerate)]
	return p
}

// TestNothingIsChanged: what is handed in stays, its spare room too.
func TestNothingIsChanged(t *testing.T) {
	l, p := riches(), comes()
	for _, way := range append(slices.Clone(ways), noWays...) {
		for _, r := range l {
			Of(r, p, way)
		}
		Best(l, p, way)
		Rank(l, p, way)
		wantRank(t, l[:0], p, way) // all of it is spare
		same(t, all(l), all(riches()))
		same(t, allOf(p), allOf(comes()))
	}
	wantRank(t, l, p, Spread, "n1", "n2")
	wantRank(t, l, p, Pack, "n2", "n1")
	wantRank(t, l, p, Even, "n1", "n2")
}

// TestAnswersAreTheirOwn: what is done to what was handed in, or to an answer, changes
// no other answer, and nothing that is answered then.
func TestAnswersAreTheirOwn(t *testing.T) {
	l, p := riches(), comes()
	for _, way := range ways {
		first, second := Rank(l, p, way), Rank(l, p, way)
		for i := range first[:cap(first)] {
			first[:cap(first)][i] = "smudged"
		}
		want := [][]string{{"n1", "n2"}, {"n2", "n1"}, {"n1", "n2"}}[way]
		same(t, second, want)
		wantRank(t, l, p, way, want...)
		same(t, all(l), all(riches()))
	}
	kept := Rank(l, p, Pack)
	for i := range l[:cap(l)] {
		l[:cap(l)][i] = full("smudged", 0, 0)
	}
	p.Select, p.Ask = nil, api.Resources{CPU: 1000, Mem: 1000}
	same(t, kept, []string{"n2", "n1"})
	wantBest(t, l, p, Pack, 0)
	wantBest(t, riches(), comes(), Spread, len(riches())-1)
}
