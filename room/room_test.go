package room

import (
	"math"
	"math/big"
	"math/rand"
	"reflect"
	"slices"
	"strings"
	"testing"

	"trimtab/api"
	"trimtab/label"
)

// ends are quantities at which answers change their ways, and numbers that are no
// quantities.
var ends = []api.Milli{
	math.MinInt64, math.MinInt64 + 1, math.MinInt64 / 2, -api.MaxMilli - 1, -api.MaxMilli, -1000, -1,
	0, 1, 2, 599, 600, 999, 1000, 1001,
	api.MaxMilli - 1, api.MaxMilli, api.MaxMilli + 1, 1 << 62, math.MaxInt64 / 1000, math.MaxInt64/1000 + 1, math.MaxInt64 - 1, math.MaxInt64,
}

// phases are all phases, and numbers that are none.
var phases = []int{api.Pending, api.Bound, api.Ready, api.Failed, -1, 4, 5, math.MinInt, math.MaxInt}

// noNodes are all kinds but a node's, and numbers that are none; noPods likewise.
var (
	noNodes = []int{math.MinInt, -1, api.KindWorkload, api.KindPod, api.KindGroup, api.KindHpa, api.Kinds, 6, math.MaxInt}
	noPods  = []int{math.MinInt, -1, api.KindWorkload, api.KindNode, api.KindGroup, api.KindHpa, api.Kinds, 6, math.MaxInt}
)

// names rise, byte by byte.
var names = []string{"", "\x00", "-", "0", "00", "1", "10", "9", "A", "Z", "a", "a\x00", "a-", "a0", "aa", "b",
	strings.Repeat("b", 33), strings.Repeat("b", 33) + "b", "n-10", "n-2", "n1", "z", "\x7f", "\x80", "é", "\xff", "\xff\xff"}

func same(t *testing.T, got, want any) {
	t.Helper()
	if !reflect.DeepEqual(got, want) {
		t.Fatalf("got %+v, want %+v", got, want)
	}
}

// node is a node of a size.
func node(name string, cpu, mem api.Milli) api.Object {
	return api.Object{Kind: api.KindNode, Name: name, Node: api.Node{Size: api.Resources{CPU: cpu, Mem: mem}}}
}

// on is a pod on a node, that asks for so much.
func on(node string, phase int, cpu, mem api.Milli) api.Object {
	return api.Object{Kind: api.KindPod, Name: "p", Pod: api.Pod{Owner: "app", Node: node, Phase: phase, Ask: api.Resources{CPU: cpu, Mem: mem}}}
}

// asks is a pod that asks for so much.
func asks(cpu, mem api.Milli) api.Pod { return api.Pod{Ask: api.Resources{CPU: cpu, Mem: mem}} }

// used is a room of a size, of which so much is used, by three pods.
func used(size, used api.Resources) Room {
	return Room{Name: "n", Node: api.Node{Size: size}, Used: used, Pods: 3}
}

// cpu is a room of which only CPU counts: none of Mem is there, used, or asked for.
func cpu(size, of api.Milli) Room { return used(api.Resources{CPU: size}, api.Resources{CPU: of}) }

// mem is a room of which only Mem counts: of CPU there is more than enough.
func mem(size, of api.Milli) Room {
	return used(api.Resources{CPU: 1000, Mem: size}, api.Resources{Mem: of})
}

// whole is a number without bounds.
func whole(m api.Milli) *big.Int { return big.NewInt(int64(m)) }

// within is a number without bounds, or the end of a quantity's type that it is
// beyond.
func within(x *big.Int) api.Milli {
	switch {
	case x.IsInt64():
		return api.Milli(x.Int64())
	case x.Sign() < 0:
		return math.MinInt64
	}
	return math.MaxInt64
}

// plus and minus are what should come of two numbers.
func plus(a, b api.Milli) api.Milli  { return within(new(big.Int).Add(whole(a), whole(b))) }
func minus(a, b api.Milli) api.Milli { return within(new(big.Int).Sub(whole(a), whole(b))) }

// P17.1 Rooms

// wantRooms wants these rooms of Rooms.
func wantRooms(t *testing.T, nodes, pods []api.Object, want ...Room) {
	t.Helper()
	got := Rooms(nodes, pods)
	if len(got) != len(want) {
		t.Fatalf("Rooms: %d, want %d: %+v", len(got), len(want), got)
	}
	for i := range want {
		same(t, got[i], want[i])
	}
}

// with is the room of a node with so many pods that ask for so much.
func with(n api.Object, cpu, mem api.Milli, pods int) Room {
	return Room{Name: n.Name, Node: n.Node, Used: api.Resources{CPU: cpu, Mem: mem}, Pods: pods}
}

func TestRoomsExample(t *testing.T) {
	n := node("n1", 1000, 0)
	l := Rooms([]api.Object{n}, []api.Object{on("n1", api.Bound, 600, 0)})
	same(t, l, []Room{with(n, 600, 0, 1)})
	same(t, l[0].Left(), api.Resources{CPU: 400})
	same(t, l[0].Share(), 600)
}

func TestRoomsOfNothing(t *testing.T) {
	pods := []api.Object{on("n1", api.Bound, 600, 0), on("", api.Ready, 600, 0)}
	for _, nodes := range [][]api.Object{nil, {}} {
		wantRooms(t, nodes, nil)
		wantRooms(t, nodes, pods)
	}
	n := node("n1", 1000, 500)
	wantRooms(t, []api.Object{n}, nil, with(n, 0, 0, 0))
	wantRooms(t, []api.Object{n}, []api.Object{}, with(n, 0, 0, 0))
}

// TestRoomsRise: byte by byte, in whatever order the nodes stand.
func TestRoomsRise(t *testing.T) {
	var nodes []api.Object
	var want []Room
	for i, name := range names {
		n := node(name, api.Milli(i+1), 5)
		nodes = append(nodes, n)
		want = append(want, with(n, 0, 0, 0))
	}
	wantRooms(t, nodes, nil, want...)
	slices.Reverse(nodes)
	wantRooms(t, nodes, nil, want...)
	r := rand.New(rand.NewSource(1))
	for range 50 {
		r.Shuffle(len(nodes), func(i, j int) { nodes[i], nodes[j] = nodes[j], nodes[i] })
		wantRooms(t, nodes, nil, want...)
	}
}

// TestRoomsOfPhases: of pods that are Bound or Ready, and of no others, whatever
// node these have.
func TestRoomsOfPhases(t *testing.T) {
	n := node("n1", 1000, 500)
	for _, phase := range phases {
		want := with(n, 0, 0, 0)
		if phase == api.Bound || phase == api.Ready {
			want = with(n, 300, 7, 1)
		}
		wantRooms(t, []api.Object{n}, []api.Object{on("n1", phase, 300, 7)}, want)
	}
	var pods []api.Object
	for _, phase := range phases {
		pods = append(pods, on("n1", phase, 300, 7), on("n1", phase, 20, 1))
	}
	wantRooms(t, []api.Object{n}, pods, with(n, 640, 16, 4))
}

// TestRoomsOfOtherKinds: what is no Node has no room, and what is no Pod is on none,
// whatever stands in it.
func TestRoomsOfOtherKinds(t *testing.T) {
	n := node("n1", 1000, 500)
	nodes, pods := []api.Object{n}, []api.Object{on("n1", api.Bound, 300, 7)}
	for _, kind := range noNodes {
		other := node("n0", 1000, 500)
		other.Kind = kind
		nodes = append(nodes, other)
	}
	for _, kind := range noPods {
		other := on("n1", api.Ready, 1, 1)
		other.Kind = kind
		pods = append(pods, other)
	}
	wantRooms(t, nodes, pods, with(n, 300, 7, 1))
	wantRooms(t, pods, nodes, with(api.Object{Name: "p"}, 0, 0, 0)) // of kind Node, too
	wantRooms(t, nodes[1:], pods)
	wantRooms(t, nodes, pods[1:], with(n, 0, 0, 0))
}

// TestRoomsOfTheirOwnPods: each node's own, those of other nodes, and of such as
// aren't there, are nobody's.
func TestRoomsOfTheirOwnPods(t *testing.T) {
	var nodes, pods []api.Object
	var want []Room
	for i, name := range names {
		n := node(name, 1000, 5)
		pods = append(pods, on(name, api.Bound, api.Milli(i), 1), on(name, api.Ready, 100, api.Milli(i)), on(name+"!", api.Ready, 1, 1))
		if i%2 == 1 {
			nodes = append(nodes, n)
			want = append(want, with(n, api.Milli(100+i), api.Milli(1+i), 2))
		}
	}
	wantRooms(t, nodes, pods, want...)
	slices.Reverse(pods)
	wantRooms(t, nodes, pods, want...)
}

// TestRoomsOfMany: each Pod of the row counts, also such as are alike, and nothing
// of it but its Node, its phase, and what it asks for.
func TestRoomsOfMany(t *testing.T) {
	n := node("n1", 1000, 500)
	var pods []api.Object
	for many := range 100 {
		wantRooms(t, []api.Object{n}, pods, with(n, api.Milli(30*many), api.Milli(2*many), many))
		pods = append(pods, on("n1", api.Ready, 30, 2))
	}
	p := on("n1", api.Bound, 30, 2)
	p.Name, p.Version, p.Pod.Owner, p.Pod.Since, p.Pod.Warm = "", 9, "", math.MinInt64, -1
	p.Pod.Select = []api.Require{{Key: "disk", Op: api.There}} // it is there, though it wouldn't come there
	n.Node.Taints, n.Node.Closed = []api.Label{{Key: "gpu"}}, true
	wantRooms(t, []api.Object{n}, []api.Object{p, p}, with(n, 60, 4, 2))
}

// TestRoomsOfOneName: each of the nodes has a room, with all pods of that name, in
// the order of the row.
func TestRoomsOfOneName(t *testing.T) {
	var nodes []api.Object
	var want []Room
	for i := range 40 { // more than a sort leaves in order by chance
		n := node("n1", api.Milli(i), 500)
		nodes = append(nodes, n)
		want = append(want, with(n, 30, 2, 1))
	}
	first := node("n0", 1, 1)
	wantRooms(t, append(nodes, first), []api.Object{on("n1", api.Bound, 30, 2)}, append([]Room{with(first, 0, 0, 0)}, want...)...)
}

// TestRoomsOfAnyNumbers: what pods ask for together is exact, or the end of its type
// that it is beyond, in whatever order they stand.
func TestRoomsOfAnyNumbers(t *testing.T) {
	n := node("n1", 1000, 500)
	for _, a := range ends {
		for _, b := range ends {
			for _, c := range ends {
				x := new(big.Int).Add(whole(a), whole(b))
				all := within(x.Add(x, whole(c)))
				pods := []api.Object{on("n1", api.Bound, a, c), on("n1", api.Ready, b, a), on("n1", api.Bound, c, b)}
				wantRooms(t, []api.Object{n}, pods, with(n, all, all, 3))
			}
		}
	}
}

// TestRoomsBeyondANumber: as many pods as may be can ask for more than a number
// holds; nothing is left then.
func TestRoomsBeyondANumber(t *testing.T) {
	n := node("n1", api.MaxMilli, api.MaxMilli)
	pods := slices.Repeat([]api.Object{on("n1", api.Bound, api.MaxMilli, api.MaxMilli)}, 2049)
	for many, want := range map[int]api.Milli{1: api.MaxMilli, 512: 1 << 62, 1023: 1023 << 53, 1024: math.MaxInt64, 1025: math.MaxInt64,
		1536: math.MaxInt64, 2047: math.MaxInt64, 2048: math.MaxInt64, 2049: math.MaxInt64} {
		r := Rooms([]api.Object{n}, pods[:many])[0]
		same(t, r, with(n, want, want, many))
		same(t, r.Left(), api.Resources{})
		same(t, r.Share(), 1000)
		same(t, r.Fits(asks(1, 0)), false)
	}
}

// slow is what Rooms should answer.
func slow(nodes, pods []api.Object) []Room {
	var all []Room
	for _, n := range nodes {
		if n.Kind != api.KindNode {
			continue
		}
		r := Room{Name: n.Name, Node: n.Node}
		for _, p := range pods {
			if p.Kind == api.KindPod && p.Pod.Node == n.Name && (p.Pod.Phase == api.Bound || p.Pod.Phase == api.Ready) {
				r.Used.CPU += p.Pod.Ask.CPU
				r.Used.Mem += p.Pod.Ask.Mem
				r.Pods++
			}
		}
		at := 0
		for at < len(all) && all[at].Name <= r.Name {
			at++
		}
		all = slices.Insert(all, at, r)
	}
	return all
}

func TestRoomsOfAny(t *testing.T) {
	r := rand.New(rand.NewSource(2))
	some := func() string { return names[10+r.Intn(4)] }
	for range 3000 {
		var nodes, pods []api.Object
		for range r.Intn(8) {
			n := node(some(), api.Milli(r.Intn(1000)), api.Milli(r.Intn(1000)))
			if r.Intn(5) == 0 {
				n.Kind = r.Intn(7) - 1
			}
			nodes = append(nodes, n)
		}
		for range r.Intn(12) {
			p := on(some(), r.Intn(6)-1, api.Milli(r.Intn(1000)), api.Milli(r.Intn(1000)))
			if r.Intn(5) == 0 {
				p.Kind = r.Intn(7) - 1
			}
			pods = append(pods, p)
		}
		wantRooms(t, nodes, pods, slow(nodes, pods)...)
	}
}

// P17.1 Left

func TestLeftTable(t *testing.T) {
	for _, c := range []struct{ size, used, want api.Resources }{
		{api.Resources{}, api.Resources{}, api.Resources{}},
		{api.Resources{CPU: 1000, Mem: 500}, api.Resources{}, api.Resources{CPU: 1000, Mem: 500}},
		{api.Resources{CPU: 1000, Mem: 500}, api.Resources{CPU: 600, Mem: 1}, api.Resources{CPU: 400, Mem: 499}},
		{api.Resources{CPU: 1000, Mem: 500}, api.Resources{CPU: 999, Mem: 500}, api.Resources{CPU: 1}},
		{api.Resources{CPU: 1000, Mem: 500}, api.Resources{CPU: 1000, Mem: 499}, api.Resources{Mem: 1}},

		// at least 0 each, each by itself
		{api.Resources{CPU: 1000, Mem: 500}, api.Resources{CPU: 1001, Mem: 100}, api.Resources{Mem: 400}},
		{api.Resources{CPU: 1000, Mem: 500}, api.Resources{CPU: 100, Mem: 501}, api.Resources{CPU: 900}},
		{api.Resources{CPU: 1000}, api.Resources{CPU: 100, Mem: 1}, api.Resources{CPU: 900}},
		{api.Resources{CPU: 1, Mem: 1}, api.Resources{CPU: api.MaxMilli, Mem: api.MaxMilli}, api.Resources{}},
		{api.Resources{CPU: api.MaxMilli, Mem: api.MaxMilli}, api.Resources{CPU: 1, Mem: api.MaxMilli}, api.Resources{CPU: api.MaxMilli - 1}},
	} {
		same(t, used(c.size, c.used).Left(), c.want)
	}
}

// TestLeftOfAnyNumbers: exact, and at most the greatest number that there is.
func TestLeftOfAnyNumbers(t *testing.T) {
	for _, size := range ends {
		for _, of := range ends {
			want := max(minus(size, of), 0)
			r := used(api.Resources{CPU: size, Mem: 7}, api.Resources{CPU: of, Mem: 3})
			same(t, r.Left(), api.Resources{CPU: want, Mem: 4})
			r = used(api.Resources{CPU: 7, Mem: size}, api.Resources{CPU: 3, Mem: of})
			same(t, r.Left(), api.Resources{CPU: 4, Mem: want})
		}
	}
}

// TestLeftIsLeft: it hangs on nothing but size and what is used.
func TestLeftIsLeft(t *testing.T) {
	r := rich()
	same(t, r.Left(), api.Resources{CPU: 400, Mem: 300})
	r.Name, r.Pods, r.Node.Closed, r.Node.Labels, r.Node.Taints = "", -1, true, nil, nil
	same(t, r.Left(), api.Resources{CPU: 400, Mem: 300})
}

// P17.1 May, Fits

// wantMay wants an answer of May, also of rooms in which nothing is left, and of
// Fits where enough is.
func wantMay(t *testing.T, n api.Node, p api.Pod, want bool) {
	t.Helper()
	for _, size := range ends {
		for _, of := range ends {
			n.Size = api.Resources{CPU: size, Mem: of}
			p.Ask = api.Resources{CPU: of, Mem: size}
			for _, r := range []Room{{Node: n}, {Node: n, Used: api.Resources{CPU: of, Mem: size}, Pods: 3}} {
				if r.May(p) != want {
					t.Fatalf("May of %+v in %+v: %v", p, r, !want)
				}
			}
		}
	}
	n.Size, p.Ask = api.Resources{CPU: 10, Mem: 10}, api.Resources{CPU: 7, Mem: 7}
	r := Room{Node: n, Used: api.Resources{CPU: 3, Mem: 3}}
	same(t, r.Fits(p), want)
	r.Used.CPU++
	same(t, r.Fits(p), false)
	same(t, r.May(p), want)
}

func TestMayOfClosed(t *testing.T) {
	wantMay(t, api.Node{}, api.Pod{}, true)
	wantMay(t, api.Node{Closed: true}, api.Pod{}, false)
	l := []api.Label{{Key: "zone", Value: "a"}}
	n := api.Node{Labels: l, Taints: l}
	p := api.Pod{Select: []api.Require{{Key: "zone", Value: "a"}}, Tolerate: l}
	wantMay(t, n, p, true)
	n.Closed = true
	wantMay(t, n, p, false)
}

// TestMayOfLabels: the node's labels are asked, not the pod's, nor taints.
func TestMayOfLabels(t *testing.T) {
	l := []api.Label{{Key: "disk", Value: "ssd"}, {Key: "spare"}, {Key: "zone", Value: "a"}}
	for _, c := range []struct {
		r    api.Require
		want bool
	}{
		{api.Require{Key: "zone", Value: "a", Op: api.Is}, true},
		{api.Require{Key: "zone", Value: "b", Op: api.Is}, false},
		{api.Require{Key: "zone", Op: api.Is}, false},
		{api.Require{Key: "spare", Op: api.Is}, true},
		{api.Require{Key: "rack", Op: api.Is}, false},
		{api.Require{Key: "zone", Value: "a", Op: api.Isnt}, false},
		{api.Require{Key: "zone", Value: "b", Op: api.Isnt}, true},
		{api.Require{Key: "rack", Value: "b", Op: api.Isnt}, true},
		{api.Require{Key: "disk", Op: api.There}, true},
		{api.Require{Key: "rack", Op: api.There}, false},
		{api.Require{Key: "disk", Op: api.Absent}, false},
		{api.Require{Key: "rack", Op: api.Absent}, true},
		{api.Require{Key: "zone", Value: "a", Op: 4}, false},
		{api.Require{Key: "zone", Value: "a", Op: -1}, false},
		{api.Require{Key: "zone", Value: "a", Op: math.MaxInt}, false},
	} {
		same(t, label.Match(l, []api.Require{c.r}), c.want)
		for _, r := range [][]api.Require{{c.r}, {c.r, {Key: "disk", Op: api.There}}, {{Key: "disk", Op: api.There}, c.r}} {
			wantMay(t, api.Node{Labels: l}, api.Pod{Select: r}, c.want)
		}
	}
	wantMay(t, api.Node{Labels: l}, api.Pod{}, true)
	there := []api.Require{{Key: "disk", Op: api.There}}
	wantMay(t, api.Node{Taints: l}, api.Pod{Labels: l, Select: there, Tolerate: l}, false)
	absent := []api.Require{{Key: "disk", Op: api.Absent}}
	wantMay(t, api.Node{Taints: l}, api.Pod{Labels: l, Select: absent, Tolerate: l}, true)
}

// TestMayOfTaints: all of the node's, and what the pod tolerates, not its labels.
func TestMayOfTaints(t *testing.T) {
	gpu, old, each := api.Label{Key: "gpu", Value: "x"}, api.Label{Key: "old"}, api.Label{Key: "gpu"}
	for _, c := range []struct {
		taints, tolerate []api.Label
		want             bool
	}{
		{nil, nil, true},
		{nil, []api.Label{gpu}, true},
		{[]api.Label{gpu}, nil, false},
		{[]api.Label{gpu}, []api.Label{gpu}, true},
		{[]api.Label{gpu}, []api.Label{each}, true},
		{[]api.Label{gpu}, []api.Label{{Key: "gpu", Value: "y"}}, false},
		{[]api.Label{gpu}, []api.Label{{Key: "gp", Value: "x"}}, false},
		{[]api.Label{each}, []api.Label{gpu}, false},
		{[]api.Label{each}, []api.Label{each}, true},
		{[]api.Label{gpu, old}, []api.Label{gpu}, false},
		{[]api.Label{gpu, old}, []api.Label{old}, false},
		{[]api.Label{gpu, old}, []api.Label{old, gpu}, true},
		{[]api.Label{gpu, old}, []api.Label{each, old}, true},
	} {
		same(t, label.Tolerates(c.taints, c.tolerate), c.want)
		wantMay(t, api.Node{Taints: c.taints}, api.Pod{Tolerate: c.tolerate}, c.want)
		wantMay(t, api.Node{Labels: c.taints}, api.Pod{}, true)
		wantMay(t, api.Node{Taints: c.taints}, api.Pod{Labels: c.taints, Tolerate: c.tolerate}, c.want)
	}
}

// TestMayOfNothingElse: its phase, its own node, its name and owner don't count, nor
// does the node's group.
func TestMayOfNothingElse(t *testing.T) {
	for _, phase := range phases {
		p := api.Pod{Owner: "app", Node: "n2", Phase: phase, Since: -1, Warm: -1}
		wantMay(t, api.Node{Group: "g", Since: math.MaxInt64}, p, true)
	}
}

func TestFitsTable(t *testing.T) {
	full := used(api.Resources{CPU: 1000, Mem: 500}, api.Resources{CPU: 600, Mem: 100})
	for _, c := range []struct {
		r        Room
		cpu, mem api.Milli
		want     bool
	}{
		{full, 0, 0, true},
		{full, 400, 400, true},
		{full, 401, 400, false},
		{full, 400, 401, false},
		{full, 401, 401, false},
		{full, 1, 401, false},
		{full, 401, 1, false},
		{full, 400, 0, true},
		{full, 0, 400, true},
		{full, api.MaxMilli, 0, false},
		{full, 0, api.MaxMilli, false},

		// nothing is left, but nothing is wanting either
		{cpu(1000, 1000), 0, 0, true},
		{cpu(1000, 1000), 1, 0, false},
		{cpu(1000, 1000), 0, 1, false},
		{mem(500, 500), 1, 0, true},
		{mem(500, 500), 1, 1, false},
		{Room{}, 0, 0, true},
		{Room{}, 1, 0, false},
		{Room{}, 0, 1, false},

		// what is left is the size less what is used, though Left tells at least 0
		{cpu(1000, 1001), 0, 0, false},
		{mem(500, 501), 0, 0, false},
		{mem(500, 501), 1, 0, false},

		{cpu(api.MaxMilli, 0), api.MaxMilli, 0, true},
		{cpu(api.MaxMilli, 1), api.MaxMilli, 0, false},
		{mem(api.MaxMilli, 0), 0, api.MaxMilli, true},
		{mem(api.MaxMilli, 1), 0, api.MaxMilli, false},
	} {
		if got := c.r.Fits(asks(c.cpu, c.mem)); got != c.want {
			t.Errorf("Fits of %d, %d in %+v: %v", c.cpu, c.mem, c.r, got)
		}
	}
}

// TestFitsAnyNumbers: exact, though what is left, or what would be used, is beyond a
// number's end.
func TestFitsAnyNumbers(t *testing.T) {
	for _, size := range ends {
		for _, of := range ends {
			left := new(big.Int).Sub(whole(size), whole(of))
			for _, ask := range ends {
				want := whole(ask).Cmp(left) <= 0
				for _, x := range []struct {
					r Room
					p api.Pod
				}{
					{used(api.Resources{CPU: size, Mem: 5}, api.Resources{CPU: of, Mem: 2}), asks(ask, 3)},
					{used(api.Resources{CPU: 5, Mem: size}, api.Resources{CPU: 2, Mem: of}), asks(3, ask)},
				} {
					if got := x.r.Fits(x.p); got != want {
						t.Fatalf("Fits of %d, of %d less %d: %v", ask, size, of, got)
					}
				}
			}
		}
	}
}

// P17.1 Put, Take

// rich is a room with something in each field, and with spare room in its rows.
func rich() Room {
	return Room{
		Name: "n1",
		Node: api.Node{
			Group:  "g1",
			Size:   api.Resources{CPU: 1000, Mem: 500},
			Labels: row(api.Label{Key: "spare"}, api.Label{Key: "disk", Value: "ssd"}, api.Label{Key: "zone", Value: "a"}),
			Taints: row(api.Label{Key: "spare"}, api.Label{Key: "gpu"}),
			Since:  8,
		},
		Used: api.Resources{CPU: 600, Mem: 200},
		Pods: 3,
	}
}

// comes is a pod with something in each field, that fits in the rich room.
func comes() api.Pod {
	return api.Pod{
		Owner:    "app",
		Node:     "n2",
		Phase:    api.Ready,
		Since:    4,
		Ask:      api.Resources{CPU: 300, Mem: 50},
		Labels:   row(api.Label{Key: "spare"}, api.Label{Key: "app", Value: "web"}),
		Select:   row(api.Require{Key: "spare"}, api.Require{Key: "zone", Value: "a"}, api.Require{Key: "disk", Op: api.There}),
		Tolerate: row(api.Label{Key: "spare"}, api.Label{Key: "gpu"}),
		Warm:     7,
	}
}

// row is a row of its own memory, with spare room that has something in it.
func row[T any](spare T, l ...T) []T {
	return append(slices.Clone(l), spare, spare)[: len(l) : len(l)+2]
}

// wantPut wants the room with so much used, and one more pod.
func wantPut(t *testing.T, r Room, p api.Pod, cpu, mem api.Milli) {
	t.Helper()
	want := r
	want.Used = api.Resources{CPU: cpu, Mem: mem}
	want.Pods++
	got, ok := r.Put(p)
	same(t, ok, true)
	same(t, got, want)
}

// wantNoPut wants the room as it was, and false.
func wantNoPut(t *testing.T, r Room, p api.Pod) {
	t.Helper()
	got, ok := r.Put(p)
	same(t, ok, false)
	same(t, got, r)
}

func TestPut(t *testing.T) {
	r, p := rich(), comes()
	wantPut(t, r, p, 900, 250)
	for _, phase := range phases {
		p.Phase, p.Node = phase, ""
		wantPut(t, r, p, 900, 250)
	}
	p.Ask = api.Resources{CPU: 400, Mem: 300}
	wantPut(t, r, p, 1000, 500)
	p.Ask = api.Resources{}
	wantPut(t, r, p, 600, 200)
	wantPut(t, Room{}, api.Pod{}, 0, 0)
}

// TestPutOfOneAfterAnother: each one behind those that were put ahead of it.
func TestPutOfOneAfterAnother(t *testing.T) {
	r, p := cpu(1000, 0), asks(300, 0)
	for n := range 3 {
		wantPut(t, r, p, api.Milli(300*(n+1)), 0)
		r, _ = r.Put(p)
	}
	wantNoPut(t, r, p)
	wantPut(t, r, asks(100, 0), 1000, 0)
}

func TestPutThatDoesntFit(t *testing.T) {
	for _, ask := range []api.Resources{{CPU: 401}, {Mem: 301}, {CPU: 401, Mem: 301}, {CPU: math.MaxInt64}, {Mem: math.MaxInt64}} {
		p := comes()
		p.Ask = ask
		wantNoPut(t, rich(), p)
	}
	closed, p := rich(), comes()
	closed.Node.Closed = true
	wantNoPut(t, closed, p)
	p.Select[0].Value = "b"
	wantNoPut(t, rich(), p)
	p = comes()
	p.Tolerate = nil
	wantNoPut(t, rich(), p)
	wantNoPut(t, Room{}, asks(1, 0))
}

// TestPutOfAnyNumbers: it is put just if it fits; what is used then is exact, or the
// end of its type that it is beyond.
func TestPutOfAnyNumbers(t *testing.T) {
	for _, size := range ends {
		for _, of := range ends {
			for _, ask := range ends {
				r := used(api.Resources{CPU: size, Mem: 5}, api.Resources{CPU: of, Mem: 2})
				s := used(api.Resources{CPU: 5, Mem: size}, api.Resources{CPU: 2, Mem: of})
				if r.Fits(asks(ask, 1)) {
					wantPut(t, r, asks(ask, 1), plus(of, ask), 3)
					wantPut(t, s, asks(1, ask), 3, plus(of, ask))
				} else {
					wantNoPut(t, r, asks(ask, 1))
					wantNoPut(t, s, asks(1, ask))
				}
			}
		}
	}
}

// TestPutOfAnyPods: one more than there were, but no more than a number holds.
func TestPutOfAnyPods(t *testing.T) {
	for pods, want := range map[int]int{math.MinInt: math.MinInt + 1, -2: -1, -1: 0, 0: 1, 1: 2, 1 << 31: 1<<31 + 1,
		math.MaxInt - 2: math.MaxInt - 1, math.MaxInt - 1: math.MaxInt, math.MaxInt: math.MaxInt} {
		r := rich()
		r.Pods = pods
		got, _ := r.Put(comes())
		same(t, got.Pods, want)
	}
}

// wantTake wants the room with so much used, and so many pods.
func wantTake(t *testing.T, r Room, p api.Pod, cpu, mem api.Milli, pods int) {
	t.Helper()
	want := r
	want.Used, want.Pods = api.Resources{CPU: cpu, Mem: mem}, pods
	same(t, r.Take(p), want)
}

func TestTake(t *testing.T) {
	r := rich()
	wantTake(t, r, comes(), 300, 150, 2)
	wantTake(t, r, api.Pod{}, 600, 200, 2)
	wantTake(t, r, asks(600, 200), 0, 0, 2)

	// at least 0 each, each by itself
	wantTake(t, r, asks(601, 10), 0, 190, 2)
	wantTake(t, r, asks(10, 201), 590, 0, 2)
	wantTake(t, r, asks(math.MaxInt64, math.MaxInt64), 0, 0, 2)
	wantTake(t, Room{}, asks(5, 5), 0, 0, 0)

	// it needn't fit, nor need it be there
	closed := rich()
	closed.Node.Closed = true
	wantTake(t, closed, comes(), 300, 150, 2)
	wantTake(t, r, asks(300, 50), 300, 150, 2) // it tolerates nothing
	over := used(api.Resources{CPU: 10, Mem: 10}, api.Resources{CPU: 100, Mem: 100})
	wantTake(t, over, asks(30, 40), 70, 60, 2)
}

func TestTakeOfAnyPods(t *testing.T) {
	for pods, want := range map[int]int{math.MinInt: 0, math.MinInt + 1: 0, -2: 0, -1: 0, 0: 0, 1: 0, 2: 1, 3: 2,
		1 << 31: 1<<31 - 1, math.MaxInt: math.MaxInt - 1} {
		r := rich()
		r.Pods = pods
		wantTake(t, r, comes(), 300, 150, want)
	}
}

func TestTakeOfAnyNumbers(t *testing.T) {
	for _, of := range ends {
		for _, ask := range ends {
			want := max(minus(of, ask), 0)
			wantTake(t, used(api.Resources{}, api.Resources{CPU: of, Mem: 7}), asks(ask, 3), want, 4, 2)
			wantTake(t, used(api.Resources{}, api.Resources{CPU: 7, Mem: of}), asks(3, ask), 4, want, 2)
		}
	}
}

// P17.1 Share

func TestShareTable(t *testing.T) {
	for _, c := range []struct {
		size, used api.Resources
		want       int
	}{
		{api.Resources{CPU: 1000}, api.Resources{CPU: 600}, 600},
		{api.Resources{CPU: 1000}, api.Resources{}, 0},
		{api.Resources{CPU: 1000}, api.Resources{CPU: 1000}, 1000},

		// rounded down
		{api.Resources{CPU: 3}, api.Resources{CPU: 1}, 333},
		{api.Resources{CPU: 3}, api.Resources{CPU: 2}, 666},
		{api.Resources{CPU: 1001}, api.Resources{CPU: 1}, 0},
		{api.Resources{CPU: 1001}, api.Resources{CPU: 1000}, 999},
		{api.Resources{CPU: 1, Mem: 3}, api.Resources{Mem: 2}, 666},

		// the greater one
		{api.Resources{CPU: 1000, Mem: 500}, api.Resources{CPU: 300, Mem: 400}, 800},
		{api.Resources{CPU: 1000, Mem: 500}, api.Resources{CPU: 900, Mem: 400}, 900},
		{api.Resources{CPU: 1000, Mem: 500}, api.Resources{CPU: 800, Mem: 400}, 800},
		{api.Resources{CPU: 1000, Mem: 500}, api.Resources{Mem: 1}, 2},
		{api.Resources{CPU: 1000, Mem: 500}, api.Resources{CPU: 1}, 1},

		// at most 1000
		{api.Resources{CPU: 1000}, api.Resources{CPU: 1001}, 1000},
		{api.Resources{CPU: 1000}, api.Resources{CPU: 5000}, 1000},
		{api.Resources{CPU: 1000, Mem: 500}, api.Resources{CPU: 10, Mem: 501}, 1000},
		{api.Resources{CPU: 1000, Mem: 500}, api.Resources{CPU: 1001, Mem: 10}, 1000},
		{api.Resources{CPU: 1000, Mem: 500}, api.Resources{CPU: 2000, Mem: 5000}, 1000},

		// of Mem 0 that of CPU, whatever is used of it
		{api.Resources{CPU: 1000}, api.Resources{CPU: 10, Mem: 1}, 10},
		{api.Resources{CPU: 1000}, api.Resources{CPU: 10, Mem: api.MaxMilli}, 10},

		// of CPU 0, which no node may have, nothing, or all
		{api.Resources{}, api.Resources{}, 0},
		{api.Resources{}, api.Resources{CPU: 1}, 1000},
		{api.Resources{Mem: 500}, api.Resources{Mem: 100}, 200},

		{api.Resources{CPU: api.MaxMilli, Mem: api.MaxMilli}, api.Resources{CPU: 1}, 0},
		{api.Resources{CPU: api.MaxMilli, Mem: api.MaxMilli}, api.Resources{CPU: api.MaxMilli / 2}, 500},
		{api.Resources{CPU: api.MaxMilli, Mem: api.MaxMilli}, api.Resources{CPU: api.MaxMilli/2 - 1, Mem: api.MaxMilli - 1}, 999},
		{api.Resources{CPU: api.MaxMilli, Mem: api.MaxMilli}, api.Resources{CPU: api.MaxMilli}, 1000},
	} {
		if got := used(c.size, c.used).Share(); got != c.want {
			t.Errorf("Share of %+v in %+v: %d, want %d", c.used, c.size, got, c.want)
		}
	}
}

// shared is how much of a size is used, worked out without a bound, 0 to 1000.
func shared(of, size api.Milli) int {
	switch {
	case of <= 0:
		return 0
	case of >= size:
		return 1000
	}
	x := new(big.Int).Mul(whole(of), big.NewInt(1000))
	return int(x.Div(x, whole(size)).Int64())
}

// TestShareOfAnyNumbers: also of sizes that are no quantities.
func TestShareOfAnyNumbers(t *testing.T) {
	for _, size := range ends {
		for _, of := range ends {
			want := shared(of, size)
			for _, m := range []api.Milli{0, 300, 1000} {
				r := used(api.Resources{CPU: size, Mem: 1000}, api.Resources{CPU: of, Mem: m})
				same(t, r.Share(), max(want, int(m)))
				r = used(api.Resources{CPU: 1000, Mem: size}, api.Resources{CPU: m, Mem: of})
				if size == 0 {
					same(t, r.Share(), int(m))
				} else {
					same(t, r.Share(), max(want, int(m)))
				}
			}
			same(t, cpu(size, of).Share(), want)
		}
	}
}

// TestShareOfEach: at each thousandth, and one less.
func TestShareOfEach(t *testing.T) {
	for _, size := range []api.Milli{1000, 2000, 8000, 1 << 50 / 1000 * 1000} {
		for n := range api.Milli(1001) {
			same(t, cpu(size, size/1000*n).Share(), int(n))
			same(t, mem(size, size/1000*n).Share(), int(n))
			if n > 0 {
				same(t, cpu(size, size/1000*n-1).Share(), int(n-1))
				same(t, mem(size, size/1000*n-1).Share(), int(n-1))
			}
		}
	}
}

// TestShareIsOfUse: it hangs on nothing but size and what is used.
func TestShareIsOfUse(t *testing.T) {
	r := rich()
	same(t, r.Share(), 600)
	r.Name, r.Pods, r.Node.Closed, r.Node.Labels, r.Node.Taints = "", -1, true, nil, nil
	same(t, r.Share(), 600)
}

// P17.2

func TestPutAndTake(t *testing.T) {
	r := rich()
	put, ok := r.Put(comes())
	same(t, ok, true)
	same(t, put.Take(comes()), r)
	for _, size := range ends {
		for _, of := range ends {
			for _, ask := range ends {
				for _, x := range []struct {
					r Room
					p api.Pod
				}{
					{used(api.Resources{CPU: size, Mem: 5}, api.Resources{CPU: of, Mem: 2}), asks(ask, 3)},
					{used(api.Resources{CPU: 5, Mem: size}, api.Resources{CPU: 2, Mem: of}), asks(3, ask)},
				} {
					put, ok := x.r.Put(x.p)
					if ok && of >= 0 {
						same(t, put.Take(x.p), x.r)
					}
				}
			}
		}
	}
}

// TestPutAndTakeOfAny: also of some, and in another order.
func TestPutAndTakeOfAny(t *testing.T) {
	chance := rand.New(rand.NewSource(3))
	for range 2000 {
		n := node("n1", api.Milli(chance.Intn(1000)), api.Milli(chance.Intn(1000)))
		were := []api.Object{on("n1", api.Bound, api.Milli(chance.Intn(600)), api.Milli(chance.Intn(600)))}
		r := Rooms([]api.Object{n}, were)[0]
		now, in := r, []api.Pod(nil)
		for range chance.Intn(6) {
			p := asks(api.Milli(chance.Intn(300)), api.Milli(chance.Intn(300)))
			put, ok := now.Put(p)
			if ok {
				same(t, put.Take(p), now)
				were = append(were, on("n1", api.Ready, p.Ask.CPU, p.Ask.Mem))
				now, in = put, append(in, p)
			}
		}
		same(t, Rooms([]api.Object{n}, were)[0], now)
		chance.Shuffle(len(in), func(i, j int) { in[i], in[j] = in[j], in[i] })
		for _, p := range in {
			now = now.Take(p)
		}
		same(t, now, r)
	}
}

// riches is a row of nodes and a row of pods, with spare room that has something in
// it; each time the same in memory of its own.
func riches() (nodes, pods []api.Object) {
	n := func(name string) api.Object { return api.Object{Kind: api.KindNode, Name: name, Node: rich().Node} }
	p := func(name, on string) api.Object {
		o := api.Object{Kind: api.KindPod, Name: name, Pod: comes()}
		o.Pod.Node = on
		return o
	}
	nodes = row(n("spare"), n("n2"), p("p0", "n1"), n("n1"), n("n0"))
	pods = row(p("spare", "n1"), p("p2", "n2"), p("p1", "n1"), n("n3"), p("p0", "n1"))
	return nodes, pods
}

// all is all of a row, and of its rows, with all spare room.
func all(l []api.Object) []api.Object {
	l = slices.Clone(l[:cap(l)])
	for i := range l {
		o := &l[i]
		for _, r := range []*[]api.Label{&o.Pod.Labels, &o.Pod.Tolerate, &o.Node.Labels, &o.Node.Taints} {
			*r = (*r)[:cap(*r)]
		}
		o.Pod.Select = o.Pod.Select[:cap(o.Pod.Select)]
	}
	return l
}

// TestNothingIsChanged: what is handed in stays, its spare room too.
func TestNothingIsChanged(t *testing.T) {
	nodes, pods := riches()
	was, wasPods := riches()
	for _, r := range Rooms(nodes, pods) {
		kept := r
		for _, o := range pods {
			r.Left()
			r.Share()
			r.May(o.Pod)
			same(t, r.Fits(o.Pod), o.Kind == api.KindPod) // what is no pod tolerates nothing
			put, _ := r.Put(o.Pod)
			put.Take(o.Pod)
			r.Take(o.Pod)
			same(t, r, kept)
		}
	}
	same(t, all(nodes), all(was))
	same(t, all(pods), all(wasPods))
	same(t, len(Rooms(nodes[:0], pods)), 0) // all of it is spare
	same(t, Rooms(nodes[2:3], pods[:0])[0].Pods, 0)
	same(t, all(nodes), all(was))
	same(t, all(pods), all(wasPods))
}

// TestRoomsAreTheirOwn: what is done to the rows that were handed in, or to an
// answer, changes no other answer, and nothing that is answered then.
func TestRoomsAreTheirOwn(t *testing.T) {
	nodes, pods := riches()
	first, second := Rooms(nodes, pods), Rooms(nodes, pods)
	for i := range first[:cap(first)] {
		first[:cap(first)][i] = Room{Name: "smudged"}
	}
	same(t, Rooms(nodes, pods), second)
	for _, l := range [][]api.Object{nodes, pods} {
		for i := range l[:cap(l)] {
			l[:cap(l)][i] = api.Object{Kind: api.KindNode, Name: "smudged"}
		}
	}
	was, wasPods := riches()
	same(t, second, Rooms(was, wasPods))
	same(t, second[1].Used, api.Resources{CPU: 600, Mem: 100})
	same(t, second[1].Pods, 2)
}

// TestLabelsAreShared: answers share labels with what is handed in.
func TestLabelsAreShared(t *testing.T) {
	nodes, pods := riches()
	r := Rooms(nodes, pods)[2]
	put, ok := r.Put(comes())
	same(t, ok, true)
	for _, told := range []Room{r, put, put.Take(comes())} {
		same(t, &told.Node.Labels[0] == &nodes[0].Node.Labels[0], true)
		same(t, &told.Node.Taints[0] == &nodes[0].Node.Taints[0], true)
	}
}
