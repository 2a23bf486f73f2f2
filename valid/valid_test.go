package valid

import (
	"math"
	"math/rand"
	"reflect"
	"slices"
	"strings"
	"testing"

	"trimtab/api"
)

// names are names, noNames are none (nor empty).
var (
	names   = []string{"a", "0", "web-1", "a--b", strings.Repeat("a", 32)}
	noNames = []string{"-", "-a", "a-", "A", "a b", "a.b", "ä", "a\x00", " ", strings.Repeat("a", 33), strings.Repeat("a", 1000)}
)

// noKinds are numbers that are no kind.
var noKinds = []int{math.MinInt, -256, -1, 5, 6, 255, 256, 1 << 32, math.MaxInt}

func workloadObject() api.Object {
	return api.Object{Kind: api.KindWorkload, Name: "web", Version: 7, Workload: api.Workload{
		Replicas: 3, Ask: api.Resources{CPU: 500, Mem: 64000},
		Labels:   []api.Label{{Key: "app", Value: "web"}, {Key: "tier"}},
		Select:   []api.Require{{Key: "zone", Value: "a", Op: api.Is}, {Key: "disk", Op: api.There}},
		Tolerate: []api.Label{{Key: "gpu"}, {Key: "team", Value: "x"}}, Warm: 5}}
}

func podObject() api.Object {
	w := workloadObject().Workload
	return api.Object{Kind: api.KindPod, Name: "web-0000", Version: 8, Pod: api.Pod{
		Owner: "web", Node: "n1", Phase: api.Bound, Since: 12, Ask: w.Ask,
		Labels: w.Labels, Select: w.Select, Tolerate: w.Tolerate, Warm: w.Warm}}
}

func nodeObject() api.Object {
	return api.Object{Kind: api.KindNode, Name: "n1", Version: 9, Node: api.Node{
		Group: "big", Size: api.Resources{CPU: 4000, Mem: 8000000},
		Labels: []api.Label{{Key: "disk", Value: "ssd"}, {Key: "zone", Value: "a"}},
		Taints: []api.Label{{Key: "gpu"}, {Key: "team", Value: "x"}}, Since: 3, Closed: true}}
}

func groupObject() api.Object {
	n := nodeObject().Node
	return api.Object{Kind: api.KindGroup, Name: "big", Version: 10, Group: api.Group{
		Min: 2, Max: 10, Target: 4, Size: n.Size, Labels: n.Labels, Taints: n.Taints, Priority: 50}}
}

func hpaObject() api.Object {
	return api.Object{Kind: api.KindHpa, Name: "h", Version: 11, Hpa: api.Hpa{
		Target: "web", Min: 2, Max: 9,
		Metrics:   []api.Metric{{Kind: api.ByResource, Name: "cpu", Target: 600}, {Kind: api.ByPods, Name: "rps", Target: 1000}},
		Tolerance: 100,
		Up:        api.Behavior{Window: 10, Pick: api.PickMin, Policies: []api.Policy{{Percent: true, Value: 500, Period: 30}, {Value: 2, Period: 60}}},
		Down:      api.Behavior{Window: 300, Pick: api.PickMax, Policies: []api.Policy{{Value: 1, Period: 60}, {Percent: true, Value: 100, Period: 20}}},
		Past:      []api.Scaled{{At: 5, From: 2, To: 4}, {At: 9, From: 4, To: 3}}}}
}

// full is one of each kind, all of whose fields are set, and that may be.
func full() []api.Object {
	return []api.Object{workloadObject(), podObject(), nodeObject(), groupObject(), hpaObject()}
}

// least is one of each kind with as little as it may have.
func least() []api.Object {
	ask := api.Resources{CPU: 1}
	return []api.Object{
		{Kind: api.KindWorkload, Name: "a", Workload: api.Workload{Ask: ask}},
		{Kind: api.KindPod, Name: "a", Pod: api.Pod{Owner: "a", Ask: ask}},
		{Kind: api.KindNode, Name: "a", Node: api.Node{Size: ask}},
		{Kind: api.KindGroup, Name: "a", Group: api.Group{Size: ask}},
		{Kind: api.KindHpa, Name: "a", Hpa: api.Hpa{Target: "a", Min: 1, Max: 1, Metrics: []api.Metric{{Kind: api.ByPods, Name: "a", Target: 1}}}},
	}
}

// shape is the shape of a kind.
func shape(o *api.Object, kind int) reflect.Value { return reflect.ValueOf(o).Elem().Field(3 + kind) }

func want(t *testing.T, o api.Object, e api.Errno) {
	t.Helper()
	if got := Check(o); got != e {
		t.Errorf("Check(%+v) = %d, want %d", o, got, e)
	}
}

// form wants ErrForm, or OK where it is right.
func form(t *testing.T, o api.Object, right bool) {
	t.Helper()
	if right {
		want(t, o, api.OK)
	} else {
		want(t, o, api.ErrForm)
	}
}

// P7.1, Check

func TestCheckOK(t *testing.T) {
	for _, o := range slices.Concat(full(), least()) {
		want(t, o, api.OK)
	}
}

func TestCheckAnyVersion(t *testing.T) {
	for _, o := range full() {
		for _, v := range []uint64{0, 1, 1 << 63, math.MaxUint64} {
			o.Version = v
			want(t, o, api.OK)
		}
	}
}

func TestCheckExample(t *testing.T) {
	want(t, api.Object{Kind: api.KindNode, Name: "n1"}, api.ErrForm)
}

func TestCheckKind(t *testing.T) {
	for _, kind := range noKinds {
		for _, o := range full() {
			o.Kind = kind
			want(t, o, api.ErrKind)
		}
		// ErrKind comes ahead of ErrName and ErrForm
		want(t, api.Object{Kind: kind}, api.ErrKind)
		want(t, api.Object{Kind: kind, Name: "n1"}, api.ErrKind)
	}
}

func TestCheckName(t *testing.T) {
	for _, o := range full() {
		for _, s := range names {
			o.Name = s
			want(t, o, api.OK)
		}
		for _, s := range append([]string{""}, noNames...) {
			o.Name = s
			want(t, o, api.ErrName)
			// ErrName comes ahead of ErrForm
			want(t, api.Object{Kind: o.Kind, Name: s}, api.ErrName)
		}
	}
}

// TestCheckNothing is of shapes that have nothing: none may be.
func TestCheckNothing(t *testing.T) {
	for kind := range api.Kinds {
		want(t, api.Object{Kind: kind, Name: "a"}, api.ErrForm)
	}
}

// TestCheckOtherKind is of objects under the kind of another.
func TestCheckOtherKind(t *testing.T) {
	for _, o := range full() {
		own := o.Kind
		for kind := range api.Kinds {
			o.Kind = kind
			form(t, o, kind == own)
		}
	}
}

// leaves are the fields of a shape, and of shapes within it.
func leaves(v reflect.Value) []reflect.Value {
	if v.Kind() != reflect.Struct {
		return []reflect.Value{v}
	}
	var l []reflect.Value
	for i := range v.NumField() {
		l = append(l, leaves(v.Field(i))...)
	}
	return l
}

// TestCheckOtherShapes sets each field of each other shape, one at a time.
func TestCheckOtherShapes(t *testing.T) {
	set := 0
	for kind, o := range full() {
		for other := range api.Kinds {
			if other == kind {
				continue
			}
			for i := range leaves(shape(&o, other)) {
				c := o
				x := leaves(shape(&c, other))[i]
				switch x.Kind() {
				case reflect.Bool:
					x.SetBool(true)
				case reflect.String:
					x.SetString("a")
				case reflect.Slice:
					// nil and empty lists are the same
					x.Set(reflect.MakeSlice(x.Type(), 0, 2))
					want(t, c, api.OK)
					x.Set(reflect.MakeSlice(x.Type(), 1, 2))
				default:
					for _, n := range []int64{-1, math.MinInt64, 1} {
						x.SetInt(n)
						want(t, c, api.ErrForm)
					}
				}
				want(t, c, api.ErrForm)
				set++
			}
		}
	}
	// 7 fields of a Workload, 10 of a Pod, 7 of a Node, 8 of a Group, 12 of an
	// Hpa, each of them in the four other kinds
	if set != 4*(7+10+7+8+12) {
		t.Errorf("%d fields set", set)
	}
}

// bound is a field with its bounds.
type bound struct {
	what        string
	kind        int
	set         func(o *api.Object, x int64)
	least, most int64
}

const most = api.MaxMilli

var bounds = []bound{
	{"Replicas", api.KindWorkload, func(o *api.Object, x int64) { o.Workload.Replicas = int(x) }, 0, 1000000},
	{"Ask.CPU", api.KindWorkload, func(o *api.Object, x int64) { o.Workload.Ask.CPU = api.Milli(x) }, 1, most},
	{"Ask.Mem", api.KindWorkload, func(o *api.Object, x int64) { o.Workload.Ask.Mem = api.Milli(x) }, 0, most},
	{"Warm", api.KindWorkload, func(o *api.Object, x int64) { o.Workload.Warm = int(x) }, 0, 1800},
	{"Select.Op", api.KindWorkload, func(o *api.Object, x int64) { o.Workload.Select[1].Op = int(x) }, 0, 3},

	{"Phase with a Node", api.KindPod, func(o *api.Object, x int64) { o.Pod.Phase = int(x) }, api.Bound, api.Failed},
	{"Since", api.KindPod, func(o *api.Object, x int64) { o.Pod.Since = x }, 0, 1 << 62},
	{"Ask.CPU", api.KindPod, func(o *api.Object, x int64) { o.Pod.Ask.CPU = api.Milli(x) }, 1, most},
	{"Ask.Mem", api.KindPod, func(o *api.Object, x int64) { o.Pod.Ask.Mem = api.Milli(x) }, 0, most},
	{"Warm", api.KindPod, func(o *api.Object, x int64) { o.Pod.Warm = int(x) }, 0, 1800},
	{"Select.Op", api.KindPod, func(o *api.Object, x int64) { o.Pod.Select[1].Op = int(x) }, 0, 3},

	{"Size.CPU", api.KindNode, func(o *api.Object, x int64) { o.Node.Size.CPU = api.Milli(x) }, 1, most},
	{"Size.Mem", api.KindNode, func(o *api.Object, x int64) { o.Node.Size.Mem = api.Milli(x) }, 0, most},
	{"Since", api.KindNode, func(o *api.Object, x int64) { o.Node.Since = x }, 0, 1 << 62},

	{"Min", api.KindGroup, func(o *api.Object, x int64) { o.Group.Min = int(x) }, 0, 4},
	{"Max", api.KindGroup, func(o *api.Object, x int64) { o.Group.Max = int(x) }, 4, 64},
	{"Target", api.KindGroup, func(o *api.Object, x int64) { o.Group.Target = int(x) }, 2, 10},
	{"all three", api.KindGroup, func(o *api.Object, x int64) { o.Group.Min, o.Group.Max, o.Group.Target = int(x), int(x), int(x) }, 0, 64},
	{"Size.CPU", api.KindGroup, func(o *api.Object, x int64) { o.Group.Size.CPU = api.Milli(x) }, 1, most},
	{"Size.Mem", api.KindGroup, func(o *api.Object, x int64) { o.Group.Size.Mem = api.Milli(x) }, 0, most},
	{"Priority", api.KindGroup, func(o *api.Object, x int64) { o.Group.Priority = int(x) }, 0, 1000},

	{"Min", api.KindHpa, func(o *api.Object, x int64) { o.Hpa.Min = int(x) }, 1, 9},
	{"Max", api.KindHpa, func(o *api.Object, x int64) { o.Hpa.Max = int(x) }, 2, 1000000},
	{"both", api.KindHpa, func(o *api.Object, x int64) { o.Hpa.Min, o.Hpa.Max = int(x), int(x) }, 1, 1000000},
	{"Metrics.Kind", api.KindHpa, func(o *api.Object, x int64) { o.Hpa.Metrics[1].Kind, o.Hpa.Metrics[1].Name = int(x), "cpu" }, 0, 3},
	{"Metrics.Kind, Name rps", api.KindHpa, func(o *api.Object, x int64) { o.Hpa.Metrics[1].Kind = int(x) }, 1, 3},
	{"Metrics.Target", api.KindHpa, func(o *api.Object, x int64) { o.Hpa.Metrics[0].Target = api.Milli(x) }, 1, most},
	{"Metrics.Target", api.KindHpa, func(o *api.Object, x int64) { o.Hpa.Metrics[1].Target = api.Milli(x) }, 1, most},
	{"Tolerance", api.KindHpa, func(o *api.Object, x int64) { o.Hpa.Tolerance = int(x) }, 0, 1000},
	{"Up.Window", api.KindHpa, func(o *api.Object, x int64) { o.Hpa.Up.Window = int(x) }, 0, 1800},
	{"Up.Pick", api.KindHpa, func(o *api.Object, x int64) { o.Hpa.Up.Pick = int(x) }, 0, 2},
	{"Up.Value", api.KindHpa, func(o *api.Object, x int64) { o.Hpa.Up.Policies[0].Value = int(x) }, 1, 1000000},
	{"Up.Value", api.KindHpa, func(o *api.Object, x int64) { o.Hpa.Up.Policies[1].Value = int(x) }, 1, 1000000},
	{"Up.Period", api.KindHpa, func(o *api.Object, x int64) { o.Hpa.Up.Policies[0].Period = int(x) }, 1, 1800},
	{"Up.Period", api.KindHpa, func(o *api.Object, x int64) { o.Hpa.Up.Policies[1].Period = int(x) }, 1, 1800},
	{"Down.Window", api.KindHpa, func(o *api.Object, x int64) { o.Hpa.Down.Window = int(x) }, 0, 1800},
	{"Down.Pick", api.KindHpa, func(o *api.Object, x int64) { o.Hpa.Down.Pick = int(x) }, 0, 2},
	{"Down.Value", api.KindHpa, func(o *api.Object, x int64) { o.Hpa.Down.Policies[0].Value = int(x) }, 1, 1000000},
	{"Down.Value", api.KindHpa, func(o *api.Object, x int64) { o.Hpa.Down.Policies[1].Value = int(x) }, 1, 1000000},
	{"Down.Period", api.KindHpa, func(o *api.Object, x int64) { o.Hpa.Down.Policies[0].Period = int(x) }, 1, 1800},
	{"Down.Period", api.KindHpa, func(o *api.Object, x int64) { o.Hpa.Down.Policies[1].Period = int(x) }, 1, 1800},
	{"the first At", api.KindHpa, func(o *api.Object, x int64) { o.Hpa.Past[0].At = x }, 0, 9},
	{"the last At", api.KindHpa, func(o *api.Object, x int64) { o.Hpa.Past[1].At = x }, 5, 1 << 62},
	{"each At", api.KindHpa, func(o *api.Object, x int64) { o.Hpa.Past[0].At, o.Hpa.Past[1].At = x, x }, 0, 1 << 62},
	{"From", api.KindHpa, func(o *api.Object, x int64) { o.Hpa.Past[0].From = int(x) }, 0, 1000000},
	{"From", api.KindHpa, func(o *api.Object, x int64) { o.Hpa.Past[1].From = int(x) }, 0, 1000000},
	{"To", api.KindHpa, func(o *api.Object, x int64) { o.Hpa.Past[0].To = int(x) }, 0, 1000000},
	{"To", api.KindHpa, func(o *api.Object, x int64) { o.Hpa.Past[1].To = int(x) }, 0, 1000000},
}

// of is a full object of a kind, that shares nothing with others.
func of(kind int) api.Object { return full()[kind] }

func TestCheckBounds(t *testing.T) {
	for _, b := range bounds {
		xs := []int64{math.MinInt64, math.MinInt32, -1000, -1, 0, 1, 2, 3, 4, 5, 100, 1 << 32, 1<<62 + 1, math.MaxInt64}
		xs = append(xs, b.least-1, b.least, b.least+1, b.most-1, b.most, b.most+1)
		for _, x := range xs {
			o := of(b.kind)
			b.set(&o, x)
			e := api.ErrForm
			if b.least <= x && x <= b.most {
				e = api.OK
			}
			if got := Check(o); got != e {
				t.Errorf("kind %d, %s %d: %d, want %d", b.kind, b.what, x, got, e)
			}
		}
	}
}

// field is a field that is a text.
type field struct {
	what  string
	kind  int
	at    func(o *api.Object) *string
	empty bool // it may be empty
}

var fields = []field{
	{"Owner", api.KindPod, func(o *api.Object) *string { return &o.Pod.Owner }, false},
	{"Node", api.KindPod, func(o *api.Object) *string { return &o.Pod.Node }, false}, // a Bound one has a Node
	{"Group", api.KindNode, func(o *api.Object) *string { return &o.Node.Group }, true},
	{"Target", api.KindHpa, func(o *api.Object) *string { return &o.Hpa.Target }, false},
	{"Metrics.Name", api.KindHpa, func(o *api.Object) *string { return &o.Hpa.Metrics[1].Name }, false},
}

func TestCheckTexts(t *testing.T) {
	for _, f := range fields {
		o := of(f.kind)
		s := f.at(&o)
		for _, *s = range names {
			want(t, o, api.OK)
		}
		for _, *s = range noNames {
			want(t, o, api.ErrForm)
		}
		*s = ""
		form(t, o, f.empty)
	}
}

// TestCheckPhase goes through all phases, and more, with and without a node.
func TestCheckPhase(t *testing.T) {
	for _, o := range []api.Object{full()[api.KindPod], least()[api.KindPod]} {
		for phase := -3; phase < 8; phase++ {
			o.Pod.Phase = phase
			o.Pod.Node = ""
			form(t, o, phase == api.Pending || phase == api.Failed)
			o.Pod.Node = "n1"
			form(t, o, phase == api.Bound || phase == api.Ready || phase == api.Failed)
			o.Pod.Node = "N1"
			want(t, o, api.ErrForm)
		}
	}
}

// rows are the fields that are labels.
var rows = []struct {
	kind int
	at   func(o *api.Object) *[]api.Label
}{
	{api.KindWorkload, func(o *api.Object) *[]api.Label { return &o.Workload.Labels }},
	{api.KindWorkload, func(o *api.Object) *[]api.Label { return &o.Workload.Tolerate }},
	{api.KindPod, func(o *api.Object) *[]api.Label { return &o.Pod.Labels }},
	{api.KindPod, func(o *api.Object) *[]api.Label { return &o.Pod.Tolerate }},
	{api.KindNode, func(o *api.Object) *[]api.Label { return &o.Node.Labels }},
	{api.KindNode, func(o *api.Object) *[]api.Label { return &o.Node.Taints }},
	{api.KindGroup, func(o *api.Object) *[]api.Label { return &o.Group.Labels }},
	{api.KindGroup, func(o *api.Object) *[]api.Label { return &o.Group.Taints }},
}

// rising is n labels whose keys rise.
func rising(n int) []api.Label {
	l := []api.Label{}
	for i := range n {
		l = append(l, api.Label{Key: "k" + string(rune('a'+i)), Value: "v"})
	}
	return l
}

func TestCheckLabels(t *testing.T) {
	for _, r := range rows {
		for _, c := range []struct {
			l     []api.Label
			right bool
		}{
			{nil, true}, {rising(0), true}, {rising(1), true}, {rising(8), true}, {rising(9), false}, {rising(20), false},
			{[]api.Label{{Key: "a"}, {Key: "b"}}, true},
			{[]api.Label{{Key: "b"}, {Key: "a"}}, false},
			{[]api.Label{{Key: "a"}, {Key: "a", Value: "x"}}, false},
			{[]api.Label{{Key: "", Value: "x"}}, false},
			{[]api.Label{{Key: "A", Value: "x"}}, false},
			{[]api.Label{{Key: "a", Value: "X"}}, false},
			{[]api.Label{{Key: "a", Value: "x"}, {Key: "b", Value: "-"}}, false},
		} {
			o := of(r.kind)
			*r.at(&o) = c.l
			form(t, o, c.right)
		}
	}
}

func TestCheckSelect(t *testing.T) {
	many := func(n int) []api.Require { return slices.Repeat([]api.Require{{Key: "a", Op: api.Is}}, n) }
	for _, c := range []struct {
		l     []api.Require
		right bool
	}{
		{nil, true}, {many(0), true}, {many(1), true}, {many(8), true}, {many(9), false}, {many(20), false},
		{[]api.Require{{Key: "b", Value: "x", Op: api.Isnt}, {Key: "a", Op: api.Absent}}, true},
		{[]api.Require{{Key: "", Value: "x"}}, false},
		{[]api.Require{{Key: "a-", Value: "x"}}, false},
		{[]api.Require{{Key: "a", Value: "X"}}, false},
		{[]api.Require{{Key: "a", Value: "x", Op: api.There}}, false},
		{[]api.Require{{Key: "a", Value: "x", Op: api.Absent}}, false},
		{[]api.Require{{Key: "a", Op: api.Is}, {Key: "a", Op: 4}}, false},
	} {
		o := of(api.KindWorkload)
		o.Workload.Select = c.l
		form(t, o, c.right)
		o = of(api.KindPod)
		o.Pod.Select = c.l
		form(t, o, c.right)
	}
}

// TestCheckResource: by a Resource there is cpu and mem alone, by others any name.
func TestCheckResource(t *testing.T) {
	for i := range 2 {
		for kind := -1; kind < 5; kind++ {
			for _, name := range []string{"cpu", "mem", "disk", "cp", "cpux", "cpu-", "CPU", "Mem", "", "rps"} {
				o := of(api.KindHpa)
				o.Hpa.Metrics[i] = api.Metric{Kind: kind, Name: name, Target: 1}
				right := slices.Contains([]string{"cpu", "mem"}, name)
				if kind != api.ByResource {
					right = slices.Contains([]string{"cpu", "mem", "disk", "cp", "cpux", "rps"}, name)
				}
				form(t, o, right && 0 <= kind && kind <= 3)
			}
		}
	}
}

// TestCheckCounts is of rows of an Hpa, that may have so few to so many.
func TestCheckCounts(t *testing.T) {
	for n := range 70 {
		o := of(api.KindHpa)
		o.Hpa.Metrics = slices.Repeat(o.Hpa.Metrics[:1], n)
		form(t, o, 1 <= n && n <= 4)
		o = of(api.KindHpa)
		o.Hpa.Up.Policies = slices.Repeat(o.Hpa.Up.Policies[:1], n)
		form(t, o, n <= 4)
		o = of(api.KindHpa)
		o.Hpa.Down.Policies = slices.Repeat(o.Hpa.Down.Policies[:1], n)
		form(t, o, n <= 4)
		o = of(api.KindHpa)
		o.Hpa.Past = slices.Repeat(o.Hpa.Past[:1], n)
		form(t, o, n <= 32)
	}
	o := of(api.KindHpa)
	o.Hpa.Metrics = nil
	want(t, o, api.ErrForm)
	o = of(api.KindHpa)
	o.Hpa.Past, o.Hpa.Up.Policies, o.Hpa.Down.Policies = nil, nil, nil
	want(t, o, api.OK)
}

// TestCheckEachOfARow spoils each one of full rows.
func TestCheckEachOfARow(t *testing.T) {
	rowsFull := func() api.Object {
		o := of(api.KindHpa)
		o.Hpa.Metrics = slices.Repeat(o.Hpa.Metrics[1:], 4)
		o.Hpa.Up.Policies = slices.Repeat(o.Hpa.Up.Policies[1:], 4)
		o.Hpa.Down.Policies = slices.Repeat(o.Hpa.Down.Policies[1:], 4)
		o.Hpa.Past = slices.Repeat(o.Hpa.Past[1:], 32)
		return o
	}
	want(t, rowsFull(), api.OK)
	for i := range 4 {
		for _, spoil := range []func(h *api.Hpa){
			func(h *api.Hpa) { h.Metrics[i] = api.Metric{} },
			func(h *api.Hpa) { h.Metrics[i].Target = 0 },
			func(h *api.Hpa) { h.Up.Policies[i] = api.Policy{} },
			func(h *api.Hpa) { h.Up.Policies[i].Period = 1801 },
			func(h *api.Hpa) { h.Down.Policies[i] = api.Policy{} },
			func(h *api.Hpa) { h.Down.Policies[i].Value = -1 },
		} {
			o := rowsFull()
			spoil(&o.Hpa)
			want(t, o, api.ErrForm)
		}
	}
	for i := range 32 {
		for _, by := range []int64{-1, 1} {
			o := rowsFull()
			o.Hpa.Past[i].At += by
			// the first one may be lower, the last one higher
			form(t, o, by < 0 && i == 0 || by > 0 && i == 31)
		}
		o := rowsFull()
		o.Hpa.Past[i].To = -1
		want(t, o, api.ErrForm)
	}
}

// TestCheckPast: ticks may stand still, but never fall, whatever stands further ahead.
func TestCheckPast(t *testing.T) {
	for _, c := range []struct {
		at    []int64
		right bool
	}{
		{nil, true}, {[]int64{0}, true}, {[]int64{1 << 62}, true}, {[]int64{-1}, false}, {[]int64{1<<62 + 1}, false},
		{[]int64{0, 0, 0}, true}, {[]int64{1, 2, 3}, true}, {[]int64{1, 1, 2}, true}, {[]int64{5, 1 << 62}, true},
		{[]int64{1, 0}, false}, {[]int64{5, 4, 6}, false}, {[]int64{1, 9, 5}, false}, {[]int64{1 << 62, 0}, false},
		{[]int64{-1, 0}, false}, {[]int64{-2, -1, 0}, false}, {[]int64{0, 1<<62 + 1}, false},
	} {
		o := of(api.KindHpa)
		o.Hpa.Past = nil
		for _, at := range c.at {
			o.Hpa.Past = append(o.Hpa.Past, api.Scaled{At: at})
		}
		form(t, o, c.right)
	}
}

// TestCheckGroup goes through all small Min, Max and Target.
func TestCheckGroup(t *testing.T) {
	for least := -2; least < 5; least++ {
		for most := -2; most < 5; most++ {
			for target := -2; target < 5; target++ {
				o := of(api.KindGroup)
				o.Group.Min, o.Group.Max, o.Group.Target = least, most, target
				form(t, o, 0 <= least && least <= target && target <= most)
			}
		}
	}
}

// TestCheckPercent: a policy's Value has the same bounds in thousandths as in pods.
func TestCheckPercent(t *testing.T) {
	for _, percent := range []bool{false, true} {
		for _, value := range []int{-1, 0, 1, 1000, 1001, 1000000, 1000001} {
			o := of(api.KindHpa)
			o.Hpa.Up.Policies[0] = api.Policy{Percent: percent, Value: value, Period: 1}
			form(t, o, 1 <= value && value <= 1000000)
		}
	}
}

// P7.1, Default and Shape

var (
	upPolicies   = []api.Policy{{Percent: true, Value: 1000, Period: 15}, {Value: 4, Period: 15}}
	downPolicies = []api.Policy{{Percent: true, Value: 1000, Period: 15}}
)

func same(t *testing.T, got, want any) {
	t.Helper()
	if !reflect.DeepEqual(got, want) {
		t.Errorf("got %+v, want %+v", got, want)
	}
}

// TestDefaultPolicies sets each Pick, some that are none too, both ways, with
// and without policies.
func TestDefaultPolicies(t *testing.T) {
	mine := []api.Policy{{Value: 9, Period: 9}}
	for up := -1; up < 5; up++ {
		for down := -1; down < 5; down++ {
			for _, without := range [][]api.Policy{nil, {}} {
				for i := range 4 {
					h := of(api.KindHpa).Hpa
					h.Up.Pick, h.Up.Policies = up, without
					h.Down.Pick, h.Down.Policies = down, without
					filled := h
					filled.Up.Policies, filled.Down.Policies = nil, nil
					if i&1 != 0 {
						h.Up.Policies, filled.Up.Policies = mine, mine
					} else if up != api.PickNone {
						filled.Up.Policies = upPolicies
					}
					if i&2 != 0 {
						h.Down.Policies, filled.Down.Policies = mine, mine
					} else if down != api.PickNone {
						filled.Down.Policies = downPolicies
					}
					same(t, bare(Shape(h)), bare(filled))
					o := api.Object{Kind: api.KindHpa, Name: "h", Version: 3, Hpa: h}
					d := Default(o)
					same(t, bare(d.Hpa), bare(filled))
					d.Hpa = h
					same(t, d, o)
				}
			}
		}
	}
}

// bare is an Hpa in which empty lists of policies are nil.
func bare(h api.Hpa) api.Hpa {
	for _, l := range []*[]api.Policy{&h.Up.Policies, &h.Down.Policies} {
		if len(*l) == 0 {
			*l = nil
		}
	}
	return h
}

// TestShapeOfNothing is of an Hpa that may not be: it has policies too.
func TestShapeOfNothing(t *testing.T) {
	same(t, Shape(api.Hpa{}), api.Hpa{Up: api.Behavior{Policies: upPolicies}, Down: api.Behavior{Policies: downPolicies}})
}

// TestDefaultTarget goes through all small Min, Max and Target.
func TestDefaultTarget(t *testing.T) {
	for least := -3; least < 6; least++ {
		for most := least; most < 6; most++ {
			for target := -3; target < 6; target++ {
				o := of(api.KindGroup)
				o.Group.Min, o.Group.Max, o.Group.Target = least, most, target
				d := Default(o)
				if target < least {
					o.Group.Target = least
				} else if target > most {
					o.Group.Target = most
				}
				same(t, d, o)
			}
		}
	}
	for _, c := range [][4]int{
		{1, 3, math.MinInt, 1}, {1, 3, math.MaxInt, 3},
		{math.MinInt, math.MaxInt, math.MinInt, math.MinInt}, {math.MinInt, math.MaxInt, math.MaxInt, math.MaxInt},
		{math.MaxInt, math.MaxInt, 0, math.MaxInt}, {math.MinInt, math.MinInt, 0, math.MinInt},
	} {
		o := api.Object{Kind: api.KindGroup, Group: api.Group{Min: c[0], Max: c[1], Target: c[2]}}
		if got := Default(o).Group.Target; got != c[3] {
			t.Errorf("Min %d, Max %d, Target %d: %d", c[0], c[1], c[2], got)
		}
	}
}

// TestDefaultTargetMinAboveMax: such a Group may not be, but twice is once.
func TestDefaultTargetMinAboveMax(t *testing.T) {
	for target := -3; target < 12; target++ {
		o := of(api.KindGroup)
		o.Group.Min, o.Group.Max, o.Group.Target = 7, 2, target
		d := Default(o)
		same(t, Default(d), d)
		if x := d.Group.Target; x != 7 && x != 2 {
			t.Errorf("Target %d: %d", target, x)
		}
		want(t, d, api.ErrForm)
	}
}

// TestDefaultChangesNothingElse is of objects in which nothing is to be set.
func TestDefaultChangesNothingElse(t *testing.T) {
	for _, o := range full() {
		same(t, Default(o), o)
		same(t, Clone(o), o)
	}
	for _, o := range least()[:api.KindHpa] {
		same(t, Default(o), o)
	}
	// of other kinds the shapes of an Hpa and a Group stay
	for kind := -1; kind <= api.Kinds; kind++ {
		o := api.Object{Kind: kind, Name: "a", Group: api.Group{Min: 2, Max: 4, Target: 9}, Hpa: api.Hpa{Min: 1}}
		d := Default(o)
		if kind != api.KindGroup && d.Group.Target != 9 {
			t.Errorf("kind %d: Target %d", kind, d.Group.Target)
		}
		if kind != api.KindHpa && len(d.Hpa.Up.Policies)+len(d.Hpa.Down.Policies) != 0 {
			t.Errorf("kind %d: %+v", kind, d.Hpa)
		}
		same(t, Clone(o), o)
	}
}

// P7.2

// fillByChance sets all that a value has; lists may be empty, and have spare room.
func fillByChance(r *rand.Rand, v reflect.Value) {
	switch v.Kind() {
	case reflect.Int, reflect.Int64:
		v.SetInt(int64(r.Intn(5) - 1))
	case reflect.Uint64:
		v.SetUint(r.Uint64())
	case reflect.Bool:
		v.SetBool(r.Intn(2) == 1)
	case reflect.String:
		v.SetString([]string{"", "a", "b", "cpu", "Z"}[r.Intn(5)])
	case reflect.Slice:
		n := r.Intn(4)
		v.Set(reflect.MakeSlice(v.Type(), n, n+3))
		for i := range n + 3 { // the spare room too
			fillByChance(r, v.Slice(0, n+3).Index(i))
		}
	case reflect.Struct:
		for i := range v.NumField() {
			fillByChance(r, v.Field(i))
		}
	}
}

// chance is an object with all shapes, most of which may not be.
func chance(r *rand.Rand) api.Object {
	var o api.Object
	fillByChance(r, reflect.ValueOf(&o).Elem())
	return o
}

// alike is one that may be, of which some fields were emptied by chance.
func alike(r *rand.Rand) api.Object {
	o := slices.Concat(full(), least())[r.Intn(10)]
	for range r.Intn(3) {
		l := leaves(shape(&o, o.Kind))
		l[r.Intn(len(l))].SetZero()
	}
	return o
}

func TestWhatMayBeMayBeWithDefaults(t *testing.T) {
	r := rand.New(rand.NewSource(7))
	may := 0
	for range 20000 {
		o := alike(r)
		if Check(o) != api.OK {
			continue
		}
		may++
		want(t, Default(o), api.OK)
		if o.Kind == api.KindHpa {
			o.Hpa = Shape(o.Hpa)
			want(t, o, api.OK)
		}
	}
	if may < 5000 {
		t.Errorf("only %d may be", may)
	}
}

func TestDefaultsTwiceAreOnce(t *testing.T) {
	r := rand.New(rand.NewSource(8))
	for range 20000 {
		for _, o := range []api.Object{chance(r), alike(r)} {
			d := Default(o)
			same(t, Default(d), d)
			h := Shape(o.Hpa)
			same(t, Shape(h), h)
			if t.Failed() {
				return
			}
		}
	}
}

// lists are all lists that a value has, with their spare room.
func lists(v reflect.Value) []reflect.Value {
	switch v.Kind() {
	case reflect.Slice:
		return []reflect.Value{v.Slice(0, v.Cap())}
	case reflect.Struct:
		var l []reflect.Value
		for i := range v.NumField() {
			l = append(l, lists(v.Field(i))...)
		}
		return l
	}
	return nil
}

// picture is what stands in all lists that a value has, and in their spare room.
func picture(v any) []any {
	var p []any
	for _, l := range lists(reflect.ValueOf(v)) {
		for i := range l.Len() {
			p = append(p, l.Index(i).Interface())
		}
	}
	return p
}

// wipe sets nought to all lists that a value has, and to their spare room.
func wipe(v any) {
	for _, l := range lists(reflect.ValueOf(v)) {
		for i := range l.Len() {
			l.Index(i).SetZero()
		}
	}
}

// apart wants that none of two values shares a list with the other, that no
// two lists of one do so, and that both were as they were ahead.
func apart(t *testing.T, what string, given, answer any, before []any) {
	t.Helper()
	if !reflect.DeepEqual(picture(given), before) {
		t.Errorf("%s changed what was handed in", what)
	}
	wipeEach(t, what, answer)
	if !reflect.DeepEqual(picture(given), before) {
		t.Errorf("%s: the answer shares with what was handed in", what)
	}
}

// wipeEach wipes one list behind the other: none may change another one.
func wipeEach(t *testing.T, what string, v any) {
	t.Helper()
	l := lists(reflect.ValueOf(v))
	for i, x := range l {
		var others [][]any
		for _, y := range l[i+1:] {
			others = append(others, all(y))
		}
		for j := range x.Len() {
			x.Index(j).SetZero()
		}
		for k, y := range l[i+1:] {
			if !reflect.DeepEqual(all(y), others[k]) {
				t.Errorf("%s: lists %d and %d share", what, i, i+1+k)
			}
		}
	}
}

func all(l reflect.Value) []any {
	var a []any
	for i := range l.Len() {
		a = append(a, l.Index(i).Interface())
	}
	return a
}

func TestNewMemory(t *testing.T) {
	r := rand.New(rand.NewSource(9))
	for range 2000 {
		o := chance(r)
		if r.Intn(2) == 0 {
			o.Hpa.Up.Policies, o.Hpa.Down.Policies = nil, o.Hpa.Down.Policies[:0]
			o.Kind = api.KindHpa
		}
		before := picture(o)
		Check(o)
		apart(t, "Check", o, api.Object{}, before)
		apart(t, "Clone", o, Clone(o), before)
		apart(t, "Default", o, Default(o), before)
		apart(t, "Shape", o.Hpa, Shape(o.Hpa), picture(o.Hpa))
		if t.Failed() {
			return
		}
	}
}

// TestCloneIsTheSame: nil and empty lists are the same, all else stands there.
func TestCloneIsTheSame(t *testing.T) {
	r := rand.New(rand.NewSource(10))
	for range 2000 {
		o := chance(r)
		c := Clone(o)
		if len(lists(reflect.ValueOf(c))) != 14 {
			t.Fatal("an object has fourteen lists")
		}
		same(t, tidy(c), tidy(o))
		if t.Failed() {
			return
		}
	}
	same(t, Clone(api.Object{}), api.Object{})
}

// tidy is an object in which empty lists are nil.
func tidy(o api.Object) api.Object {
	for kind := range api.Kinds {
		for _, x := range leaves(shape(&o, kind)) {
			if x.Kind() == reflect.Slice && x.Len() == 0 {
				x.SetZero()
			}
		}
	}
	return o
}

// TestAnswersAreApart: two answers of one call share nothing, their defaults neither.
func TestAnswersAreApart(t *testing.T) {
	o := least()[api.KindHpa]
	for _, answer := range []func() api.Hpa{
		func() api.Hpa { return Default(o).Hpa },
		func() api.Hpa { return Shape(o.Hpa) },
	} {
		one, two := answer(), answer()
		wipe(one)
		same(t, two.Up.Policies, upPolicies)
		same(t, two.Down.Policies, downPolicies)
		same(t, answer(), two)
	}
	o = of(api.KindHpa)
	one, two := Clone(o), Clone(o)
	wipe(one)
	same(t, two, o)
}

// TestLongRows is of rows that are much too long: they are no reason to linger.
func TestLongRows(t *testing.T) {
	o := of(api.KindHpa)
	o.Hpa.Past = make([]api.Scaled, 1<<20)
	want(t, o, api.ErrForm)
	o = of(api.KindNode)
	o.Node.Labels = make([]api.Label, 1<<20)
	want(t, o, api.ErrForm)
	if d := Default(o); len(d.Node.Labels) != 1<<20 {
		t.Error(len(d.Node.Labels))
	}
}
