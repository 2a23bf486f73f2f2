package octet

import (
	"bytes"
	"encoding/binary"
	"math"
	"math/rand"
	"reflect"
	"slices"
	"strings"
	"testing"

	"trimtab/api"
)

// noSizes are numbers of bytes that no number has.
var noSizes = []int{math.MinInt, math.MinInt32, -8, -4, -2, -1, 0, 3, 5, 6, 7, 9, 16, 64, 257, 1<<32 + 1, 1<<32 + 8, math.MaxInt}

// noKinds are numbers that are no kind, in a byte or beyond it.
var noKinds = []int{math.MinInt, -256, -1, 5, 6, 255, 256, 257, 260, 1 << 32, 1<<32 + 1, math.MaxInt}

// allBytes is each byte that there is, but for one, as a text.
func allBytes() string {
	var b []byte
	for x := range 255 {
		b = append(b, byte(x+1))
	}
	return string(b)
}

// shape is the field of an object's kind.
func shape(o *api.Object) reflect.Value {
	return reflect.ValueOf(o).Elem().Field(3 + o.Kind)
}

// oracle is bytes as the chapter tells them, by the fields that api has.
func oracle(b []byte, v reflect.Value) []byte {
	switch v.Kind() {
	case reflect.Int, reflect.Int64:
		return binary.LittleEndian.AppendUint64(b, uint64(v.Int()))
	case reflect.Uint64:
		return binary.LittleEndian.AppendUint64(b, v.Uint())
	case reflect.Bool:
		if v.Bool() {
			return append(b, 1)
		}
		return append(b, 0)
	case reflect.String:
		return append(append(b, byte(v.Len())), v.String()...)
	case reflect.Slice:
		b = append(b, byte(v.Len()))
		for i := range v.Len() {
			b = oracle(b, v.Index(i))
		}
	case reflect.Struct:
		for i := range v.NumField() {
			b = oracle(b, v.Field(i))
		}
	}
	return b
}

// told is an object's bytes by the oracle.
func told(o api.Object) []byte {
	b := append([]byte{byte(o.Kind), byte(len(o.Name))}, o.Name...)
	b = binary.LittleEndian.AppendUint64(b, o.Version)
	return oracle(b, shape(&o))
}

// fill sets all that a value has, by chance; each list has at least one.
func fill(r *rand.Rand, v reflect.Value) {
	switch v.Kind() {
	case reflect.Int, reflect.Int64:
		v.SetInt(int64(r.Uint64()) >> r.Intn(64))
	case reflect.Uint64:
		v.SetUint(r.Uint64() >> r.Intn(64))
	case reflect.Bool:
		v.SetBool(r.Intn(2) == 1)
	case reflect.String:
		b := make([]byte, r.Intn(6))
		r.Read(b)
		v.SetString(string(b))
	case reflect.Slice:
		n := 1 + r.Intn(3)
		v.Set(reflect.MakeSlice(v.Type(), n, n+2))
		for i := range n {
			fill(r, v.Index(i))
		}
	case reflect.Struct:
		for i := range v.NumField() {
			fill(r, v.Field(i))
		}
	}
}

// chance is an object of a kind with all shapes full.
func chance(r *rand.Rand, kind int) api.Object {
	var o api.Object
	fill(r, reflect.ValueOf(&o).Elem())
	o.Kind = kind
	return o
}

// alone is an object without the shapes of other kinds.
func alone(o api.Object) api.Object {
	one := api.Object{Kind: o.Kind, Name: o.Name, Version: o.Version}
	shape(&one).Set(shape(&o))
	return one
}

// deep is a copy of a value that shares no list with it.
func deep(v reflect.Value) reflect.Value {
	c := reflect.New(v.Type()).Elem()
	switch v.Kind() {
	case reflect.Slice:
		for i := range v.Len() {
			c = reflect.Append(c, deep(v.Index(i)))
		}
	case reflect.Struct:
		for i := range v.NumField() {
			c.Field(i).Set(deep(v.Field(i)))
		}
	default:
		c.Set(v)
	}
	return c
}

func apart(o api.Object) api.Object { return deep(reflect.ValueOf(o)).Interface().(api.Object) }

// write is an object's bytes.
func write(t *testing.T, o api.Object) []byte {
	t.Helper()
	var w Writer
	if e := w.Object(o); e != api.OK {
		t.Fatalf("Object: %d", e)
	}
	return w.Bytes()
}

// P6.1

func TestPut(t *testing.T) {
	for _, c := range []struct {
		x    uint64
		n    int
		want []byte
	}{
		{258, 2, []byte{2, 1}},
		{0, 1, []byte{0}},
		{1, 1, []byte{1}},
		{255, 1, []byte{255}},
		{256, 1, []byte{0}},
		{257, 1, []byte{1}},
		{65535, 2, []byte{255, 255}},
		{65536, 2, []byte{0, 0}},
		{65539, 2, []byte{3, 0}},
		{0x01020304, 4, []byte{4, 3, 2, 1}},
		{0x0102030405060708, 4, []byte{8, 7, 6, 5}},
		{1 << 32, 4, []byte{0, 0, 0, 0}},
		{0x0102030405060708, 8, []byte{8, 7, 6, 5, 4, 3, 2, 1}},
		{math.MaxUint64, 8, []byte{255, 255, 255, 255, 255, 255, 255, 255}},
		{math.MaxUint64, 1, []byte{255}},
		{1 << 63, 8, []byte{0, 0, 0, 0, 0, 0, 0, 128}},
	} {
		var w Writer
		w.Put(c.x, c.n)
		if b := w.Bytes(); !slices.Equal(b, c.want) {
			t.Errorf("Put(%d, %d): %v, not %v", c.x, c.n, b, c.want)
		}
	}
}

func TestPutOfNoSize(t *testing.T) {
	for _, n := range noSizes {
		var w Writer
		w.Put(7, 1)
		w.Put(math.MaxUint64, n)
		w.Put(9, 2)
		if b := w.Bytes(); !slices.Equal(b, []byte{7, 9, 0}) {
			t.Errorf("Put(_, %d): %v", n, b)
		}
	}
}

func TestIntWritten(t *testing.T) {
	for _, c := range []struct {
		x    int64
		want []byte
	}{
		{0, []byte{0, 0, 0, 0, 0, 0, 0, 0}},
		{1, []byte{1, 0, 0, 0, 0, 0, 0, 0}},
		{-1, []byte{255, 255, 255, 255, 255, 255, 255, 255}},
		{-2, []byte{254, 255, 255, 255, 255, 255, 255, 255}},
		{258, []byte{2, 1, 0, 0, 0, 0, 0, 0}},
		{math.MaxInt64, []byte{255, 255, 255, 255, 255, 255, 255, 127}},
		{math.MinInt64, []byte{0, 0, 0, 0, 0, 0, 0, 128}},
	} {
		var w Writer
		w.Int(c.x)
		if b := w.Bytes(); !slices.Equal(b, c.want) {
			t.Errorf("Int(%d): %v, not %v", c.x, b, c.want)
		}
	}
}

func TestTextWritten(t *testing.T) {
	long := allBytes()
	for n := range 600 {
		s := strings.Repeat(long, 3)[:n]
		var w Writer
		w.Text(s)
		m := min(n, 255)
		if b := w.Bytes(); len(b) != m+1 || b[0] != byte(m) || string(b[1:]) != s[:m] {
			t.Errorf("Text of %d bytes: %d bytes", n, len(b))
		}
	}
	var w Writer
	w.Text("\x00\xffä")
	if b := w.Bytes(); !slices.Equal(b, []byte{4, 0, 255, 0xc3, 0xa4}) {
		t.Error(b)
	}
}

// TestTextCutInARune cuts by bytes, not by letters.
func TestTextCutInARune(t *testing.T) {
	s := "a" + strings.Repeat("ä", 200)
	var w Writer
	w.Text(s)
	w.Put(5, 1)
	if b := w.Bytes(); len(b) != 257 || string(b[1:256]) != s[:255] || b[256] != 5 {
		t.Error(b)
	}
	w = Writer{}
	w.Text("b" + s)
	if b := w.Bytes(); len(b) != 256 || string(b[1:]) != ("b" + s)[:255] {
		t.Error(b)
	}
}

// TestObjectWritten tells one of each kind byte by byte.
func TestObjectWritten(t *testing.T) {
	num := func(x byte) string { return string([]byte{x, 0, 0, 0, 0, 0, 0, 0}) }
	minus := strings.Repeat("\xff", 8)
	l := []api.Label{{Key: "k", Value: "vw"}, {Key: "x"}}
	lt := "\x02\x01k\x02vw\x01x\x00"
	req := []api.Require{{Key: "r", Value: "s", Op: 3}}
	rt := "\x01\x01r\x01s" + num(3)
	for _, c := range []struct {
		o    api.Object
		want string
	}{
		{api.Object{}, "\x00\x00" + num(0) + num(0) + num(0) + num(0) + "\x00\x00\x00" + num(0)},
		{api.Object{Kind: api.KindWorkload, Name: "web", Version: 1 << 8, Workload: api.Workload{
			Replicas: 2, Ask: api.Resources{CPU: 3, Mem: 4}, Labels: l, Select: req, Tolerate: l[1:], Warm: -1}},
			"\x00\x03web\x00\x01\x00\x00\x00\x00\x00\x00" + num(2) + num(3) + num(4) + lt + rt + "\x01\x01x\x00" + minus},
		{api.Object{Kind: api.KindPod, Name: "p", Version: math.MaxUint64, Pod: api.Pod{
			Owner: "o", Node: "no", Phase: 2, Since: 9, Ask: api.Resources{CPU: 5, Mem: 6}, Labels: l, Select: req, Tolerate: l[:1], Warm: 7}},
			"\x01\x01p" + minus + "\x01o\x02no" + num(2) + num(9) + num(5) + num(6) + lt + rt + "\x01\x01k\x02vw" + num(7)},
		{api.Object{Kind: api.KindNode, Name: "n", Version: 3, Node: api.Node{
			Group: "g", Size: api.Resources{CPU: 8, Mem: 9}, Labels: l, Taints: l[:1], Since: 11, Closed: true}},
			"\x02\x01n" + num(3) + "\x01g" + num(8) + num(9) + lt + "\x01\x01k\x02vw" + num(11) + "\x01"},
		{api.Object{Kind: api.KindGroup, Name: "g", Group: api.Group{
			Min: 1, Max: 2, Target: 3, Size: api.Resources{CPU: 4, Mem: 5}, Labels: l[:1], Taints: l, Priority: 6}},
			"\x03\x01g" + num(0) + num(1) + num(2) + num(3) + num(4) + num(5) + "\x01\x01k\x02vw" + lt + num(6)},
		{api.Object{Kind: api.KindHpa, Name: "h", Version: 5, Hpa: api.Hpa{
			Target: "web", Min: 1, Max: 2, Metrics: []api.Metric{{Kind: 3, Name: "m", Target: 4}}, Tolerance: 5,
			Up:   api.Behavior{Window: 6, Pick: 1, Policies: []api.Policy{{Percent: true, Value: 7, Period: 8}, {Value: 9, Period: 10}}},
			Down: api.Behavior{Window: 11, Pick: 2}, Past: []api.Scaled{{At: 12, From: 13, To: 14}}}},
			"\x04\x01h" + num(5) + "\x03web" + num(1) + num(2) + "\x01" + num(3) + "\x01m" + num(4) + num(5) +
				num(6) + num(1) + "\x02\x01" + num(7) + num(8) + "\x00" + num(9) + num(10) +
				num(11) + num(2) + "\x00" + "\x01" + num(12) + num(13) + num(14)},
	} {
		if b := write(t, c.o); string(b) != c.want {
			t.Errorf("kind %d: %q, not %q", c.o.Kind, b, c.want)
		}
		r := Read([]byte(c.want))
		if o := r.Object(); !r.End() || !reflect.DeepEqual(o, c.o) {
			t.Errorf("kind %d is read as %+v", c.o.Kind, o)
		}
	}
}

// TestObjectAgainstOracle writes objects with all shapes full: only the one of
// the kind is written, and read.
func TestObjectAgainstOracle(t *testing.T) {
	r := rand.New(rand.NewSource(6))
	for i := range 2000 {
		o := chance(r, i%api.Kinds)
		keep := apart(o)
		b := write(t, o)
		if want := told(o); !slices.Equal(b, want) {
			t.Fatalf("%+v: %q, not %q", o, b, want)
		}
		if !reflect.DeepEqual(o, keep) {
			t.Fatalf("%+v was changed to %+v", keep, o)
		}
		d := Read(b)
		if x := d.Object(); !d.End() || !reflect.DeepEqual(x, alone(o)) {
			t.Fatalf("%+v is read as %+v", o, x)
		}
	}
}

func TestObjectOfNoKind(t *testing.T) {
	long := strings.Repeat("a", 256)
	for _, k := range noKinds {
		for _, name := range []string{"", "a", long} {
			var w Writer
			w.Put(7, 1)
			if e := w.Object(api.Object{Kind: k, Name: name, Version: 3}); e != api.ErrKind {
				t.Errorf("kind %d: %d", k, e)
			}
			if b := w.Bytes(); !slices.Equal(b, []byte{7}) {
				t.Errorf("kind %d wrote %v", k, b)
			}
		}
	}
}

// place is one text or list of an object.
type place struct {
	what string
	of   func(o *api.Object) reflect.Value
}

// places are all texts and lists that a shape has, those of the last one of
// each list with them.
func places(v reflect.Value, what string, of func(o *api.Object) reflect.Value) []place {
	switch v.Kind() {
	case reflect.String:
		return []place{{what, of}}
	case reflect.Slice:
		last := func(o *api.Object) reflect.Value { l := of(o); return l.Index(l.Len() - 1) }
		return append([]place{{what, of}}, places(v.Index(v.Len()-1), what+"[last]", last)...)
	case reflect.Struct:
		var all []place
		for i := range v.NumField() {
			field := func(o *api.Object) reflect.Value { return of(o).Field(i) }
			all = append(all, places(v.Field(i), what+"."+v.Type().Field(i).Name, field)...)
		}
		return all
	}
	return nil
}

// stretch makes a text or a list n long.
func stretch(v reflect.Value, n int) {
	if v.Kind() == reflect.String {
		v.SetString(strings.Repeat("b", n))
		return
	}
	v.Set(reflect.MakeSlice(v.Type(), n, n))
}

// TestObjectLong stretches each text and each list of each kind: 255 may be,
// one more is too long, and writes nothing.
func TestObjectLong(t *testing.T) {
	seen := 0
	for k := range api.Kinds {
		o := chance(rand.New(rand.NewSource(int64(k))), k)
		name := place{"Name", func(o *api.Object) reflect.Value { return reflect.ValueOf(o).Elem().Field(1) }}
		for _, p := range append(places(shape(&o), "", shape), name) {
			seen++
			for _, n := range []int{0, 1, 254, 255, 256, 257, 511, 512, 513, 70000} {
				x := apart(o)
				stretch(p.of(&x), n)
				longOrNot(t, x, p.what, n)
			}
		}
	}
	if seen != 10+12+8+7+7 {
		t.Errorf("%d places", seen)
	}
}

func longOrNot(t *testing.T, x api.Object, what string, n int) {
	t.Helper()
	var w Writer
	w.Text("ahead")
	e := w.Object(x)
	w.Put(9, 1)
	b := w.Bytes()
	want := []byte("\x05ahead\x09")
	if n <= 255 {
		want = slices.Concat([]byte("\x05ahead"), told(x), []byte{9})
	}
	if (e == api.OK) != (n <= 255) || e != api.OK && e != api.ErrLong {
		t.Errorf("kind %d, %s of %d: %d", x.Kind, what, n, e)
	}
	if !slices.Equal(b, want) {
		t.Errorf("kind %d, %s of %d: %d bytes, not %d", x.Kind, what, n, len(b), len(want))
	}
	if n > 255 {
		return
	}
	r := Read(b)
	if r.Text() != "ahead" || !reflect.DeepEqual(apart(r.Object()), apart(alone(x))) || r.Get(1) != 9 || !r.End() {
		t.Errorf("kind %d, %s of %d isn't read", x.Kind, what, n)
	}
}

// TestLongOfOtherKinds: shapes that aren't written can't be too long.
func TestLongOfOtherKinds(t *testing.T) {
	l := make([]api.Label, 300)
	l[0].Key = strings.Repeat("a", 300)
	full := api.Object{Workload: api.Workload{Labels: l}, Pod: api.Pod{Owner: l[0].Key, Tolerate: l},
		Node: api.Node{Taints: l}, Group: api.Group{Labels: l}, Hpa: api.Hpa{Target: l[0].Key, Past: make([]api.Scaled, 256)}}
	for k := range api.Kinds {
		o := full
		o.Kind = k
		var w Writer
		if e := w.Object(o); e != api.ErrLong || w.Bytes() != nil {
			t.Errorf("kind %d: %d, %v", k, e, w.Bytes())
		}
		shape(&o).SetZero()
		if b := write(t, o); !slices.Equal(b, told(o)) {
			t.Errorf("kind %d: %v", k, b)
		}
	}
}

func TestBytes(t *testing.T) {
	var w Writer
	if b := w.Bytes(); len(b) != 0 {
		t.Error(b)
	}
	w.Text("abc")
	first := w.Bytes()
	second := w.Bytes()
	clear(second)
	_ = append(second[:1], "zzzzzzzz"...)
	w.Put(5, 1)
	if string(first) != "\x03abc" || string(w.Bytes()) != "\x03abc\x05" {
		t.Errorf("%q, %q", first, w.Bytes())
	}
	_ = append(first, 77)
	if string(w.Bytes()) != "\x03abc\x05" {
		t.Errorf("%q", w.Bytes())
	}
}

func TestNilWriter(t *testing.T) {
	var w *Writer
	w.Put(1, 1)
	w.Int(1)
	w.Text("a")
	if e := w.Object(api.Object{Name: "a"}); e != api.ErrArg {
		t.Error(e)
	}
	if b := w.Bytes(); len(b) != 0 {
		t.Error(b)
	}
}

// P6.2

// dead looks whether a reader is bad, and stays so, whatever is asked.
func dead(t *testing.T, r *Reader, what string) {
	t.Helper()
	for range 2 {
		if !r.Bad() || r.End() || r.Left() != 0 {
			t.Errorf("%s: Bad %v, End %v, Left %d", what, r.Bad(), r.End(), r.Left())
		}
		if r.Get(1) != 0 || r.Get(8) != 0 || r.Get(3) != 0 || r.Int() != 0 || r.Text() != "" || !reflect.DeepEqual(r.Object(), api.Object{}) {
			t.Errorf("%s: a bad one tells something", what)
		}
	}
}

func TestGet(t *testing.T) {
	b := []byte{8, 7, 6, 5, 4, 3, 2, 1, 255, 254, 253, 252, 9, 1, 77}
	r := Read(b)
	for _, c := range []struct {
		n    int
		want uint64
		left int
	}{
		{8, 0x0102030405060708, 7}, {4, 0xfcfdfeff, 3}, {2, 0x0109, 1}, {1, 77, 0},
	} {
		if x := r.Get(c.n); x != c.want || r.Left() != c.left || r.Bad() || r.End() != (c.left == 0) {
			t.Errorf("Get(%d): %x, %d left", c.n, x, r.Left())
		}
	}
	r.Get(1)
	dead(t, r, "behind the end")
	all := Read(bytes.Repeat([]byte{255}, 15))
	if all.Get(1) != math.MaxUint8 || all.Get(2) != math.MaxUint16 || all.Get(4) != math.MaxUint32 || all.Get(8) != math.MaxUint64 || !all.End() {
		t.Error("the greatest ones")
	}
}

func TestGetTooLittle(t *testing.T) {
	for _, n := range []int{1, 2, 4, 8} {
		for there := range 12 {
			r := Read(bytes.Repeat([]byte{1}, there))
			x := r.Get(n)
			if there < n {
				if x != 0 {
					t.Errorf("Get(%d) of %d: %d", n, there, x)
				}
				dead(t, r, "Get of too little")
			} else if x == 0 || r.Bad() || r.Left() != there-n {
				t.Errorf("Get(%d) of %d: %d", n, there, x)
			}
		}
	}
}

func TestGetOfNoSize(t *testing.T) {
	for _, n := range noSizes {
		r := Read(bytes.Repeat([]byte{3}, 100))
		if x := r.Get(n); x != 0 {
			t.Errorf("Get(%d): %d", n, x)
		}
		dead(t, r, "Get of no size")
	}
}

func TestIntRead(t *testing.T) {
	for _, x := range []int64{0, 1, -1, -2, 255, 256, math.MaxInt32, math.MinInt32, math.MaxInt64, math.MinInt64} {
		var w Writer
		w.Int(x)
		r := Read(w.Bytes())
		if y := r.Int(); y != x || !r.End() {
			t.Errorf("%d is read as %d", x, y)
		}
		for n := range 8 {
			r := Read(w.Bytes()[:n])
			if y := r.Int(); y != 0 {
				t.Errorf("%d of %d bytes: %d", x, n, y)
			}
			dead(t, r, "Int of too little")
		}
	}
}

func TestTextRead(t *testing.T) {
	long := allBytes()
	for n := range 256 {
		s := long[:n]
		b := append([]byte{byte(n)}, s...)
		r := Read(append(slices.Clone(b), 5))
		if x := r.Text(); x != s || r.Left() != 1 || r.Bad() || r.Get(1) != 5 {
			t.Errorf("Text of %d: %q", n, x)
		}
		for cut := range b {
			r := Read(b[:cut])
			if x := r.Text(); x != "" {
				t.Errorf("Text of %d cut to %d: %q", n, cut, x)
			}
			dead(t, r, "Text of too little")
		}
	}
}

// TestObjectCut cuts objects behind each of their bytes.
func TestObjectCut(t *testing.T) {
	r := rand.New(rand.NewSource(7))
	for i := range 20 {
		b := write(t, chance(r, i%api.Kinds))
		for n := range b {
			d := Read(b[:n])
			if o := d.Object(); !reflect.DeepEqual(o, api.Object{}) {
				t.Fatalf("%d of %d bytes: %+v", n, len(b), o)
			}
			dead(t, d, "Object of too little")
		}
		d := Read(append(slices.Clone(b), b...))
		first := d.Object()
		if d.Left() != len(b) || !reflect.DeepEqual(first, d.Object()) || !d.End() {
			t.Fatal("two of them")
		}
	}
}

func TestObjectReadOfNoKind(t *testing.T) {
	for k := range 256 {
		r := Read(append([]byte{byte(k)}, make([]byte, 500)...))
		o := r.Object()
		if k < api.Kinds {
			if r.Bad() || o.Kind != k {
				t.Errorf("kind %d: %+v", k, o)
			}
			continue
		}
		if !reflect.DeepEqual(o, api.Object{}) {
			t.Errorf("kind %d: %+v", k, o)
		}
		dead(t, r, "no kind")
	}
}

// TestTruths sets each byte where a truth stands.
func TestTruths(t *testing.T) {
	n := api.Object{Kind: api.KindNode, Name: "n", Node: api.Node{Closed: true}}
	up := api.Object{Kind: api.KindHpa, Name: "h", Hpa: api.Hpa{Up: api.Behavior{Policies: []api.Policy{{Percent: true}}}}}
	down := api.Object{Kind: api.KindHpa, Name: "h", Hpa: api.Hpa{Down: api.Behavior{Policies: []api.Policy{{}, {Percent: true}}}}}
	for _, o := range []api.Object{n, up, down} {
		b := write(t, o)
		other := o
		other.Node.Closed = false
		other.Hpa.Up.Policies = make([]api.Policy, len(o.Hpa.Up.Policies))
		other.Hpa.Down.Policies = make([]api.Policy, len(o.Hpa.Down.Policies))
		at := slices.Index(differs(b, write(t, other)), true)
		for x := range 256 {
			b[at] = byte(x)
			r := Read(b)
			got := r.Object()
			switch {
			case x == 0:
				if !r.End() || !reflect.DeepEqual(got, other) && !reflect.DeepEqual(apart(got), apart(other)) {
					t.Errorf("0: %+v", got)
				}
			case x == 1:
				if !r.End() || !reflect.DeepEqual(got, o) {
					t.Errorf("1: %+v", got)
				}
			default:
				if !reflect.DeepEqual(got, api.Object{}) {
					t.Errorf("%d: %+v", x, got)
				}
				dead(t, r, "a truth above 1")
			}
		}
	}
}

// differs is where two rows of bytes of one length differ.
func differs(a, b []byte) []bool {
	d := make([]bool, len(a))
	for i := range a {
		d[i] = a[i] != b[i]
	}
	return d
}

func TestEndAndLeft(t *testing.T) {
	for _, b := range [][]byte{nil, {}} {
		r := Read(b)
		if r.Bad() || !r.End() || r.Left() != 0 {
			t.Error("an empty one")
		}
		r.Text()
		dead(t, r, "an empty one")
	}
	r := Read([]byte{0, 0})
	if r.End() || r.Left() != 2 || r.Text() != "" || r.Left() != 1 || r.End() || r.Get(1) != 0 || !r.End() || r.Bad() {
		t.Error("two empty texts")
	}
}

func TestNilReader(t *testing.T) {
	dead(t, nil, "nil")
	var r *Reader
	r.Text()
	r.Object()
	dead(t, r, "nil")
}

// P6.3

func TestAllIsReadAgain(t *testing.T) {
	r := rand.New(rand.NewSource(8))
	for range 300 {
		var w Writer
		var check []func(d *Reader) bool
		for range r.Intn(12) {
			check = append(check, writeOne(r, &w))
		}
		d := Read(w.Bytes())
		for _, same := range check {
			if !same(d) {
				t.Fatal("it isn't read as it was written")
			}
		}
		if !d.End() {
			t.Fatal("there is more, or it is bad")
		}
	}
}

// writeOne writes something, and tells how it is looked for.
func writeOne(r *rand.Rand, w *Writer) func(d *Reader) bool {
	x := r.Uint64()
	switch r.Intn(4) {
	case 0:
		n := 1 << r.Intn(4)
		w.Put(x, n)
		return func(d *Reader) bool { return d.Get(n) == x<<(64-8*n)>>(64-8*n) }
	case 1:
		w.Int(int64(x))
		return func(d *Reader) bool { return d.Int() == int64(x) }
	case 2:
		s := strings.Repeat("ab", r.Intn(200))
		w.Text(s)
		return func(d *Reader) bool { return d.Text() == s[:min(len(s), 255)] }
	}
	o := chance(r, r.Intn(api.Kinds))
	w.Object(o)
	return func(d *Reader) bool { return reflect.DeepEqual(d.Object(), alone(o)) }
}

// TestAnyBytes reads bytes by chance: what isn't bad is written as it stood.
func TestAnyBytes(t *testing.T) {
	r := rand.New(rand.NewSource(9))
	good := 0
	for range 100000 {
		b := make([]byte, r.Intn(160))
		for i := range b {
			b[i] = byte(r.Intn(4)) * byte(r.Intn(2))
		}
		keep := slices.Clone(b)
		d := Read(b)
		o := d.Object()
		if !slices.Equal(b, keep) {
			t.Fatal("what was handed in was changed")
		}
		if d.Bad() {
			dead(t, d, "any bytes")
			continue
		}
		good++
		if x := write(t, o); !slices.Equal(x, b[:len(b)-d.Left()]) {
			t.Fatalf("%v is written as %v", b, x)
		}
	}
	if good < 100 {
		t.Errorf("only %d were good", good)
	}
}

func TestReadKeepsNothing(t *testing.T) {
	b := make([]byte, 4, 16)
	copy(b, "\x03abc")
	r := Read(b)
	copy(b, "\x03xyz")
	if s := r.Text(); s != "abc" {
		t.Error(s)
	}
	if string(b) != "\x03xyz" || string(b[:16][4:]) != strings.Repeat("\x00", 12) {
		t.Error(b[:16])
	}
}

// TestObjectKeepsNothing changes an object's lists behind its writing, and
// looks at their spare room.
func TestObjectKeepsNothing(t *testing.T) {
	l := make([]api.Label, 1, 4)
	l[0] = api.Label{Key: "a", Value: "b"}
	o := api.Object{Kind: api.KindNode, Name: "n", Node: api.Node{Labels: l, Taints: l}}
	var w Writer
	w.Object(o)
	before := w.Bytes()
	if l[0] != (api.Label{Key: "a", Value: "b"}) || l[:4][1] != (api.Label{}) {
		t.Error(l[:4])
	}
	l[0].Key = "z"
	if !slices.Equal(before, w.Bytes()) {
		t.Error("it hangs on the list")
	}
}

// TestObjectIsNew reads one twice: no list is shared, within one either.
func TestObjectIsNew(t *testing.T) {
	l := []api.Label{{Key: "a"}, {Key: "b"}}
	b := write(t, api.Object{Kind: api.KindPod, Name: "p", Pod: api.Pod{Labels: l, Tolerate: l}})
	r := Read(slices.Concat(b, b))
	first, second := r.Object(), r.Object()
	keep := apart(second)
	first.Pod.Labels[0].Key = "z"
	_ = append(first.Pod.Labels[:1], api.Label{Key: "y"}, api.Label{Key: "x"})
	if first.Pod.Tolerate[0].Key != "a" || first.Pod.Tolerate[1].Key != "b" || !reflect.DeepEqual(second, keep) {
		t.Error(first, second)
	}
}
