package quant

import (
	"iter"
	"math"
	"math/big"
	"regexp"
	"slices"
	"strings"
	"testing"

	"trimtab/api"
)

const most = api.MaxMilli

// ends are the numbers at which a quantity begins, ends, or changes its text.
var ends = []api.Milli{
	math.MinInt64, math.MinInt64 + 1, -most - 1, -most, -1000, -1,
	0, 1, 2, 999, 1000, 1001, 1500, 2000,
	1<<31 - 1, 1 << 31, 1 << 32, most / 2, most/2 + 1,
	most - 993, most - 992, most - 1, most,
	most + 1, most + 8, most * 2, math.MaxInt64 - 1, math.MaxInt64,
}

var counts = []int{
	math.MinInt, math.MinInt + 1, -most, -1, 0, 1, 2, 3, 999, 1000, 1001,
	1<<31 - 1, 1 << 32, most - 1, most, most + 1, math.MaxInt - 1, math.MaxInt,
}

func right(m api.Milli) bool { return m >= 0 && m <= most }

// bounded is what a number should answer as a quantity, worked out without a bound.
func bounded(x *big.Int) (api.Milli, api.Errno) {
	if x.Cmp(big.NewInt(most)) > 0 {
		return 0, api.ErrRange
	}
	return api.Milli(x.Int64()), api.OK
}

func TestParseTable(t *testing.T) {
	for _, c := range []struct {
		s    string
		want api.Milli
	}{
		{"0", 0}, {"0m", 0}, {"0k", 0}, {"0M", 0}, {"0G", 0}, {"0Ki", 0}, {"0Mi", 0}, {"0Gi", 0},
		{"1", 1000}, {"1m", 1}, {"1k", 1000000}, {"1M", 1000000000}, {"1G", 1000000000000},
		{"1Ki", 1024000}, {"1Mi", 1048576000}, {"1Gi", 1073741824000},
		{"500m", 500}, {"2Ki", 2048000}, {"1500m", 1500}, {"2000m", 2000}, {"2", 2000}, {"10", 10000},
		{"250m", 250}, {"3k", 3000000}, {"2Gi", 2147483648000}, {"100Mi", 104857600000},

		// the greatest of each unit
		{"9007199254740992m", most},
		{"9007199254740", 9007199254740000},
		{"9007199254k", 9007199254000000},
		{"9007199M", 9007199000000000},
		{"9007G", 9007000000000000},
		{"8796093022Ki", 9007199254528000},
		{"8589934Mi", 8589934 * 1048576000},
		{"8388Gi", 8388 * 1073741824000},
	} {
		if got, e := Parse(c.s); got != c.want || e != api.OK {
			t.Errorf("Parse(%q) = %d, %d, want %d", c.s, got, e, c.want)
		}
	}
}

func TestParseOutOfForm(t *testing.T) {
	for _, s := range []string{
		"", " ", "m", "k", "M", "G", "Ki", "Mi", "Gi", "-", "+", ".",
		// a nought ahead of others
		"00", "01", "00m", "01m", "010Ki", "000000000000000000000000000001",
		// signs, points, exponents, and digits set apart or of another base
		"-1", "+1", "-0", "-1m", "1.5", "1.0", ".5", "1,5", "1e3", "1E3", "0x10", "1_000", "1'000",
		// units that are none
		"1K", "1g", "1ki", "1KI", "1mi", "1gi", "1i", "1mm", "1kk", "1Kim", "1Kii", "1mKi", "1u", "1T", "1Ti", "1KiB", "1B", "1M1", "1m1",
		// blanks and what can't be seen
		" 1", "1 ", "1 m", "1m ", "\t1", "1\n", "1\x00", "\x001", "1m\x00", "\xff", "1\xff", "\ufeff1",
		// neighbours of digits
		"/", ":", "1/", "1:", "/1", ":1", "1:m", "1/m",
		// digits and letters that only look so
		"\u0661", "1\u0661", "\uff11", "1\u043c", "\u00b2", "1\u212ai",
		// out of form comes ahead of too much
		"9007199254740993x", "99999999999999999999999999999K", "099999999999999999999999999999", "18446744073709551616 ",
		strings.Repeat("9", 100000) + "i", strings.Repeat("0", 100000),
	} {
		if got, e := Parse(s); got != 0 || e != api.ErrForm {
			t.Errorf("Parse(%.40q) = %d, %d, want ErrForm", s, got, e)
		}
	}
}

func TestParseTooMuch(t *testing.T) {
	for _, s := range []string{
		// one more than the greatest of each unit
		"9007199254740993m", "9007199254741", "9007199255k", "9007200M", "9008G", "8796093023Ki", "8589935Mi", "8389Gi",
		// the greatest, in each unit but its own
		"9007199254740992", "9007199254740992k", "9007199254740992M", "9007199254740992G",
		"9007199254740992Ki", "9007199254740992Mi", "9007199254740992Gi",
		// as products modulo 2^64 these would be little, or nothing
		"18014398509481984Ki", "17592186044416Mi", "17179869184Gi", "2305843009213693952", "18446744073709552k",
		// numbers that go beyond 63 and 64 bits by themselves
		"9223372036854775807m", "9223372036854775808m", "18446744073709551615m",
		"18446744073709551616m", "18446744073709551617m", "18446744073709551616", "184467440737095516160Gi",
		strings.Repeat("9", 100000), "1" + strings.Repeat("0", 100000) + "m",
	} {
		if got, e := Parse(s); got != 0 || e != api.ErrRange {
			t.Errorf("Parse(%.40q) = %d, %d, want ErrRange", s, got, e)
		}
	}
}

var form = regexp.MustCompile(`^(0|[1-9][0-9]*)(m|k|M|G|Ki|Mi|Gi)?$`)

// parse is what Parse should answer, worked out without a bound.
func parse(s string) (api.Milli, api.Errno) {
	parts := form.FindStringSubmatch(s)
	if parts == nil {
		return 0, api.ErrForm
	}
	x, _ := new(big.Int).SetString(parts[1], 10)
	units := map[string]int64{
		"m": 1, "": 1e3, "k": 1e6, "M": 1e9, "G": 1e12, "Ki": 1024e3, "Mi": 1048576e3, "Gi": 1073741824e3,
	}
	return bounded(x.Mul(x, big.NewInt(units[parts[2]])))
}

// TestParseAllShort goes through each text of up to four bytes of those that matter.
func TestParseAllShort(t *testing.T) {
	texts := []string{""}
	for from := 0; len(texts[from]) < 4; from++ {
		for _, b := range []string{"0", "1", "9", "m", "k", "K", "M", "G", "g", "i", "-", "+", ".", " ", "e"} {
			texts = append(texts, texts[from]+b)
		}
	}
	for _, s := range texts {
		got, e := Parse(s)
		if want, we := parse(s); got != want || e != we {
			t.Fatalf("Parse(%q) = %d, %d, want %d, %d", s, got, e, want, we)
		}
	}
}

// TestParseAroundTheEnd goes around the end of each unit, and of 64 bits.
func TestParseAroundTheEnd(t *testing.T) {
	for unit, thousandths := range map[string]int64{
		"m": 1, "": 1e3, "k": 1e6, "M": 1e9, "G": 1e12, "Ki": 1024e3, "Mi": 1048576e3, "Gi": 1073741824e3,
	} {
		for _, around := range []*big.Int{
			big.NewInt(most / thousandths),
			new(big.Int).Lsh(big.NewInt(1), 63),
			new(big.Int).Lsh(big.NewInt(1), 64),
			new(big.Int).Div(new(big.Int).Lsh(big.NewInt(1), 64), big.NewInt(thousandths)),
		} {
			for by := int64(-20); by <= 20; by++ {
				s := new(big.Int).Add(around, big.NewInt(by)).String() + unit
				got, e := Parse(s)
				if want, we := parse(s); got != want || e != we {
					t.Errorf("Parse(%q) = %d, %d, want %d, %d", s, got, e, want, we)
				}
			}
		}
	}
}

func TestTextTable(t *testing.T) {
	for _, c := range []struct {
		m    api.Milli
		want string
	}{
		{0, "0"}, {1, "1m"}, {10, "10m"}, {500, "500m"}, {999, "999m"},
		{1000, "1"}, {1001, "1001m"}, {1500, "1500m"}, {2000, "2"}, {2048000, "2048"},
		{1000000, "1000"}, {1000000000, "1000000"}, {1000000000001, "1000000000001m"},
		{most, "9007199254740992m"}, {most - 992, "9007199254740"}, {most - 1, "9007199254740991m"},
		{-1, "?"}, {-1000, "?"}, {most + 1, "?"}, {most + 8, "?"}, {math.MinInt64, "?"}, {math.MaxInt64, "?"},
	} {
		if got := Text(c.m); got != c.want {
			t.Errorf("Text(%d) = %q, want %q", c.m, got, c.want)
		}
	}
}

// TestTextIsThatQuantitys is P2.2: the text is that quantity's, and no other's.
func TestTextIsThatQuantitys(t *testing.T) {
	check := func(m api.Milli) {
		s := Text(m)
		if got, e := Parse(s); got != m || e != api.OK {
			t.Fatalf("Parse(Text(%d)) = Parse(%q) = %d, %d", m, s, got, e)
		}
		if whole := !strings.HasSuffix(s, "m"); whole != (m%1000 == 0) {
			t.Fatalf("Text(%d) = %q", m, s)
		}
	}
	for m := api.Milli(0); m <= 20000; m++ {
		check(m)
		check(most - m)
		check(m * m * m)
	}
	for _, base := range []api.Milli{2, 10, 1024} {
		for x := base; x < most; x *= base {
			check(x - 1)
			check(x)
			check(x + 1)
		}
	}
}

func TestTextOfWhatIsntRight(t *testing.T) {
	for _, m := range ends {
		if (Text(m) == "?") != !right(m) {
			t.Errorf("Text(%d) = %q", m, Text(m))
		}
	}
}

func TestRight(t *testing.T) {
	for _, m := range ends {
		if Right(m) != right(m) {
			t.Errorf("Right(%d) = %v", m, Right(m))
		}
	}
}

func TestAddTable(t *testing.T) {
	for _, c := range []struct {
		a, b, want api.Milli
		e          api.Errno
	}{
		{0, 0, 0, api.OK},
		{500, 1500, 2000, api.OK},
		{0, most, most, api.OK},
		{most, 0, most, api.OK},
		{most - 1, 1, most, api.OK},
		{most / 2, most / 2, most, api.OK},
		{most, 1, 0, api.ErrRange},
		{1, most, 0, api.ErrRange},
		{most, most, 0, api.ErrRange},
		{-1, 1, 0, api.ErrArg},
		{1, -1, 0, api.ErrArg},
		// the sum would be right, and one of them isn't
		{most + 1, -1, 0, api.ErrArg},
		{most, -1, 0, api.ErrArg},
		{-1, most + 1, 0, api.ErrArg},
		// ErrArg comes ahead of ErrRange
		{most, most + 1, 0, api.ErrArg},
		{most + 1, most, 0, api.ErrArg},
		{math.MaxInt64, math.MaxInt64, 0, api.ErrArg},
		{math.MinInt64, math.MinInt64, 0, api.ErrArg},
	} {
		if got, e := Add(c.a, c.b); got != c.want || e != c.e {
			t.Errorf("Add(%d, %d) = %d, %d, want %d, %d", c.a, c.b, got, e, c.want, c.e)
		}
	}
}

func TestAddIsTheSum(t *testing.T) {
	for _, a := range ends {
		for _, b := range ends {
			want, we := api.Milli(0), api.ErrArg
			if right(a) && right(b) {
				want, we = bounded(new(big.Int).Add(big.NewInt(int64(a)), big.NewInt(int64(b))))
			}
			if got, e := Add(a, b); got != want || e != we {
				t.Errorf("Add(%d, %d) = %d, %d, want %d, %d", a, b, got, e, want, we)
			}
		}
	}
}

func TestSubTable(t *testing.T) {
	for _, c := range []struct {
		a, b, want api.Milli
		e          api.Errno
	}{
		{0, 0, 0, api.OK},
		{2000, 500, 1500, api.OK},
		{most, 0, most, api.OK},
		{most, most, 0, api.OK},
		{most, most - 1, 1, api.OK},
		{1, 2, 0, api.ErrFew},
		{0, most, 0, api.ErrFew},
		{most - 1, most, 0, api.ErrFew},
		{most + 1, 1, 0, api.ErrArg},
		{1, -1, 0, api.ErrArg},
		// ErrArg comes ahead of ErrFew
		{-1, 0, 0, api.ErrArg},
		{-2, -1, 0, api.ErrArg},
		{0, most + 1, 0, api.ErrArg},
		{math.MinInt64, math.MaxInt64, 0, api.ErrArg},
		{math.MaxInt64, math.MinInt64, 0, api.ErrArg},
	} {
		if got, e := Sub(c.a, c.b); got != c.want || e != c.e {
			t.Errorf("Sub(%d, %d) = %d, %d, want %d, %d", c.a, c.b, got, e, c.want, c.e)
		}
	}
}

func TestSubTakesBackWhatAddAdded(t *testing.T) {
	for _, a := range ends {
		for _, b := range ends {
			want, we := a-b, api.OK
			switch {
			case !right(a) || !right(b):
				want, we = 0, api.ErrArg
			case a < b:
				want, we = 0, api.ErrFew
			}
			got, e := Sub(a, b)
			if got != want || e != we {
				t.Errorf("Sub(%d, %d) = %d, %d, want %d, %d", a, b, got, e, want, we)
			}
			if sum, e := Add(got, b); we == api.OK && (sum != a || e != api.OK) {
				t.Errorf("Add(%d, %d) = %d, %d, want %d", got, b, sum, e, a)
			}
		}
	}
}

func TestTimesTable(t *testing.T) {
	for _, c := range []struct {
		a    api.Milli
		n    int
		want api.Milli
		e    api.Errno
	}{
		{0, 0, 0, api.OK},
		{500, 3, 1500, api.OK},
		{500, 1, 500, api.OK},
		{500, 0, 0, api.OK},
		{0, math.MaxInt, 0, api.OK},
		{most, 0, 0, api.OK},
		{most, 1, most, api.OK},
		{1, most, most, api.OK},
		{most / 2, 2, most, api.OK},
		{1 << 21, 1 << 32, most, api.OK},
		{most, 2, 0, api.ErrRange},
		{1, most + 1, 0, api.ErrRange},
		{most/2 + 1, 2, 0, api.ErrRange},
		{most, math.MaxInt, 0, api.ErrRange},
		// as products modulo 2^64 these would be nothing
		{1 << 32, 1 << 32, 0, api.ErrRange},
		{1 << 53, 1 << 11, 0, api.ErrRange},
		{2, 1 << 62, 0, api.ErrRange},
		{4, 1 << 62, 0, api.ErrRange},
		{-1, 1, 0, api.ErrArg},
		{most + 1, 1, 0, api.ErrArg},
		{1, -1, 0, api.ErrArg},
		{0, -1, 0, api.ErrArg},
		{-1, 0, 0, api.ErrArg},
		{-1, -1, 0, api.ErrArg},
		{most + 1, 0, 0, api.ErrArg},
		// ErrArg comes ahead of ErrRange
		{most + 1, 2, 0, api.ErrArg},
		{most, -2, 0, api.ErrArg},
		{math.MaxInt64, math.MaxInt, 0, api.ErrArg},
		{math.MinInt64, math.MinInt, 0, api.ErrArg},
		{most, math.MinInt, 0, api.ErrArg},
	} {
		if got, e := Times(c.a, c.n); got != c.want || e != c.e {
			t.Errorf("Times(%d, %d) = %d, %d, want %d, %d", c.a, c.n, got, e, c.want, c.e)
		}
	}
}

func TestTimesIsTheProduct(t *testing.T) {
	for _, a := range ends {
		for _, n := range counts {
			want, we := api.Milli(0), api.ErrArg
			if right(a) && n >= 0 {
				want, we = bounded(new(big.Int).Mul(big.NewInt(int64(a)), big.NewInt(int64(n))))
			}
			if got, e := Times(a, n); got != want || e != we {
				t.Errorf("Times(%d, %d) = %d, %d, want %d, %d", a, n, got, e, want, we)
			}
		}
	}
}

func TestSumTable(t *testing.T) {
	for _, c := range []struct {
		l    []api.Milli
		want api.Milli
		e    api.Errno
	}{
		{nil, 0, api.OK},
		{[]api.Milli{}, 0, api.OK},
		{[]api.Milli{0}, 0, api.OK},
		{[]api.Milli{700}, 700, api.OK},
		{[]api.Milli{1, 20, 300}, 321, api.OK},
		{[]api.Milli{500, 500, 500, 500}, 2000, api.OK},
		{[]api.Milli{most}, most, api.OK},
		{[]api.Milli{0, most, 0}, most, api.OK},
		{[]api.Milli{most / 2, most / 2}, most, api.OK},
		{[]api.Milli{most - 1, 1}, most, api.OK},
		{[]api.Milli{most, 1}, 0, api.ErrRange},
		{[]api.Milli{most, most}, 0, api.ErrRange},
		{[]api.Milli{-1}, 0, api.ErrArg},
		{[]api.Milli{most + 1}, 0, api.ErrArg},
		{[]api.Milli{math.MinInt64}, 0, api.ErrArg},
		{[]api.Milli{math.MaxInt64, math.MaxInt64}, 0, api.ErrArg},
		{[]api.Milli{1, 2, -3}, 0, api.ErrArg},
		{[]api.Milli{1, most + 1}, 0, api.ErrArg},
		// the first error is the answer, whatever comes behind it
		{[]api.Milli{most, 1, -1}, 0, api.ErrRange},
		{[]api.Milli{most, 1, most + 1}, 0, api.ErrRange},
		{[]api.Milli{-1, most, 1}, 0, api.ErrArg},
		{[]api.Milli{most, -1, 1}, 0, api.ErrArg},
		{[]api.Milli{most, 1, 0, 0}, 0, api.ErrRange},
		{[]api.Milli{-1, 1, 1}, 0, api.ErrArg},
		{[]api.Milli{1, -1, 1}, 0, api.ErrArg},
	} {
		before := slices.Clone(c.l)
		l := slices.Values(c.l)
		for range 2 { // gone through again, it is the same
			if got, e := Sum(l); got != c.want || e != c.e {
				t.Errorf("Sum(%v) = %d, %d, want %d, %d", c.l, got, e, c.want, c.e)
			}
		}
		if !slices.Equal(before, c.l) {
			t.Errorf("Sum changed %v to %v", before, c.l)
		}
	}
}

func TestSumOfNoIterator(t *testing.T) {
	if got, e := Sum(nil); got != 0 || e != api.OK {
		t.Errorf("Sum(nil) = %d, %d", got, e)
	}
}

func TestSumOfMany(t *testing.T) {
	ones := func(n int) iter.Seq[api.Milli] {
		return func(yield func(api.Milli) bool) {
			for range n {
				if !yield(most / 1000000) {
					return
				}
			}
		}
	}
	if got, e := Sum(ones(1000000)); got != most/1000000*1000000 || e != api.OK {
		t.Errorf("Sum of a million = %d, %d", got, e)
	}
	if got, e := Sum(ones(1000001)); got != 0 || e != api.ErrRange {
		t.Errorf("Sum of a million and one = %d, %d", got, e)
	}
}

// TestSumAsksInOrder: each is asked for once, in order, and none behind the first error.
func TestSumAsksInOrder(t *testing.T) {
	var told []api.Milli
	endless := func(yield func(api.Milli) bool) {
		for m := api.Milli(3); ; m-- {
			told = append(told, m)
			if !yield(m) {
				return
			}
		}
	}
	if got, e := Sum(endless); got != 0 || e != api.ErrArg {
		t.Errorf("Sum of 3, 2, 1, 0, -1 .. = %d, %d", got, e)
	}
	if want := []api.Milli{3, 2, 1, 0, -1}; !slices.Equal(told, want) {
		t.Errorf("asked for %v, want %v", told, want)
	}
}

// heedless is an iterator that goes on though it is told to stop.
func heedless(l ...api.Milli) iter.Seq[api.Milli] {
	return func(yield func(api.Milli) bool) {
		for _, m := range l {
			yield(m)
		}
	}
}

func TestSumOfHeedless(t *testing.T) {
	for _, c := range []struct {
		l    iter.Seq[api.Milli]
		want api.Milli
		e    api.Errno
	}{
		{heedless(), 0, api.OK},
		{heedless(1, 2, 3), 6, api.OK},
		{heedless(most, 1), 0, api.ErrRange},
		{heedless(most, 1, 0), 0, api.ErrRange},
		{heedless(most, 1, -1, -1), 0, api.ErrRange},
		{heedless(-1, most, 1), 0, api.ErrArg},
	} {
		if got, e := Sum(c.l); got != c.want || e != c.e {
			t.Errorf("Sum = %d, %d, want %d, %d", got, e, c.want, c.e)
		}
	}
}

func TestSumOfPanicking(t *testing.T) {
	panicking := func(l ...api.Milli) iter.Seq[api.Milli] {
		return func(yield func(api.Milli) bool) {
			heedless(l...)(yield)
			panic("no more")
		}
	}
	for _, c := range []struct {
		l iter.Seq[api.Milli]
		e api.Errno
	}{
		{panicking(), api.ErrArg},
		{panicking(1, 2), api.ErrArg},
		{panicking(most, 1), api.ErrRange},
	} {
		if got, e := Sum(c.l); got != 0 || e != c.e {
			t.Errorf("Sum = %d, %d, want %d", got, e, c.e)
		}
	}
}
