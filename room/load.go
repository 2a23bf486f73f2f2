package room

import (
	"math"
	"math/bits"

	"trimtab/api"
)

// load is what pods ask for together, and how many they are.
type load struct {
	cpu, mem sum
	pods     int
}

// loads is what all pods of a row that are Bound or Ready ask for, by the names
// of their nodes.
func loads(pods []api.Object) map[string]load {
	asked := map[string]load{}
	for _, o := range pods {
		p := o.Pod
		if o.Kind == api.KindPod && (p.Phase == api.Bound || p.Phase == api.Ready) {
			asked[p.Node] = asked[p.Node].with(p.Ask)
		}
	}
	return asked
}

// with is a load with one more pod.
func (l load) with(ask api.Resources) load {
	return load{cpu: l.cpu.plus(ask.CPU), mem: l.mem.plus(ask.Mem), pods: l.pods + 1}
}

// sum is high times 2^64, and low. Rows of pods, and numbers at their ends, go
// beyond 64 bits, and what had gone round would be taken for room.
type sum struct {
	high int64
	low  uint64
}

// plus is a sum with one more.
func (s sum) plus(m api.Milli) sum {
	low, carry := bits.Add64(s.low, uint64(m), 0)
	return sum{high: s.high + int64(m>>63) + int64(carry), low: low}
}

// minus is a sum with one less.
func (s sum) minus(m api.Milli) sum {
	low, borrow := bits.Sub64(s.low, uint64(m), 0)
	return sum{high: s.high - int64(m>>63) - int64(borrow), low: low}
}

// milli is a sum, or the end of the numbers that it is beyond.
func (s sum) milli() api.Milli {
	m := api.Milli(s.low)
	switch {
	case s.high == int64(m>>63):
		return m
	case s.high < 0:
		return math.MinInt64
	}
	return math.MaxInt64
}

// left is what is left of a size behind what is used: below 0, if that is more.
func left(size, used api.Milli) sum { return sum{}.plus(size).minus(used) }

// enough is whether what is asked for is at most what is left.
func enough(left sum, ask api.Milli) bool { return left.minus(ask).high >= 0 }
