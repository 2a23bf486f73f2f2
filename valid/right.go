package valid

import (
	"slices"

	"trimtab/api"
	"trimtab/label"
	"trimtab/quant"
)

// within is whether a number is from one to another, both of them too.
func within[T ~int | ~int64](x, least, most T) bool { return least <= x && x <= most }

// every is whether a row has so few to so many things, and each is right.
func every[T any](row []T, least, most int, right func(T) bool) bool {
	return within(len(row), least, most) &&
		!slices.ContainsFunc(row, func(x T) bool { return !right(x) })
}

// right is whether the shape of an object's kind is.
func right(o api.Object) bool {
	switch o.Kind {
	case api.KindWorkload:
		return workload(o.Workload)
	case api.KindPod:
		return pod(o.Pod)
	case api.KindNode:
		return node(o.Node)
	case api.KindGroup:
		return group(o.Group)
	case api.KindHpa:
		return hpa(o.Hpa)
	}
	return false
}

func workload(w api.Workload) bool {
	return within(w.Replicas, 0, api.MaxReplicas) && resources(w.Ask) &&
		label.Right(w.Labels) && label.Asks(w.Select) && label.Right(w.Tolerate) &&
		within(w.Warm, 0, api.MaxPeriod)
}

func pod(p api.Pod) bool {
	asked := api.Workload{Ask: p.Ask, Labels: p.Labels, Select: p.Select, Tolerate: p.Tolerate, Warm: p.Warm}
	return label.Name(p.Owner) && maybeName(p.Node) && phase(p) &&
		within(p.Since, 0, api.MaxClock) && workload(asked)
}

// phase is whether a pod's phase is one, and goes with its node: a Pending one
// has none, a Failed one may be without, all others have one.
func phase(p api.Pod) bool {
	if p.Node == "" {
		return p.Phase == api.Pending || p.Phase == api.Failed
	}
	return within(p.Phase, api.Bound, api.Failed)
}

func node(n api.Node) bool {
	return maybeName(n.Group) && resources(n.Size) &&
		label.Right(n.Labels) && label.Right(n.Taints) && within(n.Since, 0, api.MaxClock)
}

func group(g api.Group) bool {
	return within(g.Max, 0, api.MaxNodes) && within(g.Min, 0, g.Max) && within(g.Target, g.Min, g.Max) &&
		resources(g.Size) && label.Right(g.Labels) && label.Right(g.Taints) &&
		within(g.Priority, 0, 1000)
}

func hpa(h api.Hpa) bool {
	return label.Name(h.Target) && within(h.Max, 1, api.MaxReplicas) && within(h.Min, 1, h.Max) &&
		every(h.Metrics, 1, api.MaxMetrics, metric) && within(h.Tolerance, 0, 1000) &&
		behavior(h.Up) && behavior(h.Down) && past(h.Past)
}

// maybeName is whether a text is a name or empty.
func maybeName(s string) bool { return s == "" || label.Name(s) }

// some is whether a quantity is one, and more than nothing.
func some(m api.Milli) bool { return quant.Right(m) && m >= 1 }

func resources(r api.Resources) bool { return some(r.CPU) && quant.Right(r.Mem) }

func metric(m api.Metric) bool {
	if m.Kind == api.ByResource && m.Name != "cpu" && m.Name != "mem" {
		return false
	}
	return within(m.Kind, api.ByResource, api.ByExternal) && label.Name(m.Name) && some(m.Target)
}

func behavior(b api.Behavior) bool {
	return within(b.Window, 0, api.MaxPeriod) && within(b.Pick, api.PickMax, api.PickNone) &&
		every(b.Policies, 0, api.MaxPolicies, policy)
}

func policy(p api.Policy) bool {
	return within(p.Value, 1, api.MaxReplicas) && within(p.Period, 1, api.MaxPeriod)
}

// past is whether what an Hpa has done is right, and its ticks never fall.
func past(done []api.Scaled) bool {
	last := int64(0)
	return every(done, 0, api.MaxRing, func(s api.Scaled) bool {
		least := last
		last = s.At
		return within(s.At, least, api.MaxClock) &&
			within(s.From, 0, api.MaxReplicas) && within(s.To, 0, api.MaxReplicas)
	})
}
