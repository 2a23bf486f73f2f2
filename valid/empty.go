package valid

import "trimtab/api"

// alone is whether the shapes of all other kinds than an object's are empty.
// A list that isn't nil, but has nothing, is empty too.
func alone(o api.Object) bool {
	return (o.Kind == api.KindWorkload || noWorkload(o.Workload)) &&
		(o.Kind == api.KindPod || noPod(o.Pod)) &&
		(o.Kind == api.KindNode || noNode(o.Node)) &&
		(o.Kind == api.KindGroup || noGroup(o.Group)) &&
		(o.Kind == api.KindHpa || noHpa(o.Hpa))
}

func noWorkload(w api.Workload) bool {
	return w.Replicas == 0 && w.Ask == api.Resources{} &&
		len(w.Labels) == 0 && len(w.Select) == 0 && len(w.Tolerate) == 0 && w.Warm == 0
}

func noPod(p api.Pod) bool {
	return p.Owner == "" && p.Node == "" && p.Phase == 0 && p.Since == 0 && p.Ask == api.Resources{} &&
		len(p.Labels) == 0 && len(p.Select) == 0 && len(p.Tolerate) == 0 && p.Warm == 0
}

func noNode(n api.Node) bool {
	return n.Group == "" && n.Size == api.Resources{} &&
		len(n.Labels) == 0 && len(n.Taints) == 0 && n.Since == 0 && !n.Closed
}

func noGroup(g api.Group) bool {
	return g.Min == 0 && g.Max == 0 && g.Target == 0 && g.Size == api.Resources{} &&
		len(g.Labels) == 0 && len(g.Taints) == 0 && g.Priority == 0
}

func noHpa(h api.Hpa) bool {
	return h.Target == "" && h.Min == 0 && h.Max == 0 && len(h.Metrics) == 0 && h.Tolerance == 0 &&
		noBehavior(h.Up) && noBehavior(h.Down) && len(h.Past) == 0
}

func noBehavior(b api.Behavior) bool {
	return b.Window == 0 && b.Pick == 0 && len(b.Policies) == 0
}
