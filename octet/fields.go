package octet

import "trimtab/api"

// course is a way through fields: to a writer, or from a reader. Each function
// here goes both ways, so that what is read can't be of another order than what
// is written.
type course struct {
	to   *Writer // nil: it is read
	from *Reader
	long bool // a text or a row was longer than its one byte can say
}

// numbers are fields that are whole numbers.
func numbers[T ~int | ~int64 | ~uint64](c *course, fields ...*T) {
	for _, x := range fields {
		if c.to != nil {
			c.to.Int(int64(*x))
		} else {
			*x = T(c.from.Int())
		}
	}
}

// texts are fields that are texts.
func texts(c *course, fields ...*string) {
	for _, s := range fields {
		if c.to == nil {
			*s = c.from.Text()
			continue
		}
		c.long = c.long || len(*s) > most
		c.to.Text(*s)
	}
}

// single is a field that is one byte.
func single(c *course, x *int) {
	if c.to != nil {
		c.to.Put(uint64(*x), 1)
	} else {
		*x = int(c.from.Get(1))
	}
}

// truth is a field that is a truth.
func truth(c *course, x *bool) {
	b := 0
	if *x {
		b = 1
	}
	single(c, &b)
	if b > 1 {
		c.from.spoil()
	}
	if c.to == nil {
		*x = b == 1
	}
}

// row is a field that is a row, each one of it gone through by a function.
func row[T any](c *course, l *[]T, each func(*course, *T)) {
	n := len(*l)
	if n > most {
		c.long = true
		return
	}
	single(c, &n)
	if c.to != nil {
		for i := range n {
			each(c, &(*l)[i])
		}
		return
	}
	for range n {
		var x T
		each(c, &x)
		if c.from.Bad() {
			return
		}
		*l = append(*l, x)
	}
}

// object is an object's fields, those of its kind's shape alone.
func object(c *course, o *api.Object) {
	single(c, &o.Kind)
	texts(c, &o.Name)
	numbers(c, &o.Version)
	switch o.Kind {
	case api.KindWorkload:
		workload(c, &o.Workload)
	case api.KindPod:
		pod(c, &o.Pod)
	case api.KindNode:
		node(c, &o.Node)
	case api.KindGroup:
		group(c, &o.Group)
	case api.KindHpa:
		hpa(c, &o.Hpa)
	default:
		c.from.spoil()
	}
}

func workload(c *course, w *api.Workload) {
	numbers(c, &w.Replicas)
	resources(c, &w.Ask)
	row(c, &w.Labels, label)
	row(c, &w.Select, require)
	row(c, &w.Tolerate, label)
	numbers(c, &w.Warm)
}

func pod(c *course, p *api.Pod) {
	texts(c, &p.Owner, &p.Node)
	numbers(c, &p.Phase)
	numbers(c, &p.Since)
	resources(c, &p.Ask)
	row(c, &p.Labels, label)
	row(c, &p.Select, require)
	row(c, &p.Tolerate, label)
	numbers(c, &p.Warm)
}

func node(c *course, n *api.Node) {
	texts(c, &n.Group)
	resources(c, &n.Size)
	row(c, &n.Labels, label)
	row(c, &n.Taints, label)
	numbers(c, &n.Since)
	truth(c, &n.Closed)
}

func group(c *course, g *api.Group) {
	numbers(c, &g.Min, &g.Max, &g.Target)
	resources(c, &g.Size)
	row(c, &g.Labels, label)
	row(c, &g.Taints, label)
	numbers(c, &g.Priority)
}

func hpa(c *course, h *api.Hpa) {
	texts(c, &h.Target)
	numbers(c, &h.Min, &h.Max)
	row(c, &h.Metrics, metric)
	numbers(c, &h.Tolerance)
	behavior(c, &h.Up)
	behavior(c, &h.Down)
	row(c, &h.Past, scaled)
}

func resources(c *course, r *api.Resources) { numbers(c, &r.CPU, &r.Mem) }

func label(c *course, l *api.Label) { texts(c, &l.Key, &l.Value) }

func require(c *course, r *api.Require) {
	texts(c, &r.Key, &r.Value)
	numbers(c, &r.Op)
}

func metric(c *course, m *api.Metric) {
	numbers(c, &m.Kind)
	texts(c, &m.Name)
	numbers(c, &m.Target)
}

func behavior(c *course, b *api.Behavior) {
	numbers(c, &b.Window, &b.Pick)
	row(c, &b.Policies, policy)
}

func policy(c *course, p *api.Policy) {
	truth(c, &p.Percent)
	numbers(c, &p.Value, &p.Period)
}

func scaled(c *course, s *api.Scaled) {
	numbers(c, &s.At)
	numbers(c, &s.From, &s.To)
}
