package resource

import "slices"

// part is a range of numbers or addresses, with both ends.
type part[T any] struct{ from, to T }

// line is a kind of things that have an order, and neighbours in it.
type line[T any] struct {
	compare func(a, b T) int
	next    func(x T) (T, bool) // false if no neighbour follows
	before  func(x T) T         // asked only where there is a neighbour before
}

func (l line[T]) valid(parts []part[T]) bool {
	for i, p := range parts {
		if l.compare(p.from, p.to) > 0 {
			return false
		}
		if i > 0 && (l.compare(parts[i-1].to, p.from) >= 0 || l.touch(parts[i-1], p)) {
			return false
		}
	}
	return true
}

// touch reports whether b begins right after a.
func (l line[T]) touch(a, b part[T]) bool {
	n, ok := l.next(a.to)
	return ok && l.compare(n, b.from) == 0
}

// join returns the one form of what is in any of the parts.
func (l line[T]) join(parts []part[T]) []part[T] {
	sorted := slices.Clone(parts)
	slices.SortFunc(sorted, func(a, b part[T]) int { return l.compare(a.from, b.from) })
	var out []part[T]
	for _, p := range sorted {
		last := len(out) - 1
		switch {
		case last < 0 || l.compare(out[last].to, p.from) < 0 && !l.touch(out[last], p):
			out = append(out, p)
		case l.compare(out[last].to, p.to) < 0:
			out[last].to = p.to
		}
	}
	return out
}

func (l line[T]) greater(a, b T) T {
	if l.compare(a, b) > 0 {
		return a
	}
	return b
}

func (l line[T]) lesser(a, b T) T {
	if l.compare(a, b) < 0 {
		return a
	}
	return b
}

func (l line[T]) intersect(a, b []part[T]) []part[T] {
	var out []part[T]
	for len(a) > 0 && len(b) > 0 {
		p := part[T]{l.greater(a[0].from, b[0].from), l.lesser(a[0].to, b[0].to)}
		if l.compare(p.from, p.to) <= 0 {
			out = append(out, p)
		}
		if l.compare(a[0].to, b[0].to) < 0 {
			a = a[1:]
		} else {
			b = b[1:]
		}
	}
	return out
}

func (l line[T]) minus(a, b []part[T]) []part[T] {
	var out []part[T]
	for _, p := range a {
		out = append(out, l.without(p, b)...)
	}
	return out
}

// without returns what is left of a part.
func (l line[T]) without(p part[T], b []part[T]) []part[T] {
	var out []part[T]
	for _, x := range b {
		if l.compare(x.to, p.from) < 0 || l.compare(x.from, p.to) > 0 {
			continue
		}
		if l.compare(x.from, p.from) > 0 {
			out = append(out, part[T]{p.from, l.before(x.from)})
		}
		if l.compare(x.to, p.to) >= 0 {
			return out
		}
		p.from, _ = l.next(x.to)
	}
	return append(out, p)
}

func (l line[T]) covers(a, b []part[T]) bool {
	for _, p := range b {
		for len(a) > 0 && l.compare(a[0].to, p.from) < 0 {
			a = a[1:]
		}
		if len(a) == 0 || l.compare(a[0].from, p.from) > 0 || l.compare(a[0].to, p.to) < 0 {
			return false
		}
	}
	return true
}
