package pack

import (
	"slices"

	"stemma/api"
	"stemma/delta"
	"stemma/object"
)

// resolver finds out what the entries of l stand for.
type resolver struct {
	l      []Raw
	get    func(id string) (int, []byte, bool)
	bases  []base             // of each entry
	made   []outcome          // of each entry
	open   []int              // the entries that have no outcome yet, in order
	places map[int]int        // the first entry at each offset
	ids    map[string]int     // the first entry with each ID, of those that are resolved
	told   map[string]outcome // what get told
}

// outcome is what became of an entry: an object, or an error. The zero value stands for neither.
type outcome struct {
	object api.Object
	deltas int // on one another, by which the object is made
	err    api.Errno
	known  bool
}

// Resolve tells the objects of entries. get is asked for bases that are not among them.
func Resolve(l []Raw, get func(id string) (int, []byte, bool)) ([]api.Object, api.Errno) {
	r := &resolver{l: l, get: get, made: make([]outcome, len(l)), places: map[int]int{}, ids: map[string]int{}, told: map[string]outcome{}}
	r.begin()
	for r.pass() || r.ask() {
	}
	return r.objects()
}

// begin resolves the entries that are no deltas.
func (r *resolver) begin() {
	for i, raw := range r.l {
		if _, ok := r.places[raw.At]; !ok {
			r.places[raw.At] = i
		}
		b := baseOf(raw)
		r.bases = append(r.bases, b)
		if b != nil {
			r.open = append(r.open, i)
		} else {
			r.keep(i, outcome{object: objectOf(raw.Kind, slices.Clone(raw.Data)), known: true})
		}
	}
}

// pass goes through the open entries, and tells whether one has an outcome now. What an entry became counts for those behind it at once.
func (r *resolver) pass() bool {
	var open []int
	for _, i := range r.open {
		on := r.within(i)
		if on.known {
			r.keep(i, r.apply(i, on))
		} else {
			open = append(open, i)
		}
	}
	some := len(open) < len(r.open)
	r.open = open
	return some
}

// within tells what the base of an entry became, if that is an entry too.
func (r *resolver) within(i int) outcome {
	if x, ok := r.bases[i].(before); ok {
		if at, ok := r.places[x.at]; ok && at < i {
			return r.made[at]
		}
		return outcome{err: api.ErrForm, known: true}
	}
	if x, ok := r.bases[i].(named); ok {
		if at, ok := r.ids[x.id]; ok {
			return r.made[at]
		}
	}
	return outcome{}
}

// ask tells whether get knows the base of an open entry: the first such one has an outcome then.
func (r *resolver) ask() bool {
	for n, i := range r.open {
		x, ok := r.bases[i].(named)
		if !ok {
			continue
		}
		if on := r.outside(x.id); on.known {
			r.keep(i, r.apply(i, on))
			r.open = slices.Delete(r.open, n, n+1)
			return true
		}
	}
	return false
}

// outside tells what get knows by an ID, and asks it only once.
func (r *resolver) outside(id string) outcome {
	if o, ok := r.told[id]; ok {
		return o
	}
	var o outcome
	if r.get != nil {
		o = told(id, r.get)
	}
	r.told[id] = o
	return o
}

func told(id string, get func(id string) (int, []byte, bool)) outcome {
	kind, body, ok := get(id)
	if !ok || object.Name(kind) == "" {
		return outcome{}
	}
	o := objectOf(kind, slices.Clone(body)) // get may use its memory again
	return outcome{object: o, known: o.ID == id}
}

// apply tells what an entry becomes on its base.
func (r *resolver) apply(i int, on outcome) outcome {
	if on.err != api.OK {
		return outcome{err: on.err, known: true}
	}
	if on.deltas >= api.MaxDeep {
		return outcome{err: api.ErrForm, known: true}
	}
	body, e := delta.Apply(on.object.Body, r.l[i].Data, api.MaxObject)
	if e != api.OK {
		return outcome{err: e, known: true}
	}
	return outcome{object: objectOf(on.object.Kind, body), deltas: on.deltas + 1, known: true}
}

func objectOf(kind int, body []byte) api.Object {
	return api.Object{Kind: kind, Body: body, ID: object.ID(kind, body)}
}

// keep makes an outcome that of an entry.
func (r *resolver) keep(i int, o outcome) {
	o.object.At, o.object.CRC = r.l[i].At, r.l[i].CRC
	r.made[i] = o
	if o.err != api.OK {
		return
	}
	if first, ok := r.ids[o.object.ID]; !ok || i < first {
		r.ids[o.object.ID] = i
	}
}

// objects tells what all entries became, or the first error.
func (r *resolver) objects() ([]api.Object, api.Errno) {
	var out []api.Object
	for _, o := range r.made {
		if !o.known {
			return nil, api.ErrNone
		}
		if o.err != api.OK {
			return nil, o.err
		}
		out = append(out, o.object)
	}
	return out, api.OK
}
