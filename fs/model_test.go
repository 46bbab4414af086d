package fs_test

import (
	"math/rand"
	"slices"
	"sort"
	"strings"
	"testing"

	"stemma/api"
	"stemma/fs"
)

// model says the chapter in the plainest way: maps, and functions that are made again after a crash.
type model struct {
	quota int
	texts []string
	safe  []int
	base  map[string]int
	names map[string]int
	log   []func(m map[string]int)
	left  int
	dead  bool
}

func (m *model) copy() *model {
	c := *m
	c.texts, c.safe, c.log = slices.Clone(m.texts), slices.Clone(m.safe), slices.Clone(m.log)
	c.base, c.names = cloned(m.base), cloned(m.names)
	return &c
}

func cloned(m map[string]int) map[string]int {
	c := map[string]int{}
	for k, v := range m {
		c[k] = v
	}
	return c
}

func (m *model) used() int {
	sum := 0
	for _, n := range m.names {
		sum += len(m.texts[n])
	}
	return sum
}

func (m *model) list() []string {
	var l []string
	for n := range m.names {
		l = append(l, n)
	}
	sort.Strings(l)
	return l
}

func badName(name string) bool {
	return name == "" || len(name) > 200 || strings.Contains(name, "\x00")
}

// errs tells the first error of a call on these names.
func (m *model) errs(there bool, names ...string) api.Errno {
	if m.dead {
		return api.ErrDead
	}
	for _, name := range names {
		if badName(name) {
			return api.ErrArg
		}
	}
	if _, ok := m.names[names[0]]; ok != there {
		if ok {
			return api.ErrThere
		}
		return api.ErrNone
	}
	return api.OK
}

func (m *model) do(e api.Errno, change func()) api.Errno {
	if e != api.OK {
		return e
	}
	if m.left == 0 {
		m.dead = true
		return api.ErrDead
	}
	m.left--
	change()
	return api.OK
}

func (m *model) log1(change func(n map[string]int)) {
	change(m.names)
	m.log = append(m.log, change)
}

func (m *model) create(name string) api.Errno {
	return m.do(m.errs(false, name), func() {
		id := len(m.texts)
		m.texts, m.safe = append(m.texts, ""), append(m.safe, 0)
		m.log1(func(n map[string]int) { n[name] = id })
	})
}

func (m *model) append(name, text string) api.Errno {
	e := m.errs(true, name)
	if e == api.OK && m.used()+len(text) > m.quota {
		e = api.ErrFull
	}
	return m.do(e, func() { m.texts[m.names[name]] += text })
}

func (m *model) sync(name string) api.Errno {
	return m.do(m.errs(true, name), func() { m.safe[m.names[name]] = len(m.texts[m.names[name]]) })
}

func (m *model) rename(from, to string) api.Errno {
	return m.do(m.errs(true, from, to), func() {
		if from != to {
			m.log1(func(n map[string]int) {
				n[to] = n[from]
				delete(n, from)
			})
		}
	})
}

func (m *model) remove(name string) api.Errno {
	return m.do(m.errs(true, name), func() {
		m.log1(func(n map[string]int) { delete(n, name) })
	})
}

func (m *model) syncNames() api.Errno {
	e := api.OK
	if m.dead {
		e = api.ErrDead
	}
	return m.do(e, func() { m.base, m.log = cloned(m.names), nil })
}

func (m *model) crash(names int, data []int) {
	m.names = m.base
	for i, change := range m.log {
		if i < names {
			change(m.names)
		}
	}
	for i, name := range m.list() {
		id := m.names[name]
		for k := 0; i < len(data) && k < data[i] && m.safe[id] < len(m.texts[id]); k++ {
			m.safe[id]++
		}
		m.texts[id] = m.texts[id][:m.safe[id]]
	}
	m.base, m.log, m.left, m.dead = cloned(m.names), nil, 1<<60, false
}

func (m *model) same(t *testing.T, f *fs.FS) {
	t.Helper()
	if f.Dead() != m.dead || f.Used() != m.used() {
		t.Fatal(f.Dead(), m.dead, f.Used(), m.used())
	}
	l := m.list()
	if m.dead {
		l = nil
	}
	if !slices.Equal(f.List(""), l) {
		t.Fatalf("%q, not %q", f.List(""), l)
	}
	for _, name := range l {
		if b, e := f.Read(name); e != api.OK || string(b) != m.texts[m.names[name]] {
			t.Fatalf("%q: %q, %v, not %q", name, b, e, m.texts[m.names[name]])
		}
	}
}

// step makes one call, the same one on both.
func step(r *rand.Rand, f *fs.FS, m *model) (got, want api.Errno) {
	names := []string{"a", "b", "c", "d/a", "d/b", "d", "\xff", "a\x00", ""}
	pick := func() string { return names[min(r.Intn(40)%10, 8)] }
	name, to := pick(), pick()
	switch r.Intn(16) {
	case 0, 1, 2:
		return f.Create(name), m.create(name)
	case 3, 4, 5, 6:
		text := strings.Repeat(string(rune('a'+r.Intn(26))), r.Intn(9))
		return f.Append(name, []byte(text)), m.append(name, text)
	case 7, 8:
		return f.Sync(name), m.sync(name)
	case 9, 10, 11:
		return f.Rename(name, to), m.rename(name, to)
	case 12:
		return f.Remove(name), m.remove(name)
	case 13:
		return f.SyncNames(), m.syncNames()
	case 14:
		if r.Intn(6) == 0 {
			k := r.Intn(8) - 2
			f.Fuse(k)
			m.left = k
			if k < 0 {
				m.left = 1 << 60
			}
		}
		return 0, 0
	}
	if m.dead || r.Intn(4) == 0 {
		n, data := r.Intn(12)-2, []int{}
		for range r.Intn(7) {
			data = append(data, r.Intn(12)-2)
		}
		f.Crash(n, data)
		m.crash(n, data)
	}
	return 0, 0
}

// TestAgainstModel drives two file systems in turn, and makes one a copy of the other at times.
func TestAgainstModel(t *testing.T) {
	type pair struct {
		f *fs.FS
		m *model
	}
	r := rand.New(rand.NewSource(1))
	for round := range 400 {
		var two [2]pair
		for i := range two {
			quota := 20 + r.Intn(60)
			two[i] = pair{open(t, quota), &model{quota: quota, base: map[string]int{}, names: map[string]int{}, left: 1 << 60}}
		}
		for i := range 400 {
			p := two[r.Intn(2)]
			if got, want := step(r, p.f, p.m); got != want {
				t.Fatalf("round %d, step %d: %v, not %v", round, i, got, want)
			}
			two[0].m.same(t, two[0].f)
			two[1].m.same(t, two[1].f)
			if r.Intn(30) == 0 {
				two[r.Intn(2)] = pair{p.f.Copy(), p.m.copy()}
			}
		}
	}
}
