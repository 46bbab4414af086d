package net_test

import (
	"math/rand"
	"strings"
	"testing"

	"stemma/api"
	"stemma/net"
)

type letter struct {
	from, to int
	text     string
}

// model says the chapter in the plainest way, with a list that is made anew by each call.
type model struct {
	mtu, most, lost int
	list            []letter
}

func (m *model) send(l letter) api.Errno {
	switch {
	case l.from < 0 || l.to < 0:
		return api.ErrArg
	case len(l.text) > m.mtu:
		return api.ErrLong
	case len(m.list) == m.most:
		m.lost++
		return api.ErrFull
	}
	m.list = append(m.list, l)
	return api.OK
}

func (m *model) at(i int) (letter, bool) {
	for k, l := range m.list {
		if k == i {
			return l, true
		}
	}
	return letter{}, false
}

func (m *model) take(i int) (letter, bool) {
	l, ok := m.at(i)
	var rest []letter
	for k, l := range m.list {
		if k != i {
			rest = append(rest, l)
		}
	}
	m.list = rest
	return l, ok
}

func (m *model) twice(i int) bool {
	l, ok := m.at(i)
	if !ok || len(m.list) == m.most {
		return false
	}
	m.list = append(m.list, l)
	return true
}

func (m *model) same(t *testing.T, n *net.Net) {
	t.Helper()
	if n.Len() != len(m.list) || n.Lost() != m.lost {
		t.Fatal(n.Len(), len(m.list), n.Lost(), m.lost)
	}
	for i := range m.list {
		from, to, b, ok := n.At(i)
		if l := (letter{from, to, string(b)}); l != m.list[i] || !ok {
			t.Fatalf("datagram %d: %v, not %v", i, l, m.list[i])
		}
	}
}

func step(t *testing.T, r *rand.Rand, n *net.Net, m *model) {
	i := r.Intn(m.most+3) - 1
	switch r.Intn(8) {
	case 0, 1, 2, 3:
		l := letter{r.Intn(40) - 1, r.Intn(40) - 1, strings.Repeat(string(rune('a'+r.Intn(26))), r.Intn(67))}
		if e, want := n.Send(l.from, l.to, []byte(l.text)), m.send(l); e != want {
			t.Fatal(l, e, want)
		}
	case 4, 5:
		if got, want := n.Twice(i), m.twice(i); got != want {
			t.Fatal("Twice", i, got, want)
		}
	default:
		from, to, b, ok := n.Take(i)
		want, there := m.take(i)
		if got := (letter{from, to, string(b)}); got != want || ok != there {
			t.Fatal("Take", i, got, ok, want, there)
		}
	}
}

func TestAsTheModel(t *testing.T) {
	for seed := range int64(100) {
		r := rand.New(rand.NewSource(seed))
		m := &model{mtu: 64, most: 1 + r.Intn(12)}
		n := open(t, m.mtu, m.most)
		for range 300 {
			step(t, r, n, m)
			m.same(t, n)
		}
	}
}
