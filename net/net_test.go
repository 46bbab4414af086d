package net_test

import (
	"bytes"
	"math"
	"testing"

	"stemma/api"
	"stemma/net"
)

func open(t *testing.T, mtu, most int) *net.Net {
	t.Helper()
	n, e := net.New(mtu, most)
	if n == nil || e != api.OK {
		t.Fatal(mtu, most, e)
	}
	return n
}

// sent makes a network with these datagrams in transit, the i-th one from i to 10+i.
func sent(t *testing.T, most int, texts ...string) *net.Net {
	t.Helper()
	n := open(t, 64, most)
	for i, text := range texts {
		want(t, n.Send(i, 10+i, []byte(text)), api.OK)
	}
	return n
}

func want(t *testing.T, got, e api.Errno) {
	t.Helper()
	if got != e {
		t.Errorf("%v, not %v", got, e)
	}
}

// holds fails unless exactly these texts are in transit, and tells them twice.
func holds(t *testing.T, n *net.Net, texts ...string) {
	t.Helper()
	if n.Len() != len(texts) {
		t.Fatalf("%d datagrams, not %d", n.Len(), len(texts))
	}
	for range 2 {
		for i, text := range texts {
			if _, _, b, ok := n.At(i); string(b) != text || !ok {
				t.Errorf("datagram %d: %q, %v, not %q", i, b, ok, text)
			}
		}
	}
}

func takes(t *testing.T, n *net.Net, i int, from, to int, text string) {
	t.Helper()
	if f, o, b, ok := n.Take(i); f != from || o != to || string(b) != text || !ok {
		t.Errorf("datagram %d: %d, %d, %q, %v, not %d, %d, %q", i, f, o, b, ok, from, to, text)
	}
}

// 2.1

func TestNewTakesBounds(t *testing.T) {
	for _, mtu := range []int{64, 65, 1499, 1500} {
		for _, most := range []int{1, 2, 999, 1000} {
			n := open(t, mtu, most)
			if n.Len() != 0 || n.Lost() != 0 {
				t.Error(n.Len(), n.Lost())
			}
			holds(t, n)
		}
	}
	for _, c := range [][2]int{{63, 1}, {1501, 1}, {0, 1}, {-64, 1}, {math.MinInt, 1}, {math.MaxInt, 1}, {64, 0}, {64, -1}, {64, 1001}, {64, math.MinInt}, {64, math.MaxInt}, {0, 0}} {
		if n, e := net.New(c[0], c[1]); n != nil || e != api.ErrArg {
			t.Error(c, n, e)
		}
	}
}

func TestSendGoesToTheEnd(t *testing.T) {
	n := sent(t, 10, "a", "", "ccc")
	holds(t, n, "a", "", "ccc")
	want(t, n.Send(math.MaxInt, 0, nil), api.OK)
	want(t, n.Send(0, math.MaxInt, []byte{0, 0xff}), api.OK)
	takes(t, n, 3, math.MaxInt, 0, "")
	takes(t, n, 3, 0, math.MaxInt, "\x00\xff")
	takes(t, n, 1, 1, 11, "")
	takes(t, n, 1, 2, 12, "ccc")
	takes(t, n, 0, 0, 10, "a")
}

func TestSendToItself(t *testing.T) {
	n := open(t, 64, 1)
	want(t, n.Send(0, 0, []byte("a")), api.OK)
	takes(t, n, 0, 0, 0, "a")
}

func TestSendErrorsHaveAnOrder(t *testing.T) {
	for _, mtu := range []int{64, 100, 1500} {
		n := open(t, mtu, 1)
		fits, long := make([]byte, mtu), make([]byte, mtu+1)
		refuse := func(lost int) {
			t.Helper()
			for _, from := range []int{-1, math.MinInt} {
				want(t, n.Send(from, 0, nil), api.ErrArg)
				want(t, n.Send(0, from, nil), api.ErrArg)
				want(t, n.Send(from, from, long), api.ErrArg)
				want(t, n.Send(0, from, long), api.ErrArg)
			}
			want(t, n.Send(0, 0, long), api.ErrLong)
			want(t, n.Send(0, 0, make([]byte, 1<<17)), api.ErrLong)
			if n.Lost() != lost {
				t.Error("lost", n.Lost(), lost)
			}
		}
		refuse(0)
		holds(t, n)
		want(t, n.Send(0, 0, fits), api.OK)
		refuse(0)
		for i := range 3 {
			want(t, n.Send(0, 0, fits), api.ErrFull)
			want(t, n.Send(7, 8, nil), api.ErrFull)
			refuse(2*i + 2)
		}
		holds(t, n, string(fits))
	}
}

func TestSendAgainWhenThereIsRoom(t *testing.T) {
	n := sent(t, 2, "a", "b")
	want(t, n.Send(5, 6, []byte("lost")), api.ErrFull)
	takes(t, n, 0, 0, 10, "a")
	want(t, n.Send(2, 12, []byte("c")), api.OK)
	want(t, n.Send(5, 6, []byte("lost")), api.ErrFull)
	holds(t, n, "b", "c")
	if n.Lost() != 2 {
		t.Error(n.Lost())
	}
}

func TestMostMayBeAThousand(t *testing.T) {
	n := open(t, 64, 1000)
	for i := range 1000 {
		want(t, n.Send(i, i+1, []byte{byte(i)}), api.OK)
	}
	want(t, n.Send(0, 0, nil), api.ErrFull)
	if n.Twice(0) || n.Len() != 1000 || n.Lost() != 1 {
		t.Error(n.Len(), n.Lost())
	}
	for i := range 1000 {
		takes(t, n, 0, i, i+1, string([]byte{byte(i)}))
	}
	holds(t, n)
}

func TestNoSuchDatagram(t *testing.T) {
	for _, n := range []*net.Net{open(t, 64, 3), sent(t, 3, "a"), sent(t, 3, "a", "b", "c")} {
		had := n.Len()
		for _, i := range []int{-1, had, had + 1, 1000, math.MinInt, math.MaxInt} {
			if from, to, b, ok := n.At(i); from != 0 || to != 0 || len(b) != 0 || ok {
				t.Error("At", i, from, to, b, ok)
			}
			if from, to, b, ok := n.Take(i); from != 0 || to != 0 || len(b) != 0 || ok {
				t.Error("Take", i, from, to, b, ok)
			}
			if n.Twice(i) {
				t.Error("Twice", i)
			}
		}
		if n.Len() != had || n.Lost() != 0 {
			t.Error(n.Len(), n.Lost())
		}
	}
}

func TestAtTellsAllOfADatagram(t *testing.T) {
	n := sent(t, 3, "a", "b", "c")
	for range 2 {
		if from, to, b, ok := n.At(1); from != 1 || to != 11 || string(b) != "b" || !ok {
			t.Error(from, to, b, ok)
		}
	}
	holds(t, n, "a", "b", "c")
}

func TestTakeKeepsTheOrderOfTheOthers(t *testing.T) {
	texts := []string{"a", "b", "c", "d"}
	for i := range texts {
		n := sent(t, 9, texts...)
		takes(t, n, i, i, 10+i, texts[i])
		var rest []string
		for k, text := range texts {
			if k != i {
				rest = append(rest, text)
			}
		}
		holds(t, n, rest...)
		want(t, n.Send(0, 0, []byte("e")), api.OK)
		holds(t, n, append(rest, "e")...)
	}
}

func TestTwicePutsACopyAtTheEnd(t *testing.T) {
	n := sent(t, 5, "a", "b", "c")
	if !n.Twice(1) || !n.Twice(3) {
		t.Error("no copy")
	}
	holds(t, n, "a", "b", "c", "b", "b")
	if n.Twice(0) || n.Twice(4) {
		t.Error("a copy too many")
	}
	holds(t, n, "a", "b", "c", "b", "b")
	if n.Lost() != 0 {
		t.Error("Twice counts as lost")
	}
	takes(t, n, 4, 1, 11, "b")
	takes(t, n, 1, 1, 11, "b")
	takes(t, n, 2, 1, 11, "b")
	holds(t, n, "a", "c")
}

func TestExamples(t *testing.T) {
	n := open(t, 64, 2)
	want(t, n.Send(0, 1, []byte("first")), api.OK)
	want(t, n.Send(1, 0, []byte("second")), api.OK)
	want(t, n.Send(1, 0, []byte("third")), api.ErrFull)
	if n.Len() != 2 || n.Lost() != 1 {
		t.Error(n.Len(), n.Lost())
	}
	if n.Twice(0) {
		t.Error("Twice")
	}
	takes(t, n, 0, 0, 1, "first")
	if !n.Twice(0) || n.Len() != 2 {
		t.Error("Twice", n.Len())
	}
	holds(t, n, "second", "second")
}

// 2.2

func TestEachIsTakenAsOftenAsSentAndCopied(t *testing.T) {
	n := sent(t, 100, "a", "b", "a", "")
	times := map[string]int{"a": 2, "b": 1, "": 1}
	for i := 0; i < 60; i++ {
		_, _, b, _ := n.At(i * 7 % n.Len())
		times[string(b)]++
		if !n.Twice(i * 7 % n.Len()) {
			t.Fatal(i)
		}
	}
	for i := 0; n.Len() > 0; i++ {
		_, _, b, ok := n.Take(i * 11 % n.Len())
		if !ok {
			t.Fatal(i)
		}
		times[string(b)]--
	}
	for text, left := range times {
		if left != 0 {
			t.Errorf("%q: %d left", text, left)
		}
	}
}

func TestBytesAreThoseThatWereSent(t *testing.T) {
	all := make([]byte, 256)
	for i := range all {
		all[i] = byte(i)
	}
	n := open(t, 256, 3)
	want(t, n.Send(1, 2, all), api.OK)
	want(t, n.Send(1, 2, bytes.Repeat([]byte{7}, 256)), api.OK)
	n.Twice(0)
	takes(t, n, 0, 1, 2, string(all))
	takes(t, n, 1, 1, 2, string(all))
}

// 2.3

func TestArgumentsAndResultsAreApart(t *testing.T) {
	n := open(t, 64, 4)
	b := append(make([]byte, 0, 64), "abcd"...)
	want(t, n.Send(0, 1, b[:2]), api.OK)
	want(t, n.Send(0, 1, b[:4]), api.OK)
	if string(b[:4]) != "abcd" || !bytes.Equal(b[4:64], make([]byte, 60)) {
		t.Error("the argument has changed", b[:64])
	}
	spoil(b)
	n.Twice(0)
	n.Twice(1)
	for range 2 {
		for i := range 4 {
			_, _, c, _ := n.At(i)
			spoil(c)
		}
	}
	holds(t, n, "ab", "abcd", "ab", "abcd")
	_, _, c, _ := n.Take(0)
	_, _, d, _ := n.Take(0)
	spoil(c)
	if string(d) != "abcd" {
		t.Error(d)
	}
	spoil(d)
	want(t, n.Send(0, 1, []byte("e")), api.OK)
	if string(c) != "!!" || string(d) != "!!!!" {
		t.Error(c, d)
	}
	holds(t, n, "ab", "abcd", "e")
}

func spoil(b []byte) {
	b = b[:cap(b)]
	for i := range b {
		b[i] = '!'
	}
}

func TestNetworksAreApart(t *testing.T) {
	a, b := sent(t, 2, "a", "b"), sent(t, 1, "c")
	want(t, a.Send(0, 0, nil), api.ErrFull)
	takes(t, a, 1, 1, 11, "b")
	holds(t, a, "a")
	holds(t, b, "c")
	if a.Lost() != 1 || b.Lost() != 0 {
		t.Error(a.Lost(), b.Lost())
	}
}
