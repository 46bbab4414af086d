package delta_test

import (
	"bytes"
	"encoding/binary"
	"encoding/hex"
	"math"
	"math/rand"
	"runtime"
	"strings"
	"testing"

	"stemma/api"
	"stemma/delta"
)

func applies(t *testing.T, base, d string, most int, want string) {
	t.Helper()
	if b, e := delta.Apply([]byte(base), []byte(d), most); string(b) != want || e != api.OK {
		t.Errorf("%.20q, %.40x, %d: %d bytes (%.20q), %v; not %d bytes (%.20q)", base, d, most, len(b), b, e, len(want), want)
	}
}

func isRefused(t *testing.T, base, d string, most int, want api.Errno) {
	t.Helper()
	if b, e := delta.Apply([]byte(base), []byte(d), most); b != nil || e != want {
		t.Errorf("%.20q, %.40x, %d: %d bytes (%.20q), %v; not %v", base, d, most, len(b), b, e, want)
	}
}

// agrees holds an Apply to the model's, and tells the error.
func agrees(t *testing.T, base, d string, most int) api.Errno {
	t.Helper()
	want, e := modelApply(base, d, most)
	if e == api.OK {
		applies(t, base, d, most, want)
	} else {
		isRefused(t, base, d, most, e)
	}
	return e
}

func hasSizes(t *testing.T, d string, wantFrom, wantTo int, want api.Errno) {
	t.Helper()
	if from, to, e := delta.Sizes([]byte(d)); from != wantFrom || to != wantTo || e != want {
		t.Errorf("%.40x: %d, %d, %v; not %d, %d, %v", d, from, to, e, wantFrom, wantTo, want)
	}
}

// 10.1

func TestNumber(t *testing.T) {
	for n, want := range map[int]string{
		0: "\x00", 1: "\x01", 127: "\x7f", 128: "\x80\x01", 129: "\x81\x01", 255: "\xff\x01", 256: "\x80\x02", 300: "\xac\x02", 16383: "\xff\x7f", 16384: "\x80\x80\x01",
		1<<31 - 1: "\xff\xff\xff\xff\x07", -1: "\x00", -128: "\x00", math.MinInt: "\x00",
	} {
		if got := delta.Number(n); string(got) != want {
			t.Errorf("%d: %x", n, got)
		}
	}
	for n := range 70000 {
		isNumber(t, n)
		isNumber(t, -n)
	}
	for k := range 62 {
		for n := 1<<k - 3; n < 1<<k+3; n++ {
			isNumber(t, n)
		}
	}
	isNumber(t, math.MaxInt)
	isNumber(t, math.MaxInt-1)
}

func isNumber(t *testing.T, n int) {
	t.Helper()
	if got := delta.Number(n); !bytes.Equal(got, binary.AppendUvarint(nil, uint64(max(n, 0)))) {
		t.Errorf("%d: %x", n, got)
	}
}

func TestSizes(t *testing.T) {
	some := []int{0, 1, 2, 127, 128, 129, 16383, 16384, 65535, 65536, 1<<21 - 1, 1 << 21, 1<<28 - 1, 1 << 28, 1<<31 - 2, 1<<31 - 1}
	for _, from := range some {
		for _, to := range some {
			d := string(delta.Number(from)) + string(delta.Number(to))
			for _, rest := range []string{"", "\x00", "\x80", "\xff\xff\xff\xff\xff\xff", "more"} {
				hasSizes(t, d+rest, from, to, api.OK)
			}
			for at := range d {
				hasSizes(t, d[:at], 0, 0, api.ErrTorn)
			}
		}
	}
}

// Zero groups behind a number are no other number, as long as there are five bytes.
func TestSizesWithZeros(t *testing.T) {
	for d, want := range map[string][2]int{
		"\x80\x00\x00": {0, 0},
		"\x80\x80\x80\x80\x00\x80\x80\x80\x80\x00": {0, 0},
		"\x85\x00\x86\x80\x00":                     {5, 6},
		"\x85\x80\x80\x80\x00\x06":                 {5, 6},
		"\x05\x86\x80\x80\x80\x00":                 {5, 6},
		"\xac\x82\x80\x80\x00\xff\x80\x80\x00":     {300, 127},
	} {
		hasSizes(t, d, want[0], want[1], api.OK)
		hasSizes(t, d[:len(d)-1], 0, 0, api.ErrTorn)
	}
}

func TestSizesThatAreWrong(t *testing.T) {
	for _, number := range []string{
		"\x80\x80\x80\x80\x80\x00", "\x85\x80\x80\x80\x80\x00", "\x80\x80\x80\x80\x80\x01", "\xff\xff\xff\xff\xff\x00", strings.Repeat("\x80", 9) + "\x00", strings.Repeat("\x80", 10) + "\x01", strings.Repeat("\xff", 70) + "\x7f",
		"\x80\x80\x80\x80\x08", "\x81\x80\x80\x80\x08", "\xff\xff\xff\xff\x0f", "\x80\x80\x80\x80\x10", "\x80\x80\x80\x80\x40", "\xff\xff\xff\xff\x7f",
	} {
		for _, other := range []string{"\x00", "\x05", "\xff\xff\xff\xff\x07", number} {
			hasSizes(t, number+other, 0, 0, api.ErrForm)
			hasSizes(t, other+number, 0, 0, api.ErrForm)
			hasSizes(t, other+number+"more", 0, 0, api.ErrForm)
		}
	}
}

// That d ends within the numbers is named first.
func TestSizesThatAreTornAndWrong(t *testing.T) {
	for _, d := range []string{
		"", "\x80", "\x80\x80\x80\x80\x80", "\x80\x80\x80\x80\x80\x80", strings.Repeat("\xff", 100), "\x00\x80\x80\x80\x80\x80\x80",
		"\x80\x80\x80\x80\x80\x00", "\x80\x80\x80\x80\x80\x00\x80", "\xff\xff\xff\xff\x7f", "\xff\xff\xff\xff\x0f\x80", "\x05\xff\xff\xff\xff\xff",
	} {
		hasSizes(t, d, 0, 0, api.ErrTorn)
	}
}

func TestSizesByTheModel(t *testing.T) {
	seen := map[api.Errno]int{}
	const letters = "\x00\x07\x08\x80\xff"
	var all func(d string, n int)
	all = func(d string, n int) {
		sizes, _, e := modelSizes(d)
		seen[e]++
		hasSizes(t, d, sizes[0], sizes[1], e)
		for i := range letters {
			if n > 0 {
				all(d+letters[i:i+1], n-1)
			}
		}
	}
	all("", 8)
	for _, d := range []string{"\x81\x82\x83\x84\x05\x86\x87\x88\x89\x00", "\x00\xff\xff\xff\xff\x07", "\xff\xff\xff\xff\x07\x00"} {
		for _, s := range mended(d) {
			sizes, _, e := modelSizes(s)
			seen[e]++
			hasSizes(t, s, sizes[0], sizes[1], e)
		}
	}
	if seen[api.OK] < 1000 || seen[api.ErrTorn] < 1000 || seen[api.ErrForm] < 1000 {
		t.Error(seen)
	}
}

// 10.2

func TestApply(t *testing.T) {
	for _, x := range []struct{ base, d, want string }{
		{"abc", "\x03\x05\x91\x01\x02\x03xyz", "bcxyz"},
		{"", "\x00\x00", ""},
		{"abc", "\x03\x00", ""},
		{"", "\x00\x03\x03xyz", "xyz"},
		{"", "\x00\x03\x01x\x01y\x01z", "xyz"},
		{"abc", "\x03\x03\x90\x03", "abc"},
		{"abc", "\x03\x06\x90\x03\x90\x03", "abcabc"},
		{"abc", "\x03\x03\x91\x02\x01\x91\x01\x01\x90\x01", "cba"},
		{"abc", "\x03\x04\x91\x00\x02\x02\x00\xff", "ab\x00\xff"},
		{"abc", "\x83\x00\x84\x80\x00\x04\x90\x91\x80\x81", "\x90\x91\x80\x81"},
	} {
		applies(t, x.base, x.d, len(x.want), x.want)
		applies(t, x.base, x.d, math.MaxInt, x.want)
	}
}

// The error of the sizes comes first, then that of the base, then that of most, then what the instructions have.
func TestErrorsOfApplyInOrder(t *testing.T) {
	for _, most := range []int{math.MinInt, -1, 0, 4, 9, math.MaxInt} {
		for _, d := range []string{"", "\x03", "\x04", "\x03\x85", "\x84\x80\x80\x80\x80\x80", "\x04\xff\xff\xff\xff\xff"} {
			isRefused(t, "abc", d, most, api.ErrTorn)
		}
		for _, d := range []string{"\x83\x80\x80\x80\x80\x00\x05\x00", "\x04\xff\xff\xff\xff\x0f\x00", "\x03\xff\xff\xff\xff\x0f"} {
			isRefused(t, "abc", d, most, api.ErrForm)
		}
		for _, d := range []string{"\x00\x05", "\x02\x05", "\x04\x05", "\x83\x01\x05", "\x02\x05\x00", "\x02\x05\x91", "\x02\xff\xff\xff\xff\x07", "\x02\x00"} {
			isRefused(t, "abc", d, most, api.ErrForm)
		}
	}
	for _, d := range []string{"\x03\x05", "\x03\x05\x00", "\x03\x05\x91", "\x03\x05\x91\x01\x02\x03xyz", "\x03\x05\x90\x04", "\x03\x05\x06", "\x03\xff\xff\xff\xff\x07\x00", "\x03\x85\x80\x00\x00"} {
		for _, most := range []int{math.MinInt, -5, -1, 0, 1, 4} {
			isRefused(t, "abc", d, most, api.ErrBig)
		}
	}
	isRefused(t, "abc", "\x03\x05\x00", 5, api.ErrForm)
	isRefused(t, "abc", "\x03\x05\x91", 5, api.ErrTorn)
}

func TestMost(t *testing.T) {
	for _, n := range []int{0, 1, 5, 127, 128, 1000, 65536} {
		text := few(rand.New(rand.NewSource(1021)), n, 256)
		d := string(delta.Make(nil, []byte(text)))
		for _, most := range []int{n, n + 1, 2*n + 1, 1<<31 - 1, math.MaxInt} {
			applies(t, "", d, most, text)
		}
		for _, most := range []int{n - 1, n / 2, 0, -1, -n, math.MinInt} {
			if max(most, 0) < n {
				isRefused(t, "", d, most, api.ErrBig)
			} else {
				applies(t, "", d, most, "")
			}
		}
	}
}

// fieldsOf are the bytes behind a copy's first one: those that it names, of seven, the last three of which are a length.
func fieldsOf(first int, of string) string {
	s := ""
	for i := range of {
		if first>>i&1 == 1 {
			s += of[i : i+1]
		}
	}
	return s
}

// Each of the bytes that may follow a copy can be there alone, and with any of the others.
func TestEveryCopy(t *testing.T) {
	base := []byte(noise(rand.New(rand.NewSource(1022)), 1<<24+1<<18))
	for first := 0x80; first < 0x100; first++ {
		for _, of := range []string{"\x04\x03\x02\x01\x03\x02\x01", "\xff\xfe\x02\x01\xfe\xff\x00", "\x00\x00\x00\x00\x00\x00\x00", "\x00\x00\x00\x00\x01\x00\x00"} {
			var b [8]byte
			for i := range of {
				if first>>i&1 == 1 {
					b[i] = of[i]
				}
			}
			at, n := int(binary.LittleEndian.Uint32(b[:])), int(binary.LittleEndian.Uint32(b[4:]))
			if n == 0 {
				n = 65536
			}
			d := head(len(base), n) + string([]byte{byte(first)}) + fieldsOf(first, of)
			if got, e := delta.Apply(base, []byte(d), n); !bytes.Equal(got, base[at:at+n]) || e != api.OK {
				t.Errorf("%x: %d bytes, %v", d, len(got), e)
			}
		}
	}
}

func TestLengthOfZero(t *testing.T) {
	base := noise(rand.New(rand.NewSource(1023)), 65536+5)
	for _, copies := range []string{"\x80", "\x90\x00", "\xb0\x00\x00", "\xf0\x00\x00\x00", "\x81\x00", "\xff\x00\x00\x00\x00\x00\x00\x00", "\xc0\x01"} {
		applies(t, base, head(len(base), 65536)+copies, 65536, base[:65536])
		isRefused(t, base, head(len(base), 65535)+copies, 65536, api.ErrForm)
		isRefused(t, base, head(len(base), 65537)+copies, 65537, api.ErrForm)
		isRefused(t, base[:65535], head(65535, 65536)+copies, 65536, api.ErrForm)
	}
	applies(t, base, head(len(base), 65536)+"\x81\x05", 65536, base[5:])
	isRefused(t, base, head(len(base), 65536)+"\x81\x06", 65536, api.ErrForm)
	applies(t, base, head(len(base), 65537)+"\xc0\x01\x90\x01", 65537, base[:65536]+base[:1])
	applies(t, base, head(len(base), 65541)+"\xd0\x05\x01", 65541, base)
	isRefused(t, base, head(len(base), 65542)+"\xd0\x06\x01", 65542, api.ErrForm)
}

// A piece must lie within the base, whatever its offset and its length are.
func TestPiecesOfTheBase(t *testing.T) {
	const base = "abcde"
	for at := range 256 {
		for n := 1; n < 256; n++ {
			d := head(len(base), n) + string([]byte{0x91, byte(at), byte(n)})
			if at+n <= len(base) {
				applies(t, base, d, n, base[at:at+n])
			} else {
				isRefused(t, base, d, 65536, api.ErrForm)
			}
		}
	}
	for _, copies := range []string{"\x9f\xff\xff\xff\xff\x01", "\x9f\x00\x00\x00\x80\x01", "\x9f\xff\xff\xff\x7f\x01", "\x9f\x00\x00\x00\x01\x01", "\x9f\x00\x00\x01\x00\x01", "\xff\xff\xff\xff\xff\xff\xff\xff", "\xf0\xff\xff\xff", "\x8f\xff\xff\xff\xff", "\x98\xff\x05"} {
		isRefused(t, base, head(len(base), 1)+copies, math.MaxInt, api.ErrForm)
		isRefused(t, base, head(len(base), 1<<31-1)+copies, math.MaxInt, api.ErrForm)
		isRefused(t, "", head(0, 1)+copies, math.MaxInt, api.ErrForm)
	}
	isRefused(t, "", head(0, 65536)+"\x80", 65536, api.ErrForm)
}

// A copy is not examined ahead of its last byte.
func TestTornCopies(t *testing.T) {
	for first := 0x81; first < 0x100; first++ {
		fields := fieldsOf(first, "\xff\xff\xff\xff\xff\xff\xff")
		for n := range fields {
			d := string([]byte{byte(first)}) + fields[:n]
			isRefused(t, "", head(0, 0)+d, 0, api.ErrTorn)
			isRefused(t, "abc", head(3, 7)+"\x03xyz"+d, 9, api.ErrTorn)
			isRefused(t, "abc", head(3, 3)+"\x03xyz"+d, 9, api.ErrTorn)
		}
		isRefused(t, "", head(0, 0)+string([]byte{byte(first)})+fields, 0, api.ErrForm)
	}
}

func TestInserts(t *testing.T) {
	text := noise(rand.New(rand.NewSource(1024)), 127)
	for n := 1; n <= 127; n++ {
		insert := string([]byte{byte(n)}) + text[:n]
		applies(t, "", head(0, n)+insert, n, text[:n])
		applies(t, "q", head(1, n+1)+insert+"\x90\x01", n+1, text[:n]+"q")
		isRefused(t, "", head(0, n-1)+insert, 999, api.ErrForm)
		isRefused(t, "", head(0, n+1)+insert, 999, api.ErrForm)
		for _, have := range []int{0, n / 2, n - 1} {
			torn := insert[:1+have]
			isRefused(t, "", head(0, n)+torn, 999, api.ErrTorn)
			isRefused(t, "", head(0, n+9)+torn, 999, api.ErrTorn)
			isRefused(t, "", head(0, n-1)+torn, 999, api.ErrForm) // ahead of ErrTorn
			isRefused(t, "q", head(1, n)+"\x90\x01"+torn, 999, api.ErrForm)
		}
	}
}

func TestByteOfZero(t *testing.T) {
	for _, to := range []int{0, 1, 3, 4, 100} {
		for _, instructions := range []string{"\x00", "\x00\x00", "\x00\x91", "\x00\x03xyz", "\x03xyz\x00"} {
			if to < 3 && instructions[0] == 3 {
				continue
			}
			isRefused(t, "abc", head(3, to)+instructions, 999, api.ErrForm)
		}
	}
	applies(t, "abc", head(3, 4)+"\x04\x00\x00\x00\x00", 9, "\x00\x00\x00\x00")
}

// The first of several errors counts.
func TestFromTheLeft(t *testing.T) {
	for instructions, want := range map[string]api.Errno{
		"":                       api.ErrForm,
		"\x80":                   api.ErrForm,
		"\x03xyz":                api.ErrForm,
		"\x04xyz":                api.ErrTorn,
		"\x05xyz":                api.ErrForm,
		"\x00\x91\x01":           api.ErrForm,
		"\x01x\x00\x91":          api.ErrForm,
		"\x01x\x91":              api.ErrTorn,
		"\x90\x04\x91":           api.ErrForm,
		"\x90\x03\x91":           api.ErrTorn,
		"\x90\x03\x90":           api.ErrTorn,
		"\x90\x03\x01":           api.ErrTorn,
		"\x90\x03\x02":           api.ErrForm,
		"\x90\x03\x02x":          api.ErrForm,
		"\x90\x03\x90\x02":       api.ErrForm,
		"\x90\x03\x01x\x01":      api.ErrForm,
		"\x90\x03\x01x\x90":      api.ErrTorn,
		"\x90\x03\x01x\x90\x01":  api.ErrForm,
		"\x90\x03\x01x\x00\x90":  api.ErrForm,
		"\x90\x03\x90\x01\x01x":  api.ErrForm,
		"\x90\x03\x90\x01\x91":   api.ErrTorn,
		"\x90\x03\x90\x01\x80":   api.ErrForm,
		"\x90\x02\x91\x03\x01":   api.ErrForm,
		"\x90\x02\x91\x03":       api.ErrTorn,
		"\x90\x02\x91\x02\x02":   api.ErrForm,
		"\x90\x02\x01x\x02x\x00": api.ErrForm,
	} {
		isRefused(t, "abc", head(3, 4)+instructions, 9, want)
	}
}

// These are deltas that Git made.
func TestDeltasOfGit(t *testing.T) {
	small := lines(150, 200) + lines(1, 50) + lines(51, 100) + "a changed line\n" + lines(101, 150)
	for _, x := range []struct{ base, digits, want string }{
		{lines(1, 200), "930d910db3d104c201b08501b38d0182010e61206368616e676564206c696e65b31703ba01", small},
		{lines(1, 20000), "f3df0c80ae0b830f03870f0301b70f0302f4d60c616e64206e6f206d6f72650a", lines(100, 18000) + "and no more\n"},
		{"a new line\n" + lines(1, 20000), "fedf0ca5cc0b83ce4987ce4901b7ce490225e6", lines(2000, 19999)},
	} {
		d, err := hex.DecodeString(x.digits)
		if err != nil {
			t.Fatal(err)
		}
		applies(t, x.base, string(d), len(x.want), x.want)
		hasSizes(t, string(d), len(x.base), len(x.want), api.OK)
	}
}

func TestApplyByTheModel(t *testing.T) {
	seen := map[api.Errno]int{}
	const base = "some text, of which a few pieces are had again"
	for _, d := range []string{
		head(len(base), 20) + "\x91\x05\x04\x03xyz\xb3\x06\x00\x0d\x00",
		head(len(base), 60) + "\x02ab\x90\x2e\x0c123456789abc",
		head(len(base), 3) + "\xff\x01\x00\x00\x00\x03\x00\x00",
		"\xae\x80\x80\x80\x00\x85\x80\x00\x05abcde",
	} {
		for _, s := range mended(d) {
			for _, most := range []int{-1, 0, 3, 19, 20, 60, 1 << 20} {
				seen[agrees(t, base, s, most)]++
			}
		}
	}
	for _, e := range []api.Errno{api.OK, api.ErrForm, api.ErrTorn, api.ErrBig} {
		if seen[e] < 100 {
			t.Error(e, seen[e])
		}
	}
}

// Instructions by chance, each likely to be right but not all.
func TestInstructionsByTheModel(t *testing.T) {
	rnd := rand.New(rand.NewSource(1025))
	seen := map[api.Errno]int{}
	for range 60000 {
		base := noise(rnd, rnd.Intn(300))
		d := ""
		for range rnd.Intn(6) {
			if rnd.Intn(2) == 0 {
				n := 1 + rnd.Intn(6)
				d += string([]byte{byte(n)}) + noise(rnd, n)
			} else {
				d += string([]byte{0x91, byte(rnd.Intn(len(base) + 1)), byte(1 + rnd.Intn(20))})
			}
		}
		to := 0
		for to < 150 && rnd.Intn(4) > 0 { // try for the size that these instructions have
			if _, e := modelApply(base, head(len(base), to)+d, 999); e == api.OK {
				break
			}
			to++
		}
		if rnd.Intn(3) == 0 {
			d = d[:rnd.Intn(len(d)+1)]
		}
		seen[agrees(t, base, head(len(base), to)+d, rnd.Intn(300))]++
	}
	for _, e := range []api.Errno{api.OK, api.ErrForm, api.ErrTorn, api.ErrBig} {
		if seen[e] < 100 {
			t.Error(e, seen[e])
		}
	}
}

// 10.4

func TestAllBytes(t *testing.T) {
	rnd := rand.New(rand.NewSource(104))
	for range 100000 {
		base := noise(rnd, rnd.Intn(4))
		d := noise(rnd, rnd.Intn(30))
		if rnd.Intn(2) == 0 {
			d = head(len(base), rnd.Intn(5)) + d
		}
		most := rnd.Intn(6) - 1
		agrees(t, base, d, most)
		if b, _ := delta.Apply([]byte(base), []byte(d), most); len(b) > max(most, 0) {
			t.Errorf("%x, %x, %d: %d bytes", base, d, most, len(b))
		}
	}
}

// What a delta says of its size takes no memory, nor do instructions beyond that size.
func TestBounds(t *testing.T) {
	base := strings.Repeat("z", 65536)
	var before, after runtime.MemStats
	runtime.ReadMemStats(&before)
	for range 20 {
		isRefused(t, base, head(len(base), 1<<31-1)+"\x00", math.MaxInt, api.ErrForm)
		isRefused(t, base, head(len(base), 1<<31-1), math.MaxInt, api.ErrForm)
		isRefused(t, base, head(len(base), 65535)+strings.Repeat("\x80", 65536), math.MaxInt, api.ErrForm)
		isRefused(t, base, head(len(base), 65536)+strings.Repeat("\x80", 65536), math.MaxInt, api.ErrForm)
	}
	runtime.ReadMemStats(&after)
	if n := after.TotalAlloc - before.TotalAlloc; n > 1<<26 {
		t.Error(n, "bytes")
	}
}

// 10.5

// spare is a text in memory that has more behind it, which nothing may change.
func spare(s string) []byte {
	return append([]byte(s), "behind"...)[:len(s)]
}

func isSame(t *testing.T, b []byte, s string) {
	t.Helper()
	if string(b[:len(b)+6]) != s+"behind" {
		t.Errorf("%.40q became %.40q", s+"behind", b[:len(b)+6])
	}
}

func fill(b []byte) {
	b = b[:cap(b)]
	for i := range b {
		b[i] = 0xa5
	}
}

func TestMemory(t *testing.T) {
	rnd := rand.New(rand.NewSource(105))
	for range 200 {
		text := noise(rnd, rnd.Intn(500))
		other := patched(rnd, text)
		base, target := spare(text), spare(other)
		made := delta.Make(base, target)
		d := string(made)
		isSame(t, base, text)
		isSame(t, target, other)
		in := spare(d)
		out, e := delta.Apply(base, in, len(other))
		if string(out) != other || e != api.OK {
			t.Fatalf("%.20q, %.20q: %v", text, other, e)
		}
		delta.Sizes(in)
		isSame(t, base, text)
		isSame(t, in, d)
		fill(made)
		fill(out)
		isSame(t, base, text)
		isSame(t, target, other)
		isSame(t, in, d)
		again, _ := delta.Apply(base, in, len(other))
		fill(base)
		fill(in)
		if string(again) != other {
			t.Error("kept its arguments")
		}
		made = delta.Make(spare(text), target)
		fill(target)
		if string(made) != d {
			t.Error("kept its arguments")
		}
	}
	fill(delta.Number(300))
	isNumber(t, 300)
}
