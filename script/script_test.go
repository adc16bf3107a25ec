package script_test

import (
	"bytes"
	"encoding/binary"
	"math"
	"math/big"
	"math/rand"
	"slices"
	"testing"

	"tarpaulin/api"
	"tarpaulin/script"
)

// run is an entry of that kind.
func run(n, d int) api.Entry { return api.Entry{Kind: api.Run, N: n, D: d} }

// advance is an entry of that kind.
func advance(n int) api.Entry { return api.Entry{Kind: api.Advance, N: n} }

// numbers are those at which a sign, a byte or a limit could go wrong.
func numbers() []int {
	return []int{
		math.MinInt, math.MinInt + 1, -api.MaxTime - 1, -api.MaxTime, math.MinInt32, -65536, -257, -256, -255, -129, -128, -2, -1,
		0, 1, 2, 127, 128, 255, 256, 257, 65535, 65536, math.MaxInt32, math.MaxUint32, 1 << 40, 1 << 55, 1 << 56,
		0x0102030405060708, api.MaxTime, api.MaxTime + 1, math.MaxInt - 1, math.MaxInt,
	}
}

// strangers are kinds that are neither, those among them whose low bytes are one.
func strangers() []int {
	return []int{
		math.MinInt, math.MinInt + 1, math.MinInt + 2, -256 + api.Run, -256 + api.Advance, -2, -1, 0, 3, 4, 255,
		256, 256 + api.Run, 256 + api.Advance, 1<<32 + api.Run, 1<<32 + api.Advance, 1<<56 + api.Run, math.MaxInt,
	}
}

// written is what the bytes of entries should be.
func written(l []api.Entry) []byte {
	var b []byte
	for _, e := range l {
		b = append(b, byte(e.Kind))
		b = binary.LittleEndian.AppendUint64(b, uint64(e.N))
		if e.Kind == api.Run {
			b = binary.LittleEndian.AppendUint64(b, uint64(e.D))
		}
	}
	return b
}

// some are entries that have bytes, by chance.
func some(r *rand.Rand, count int) []api.Entry {
	var l []api.Entry
	number := func() int { return int(r.Uint64()>>r.Intn(64)) * (1 - 2*r.Intn(2)) }
	for range count {
		if r.Intn(2) == 0 {
			l = append(l, run(number(), number()))
		} else {
			l = append(l, advance(number()))
		}
	}
	return l
}

func TestP3_1Check(t *testing.T) {
	for _, n := range numbers() {
		for _, d := range numbers() {
			if e := script.Check(run(n, d)); e != api.OK {
				t.Errorf("Run %d, %d: %d", n, d, e)
			}
			want := api.ErrArg
			if n >= 0 && d == 0 {
				want = api.OK
			}
			if e := script.Check(api.Entry{Kind: api.Advance, N: n, D: d}); e != want {
				t.Errorf("Advance %d, %d: %d, not %d", n, d, e, want)
			}
		}
	}
}

func TestP3_1CheckRefusesOtherKinds(t *testing.T) {
	for _, kind := range strangers() {
		for _, e := range []api.Entry{{Kind: kind}, {Kind: kind, N: 1}, {Kind: kind, N: 1, D: 1}, {Kind: kind, D: 1}} {
			if got := script.Check(e); got != api.ErrArg {
				t.Errorf("%+v: %d, not refused", e, got)
			}
		}
	}
}

func TestP3_1BytesOfEntries(t *testing.T) {
	for _, c := range []struct {
		what string
		l    []api.Entry
		want []byte
	}{
		{"none", nil, nil},
		{"an empty list", []api.Entry{}, nil},
		{"the example", []api.Entry{advance(1)}, []byte{2, 1, 0, 0, 0, 0, 0, 0, 0}},
		{"Advance 0", []api.Entry{advance(0)}, []byte{2, 0, 0, 0, 0, 0, 0, 0, 0}},
		{"Advance below 0", []api.Entry{advance(-2)}, []byte{2, 254, 255, 255, 255, 255, 255, 255, 255}},
		{"the least Advance", []api.Entry{advance(math.MinInt)}, []byte{2, 0, 0, 0, 0, 0, 0, 0, 128}},
		{"the greatest Advance", []api.Entry{advance(math.MaxInt)}, []byte{2, 255, 255, 255, 255, 255, 255, 255, 127}},
		{"each byte", []api.Entry{advance(0x0102030405060708)}, []byte{2, 8, 7, 6, 5, 4, 3, 2, 1}},
		{"Run 0", []api.Entry{run(0, 0)}, []byte{1, 0, 0, 0, 0, 0, 0, 0, 0, 0, 0, 0, 0, 0, 0, 0, 0}},
		{"Run", []api.Entry{run(3, 258)}, []byte{1, 3, 0, 0, 0, 0, 0, 0, 0, 2, 1, 0, 0, 0, 0, 0, 0}},
		{"Run below 0", []api.Entry{run(-1, -256)}, []byte{1, 255, 255, 255, 255, 255, 255, 255, 255, 0, 255, 255, 255, 255, 255, 255, 255}},
		{"in order", []api.Entry{advance(5), run(6, 7), advance(8)}, []byte{
			2, 5, 0, 0, 0, 0, 0, 0, 0,
			1, 6, 0, 0, 0, 0, 0, 0, 0, 7, 0, 0, 0, 0, 0, 0, 0,
			2, 8, 0, 0, 0, 0, 0, 0, 0,
		}},
	} {
		if got, e := script.Encode(c.l); e != api.OK || !bytes.Equal(got, c.want) {
			t.Errorf("%s: %v %d, not %v", c.what, got, e, c.want)
		}
	}
}

func TestP3_1BytesOfAllNumbers(t *testing.T) {
	for _, n := range numbers() {
		for _, d := range numbers() {
			l := []api.Entry{run(n, d), advance(d)}
			if got, e := script.Encode(l); e != api.OK || !bytes.Equal(got, written(l)) {
				t.Errorf("%+v: %v %d", l, got, e)
			}
		}
	}
}

func TestP3_1EncodeTakesSoManyAndNoMore(t *testing.T) {
	for _, one := range []api.Entry{run(1, 2), advance(3), advance(-3)} {
		l := slices.Repeat([]api.Entry{one}, api.MaxScript+1)
		for _, count := range []int{api.MaxScript - 1, api.MaxScript} {
			if got, e := script.Encode(l[:count]); e != api.OK || !bytes.Equal(got, written(l[:count])) {
				t.Errorf("%d of %+v: %d bytes, %d", count, one, len(got), e)
			}
		}
		if got, e := script.Encode(l); e != api.ErrArg || len(got) != 0 {
			t.Errorf("%d of %+v: %d bytes, %d", len(l), one, len(got), e)
		}
	}
}

func TestP3_1EncodeRefuses(t *testing.T) {
	wrong := []api.Entry{{}}
	for _, kind := range strangers() {
		wrong = append(wrong, api.Entry{Kind: kind}, api.Entry{Kind: kind, N: 1, D: 1})
	}
	for _, d := range numbers() {
		if d != 0 {
			wrong = append(wrong, api.Entry{Kind: api.Advance, D: d}, api.Entry{Kind: api.Advance, N: 5, D: d})
		}
	}
	for _, w := range wrong {
		for place := range 3 {
			l := slices.Insert([]api.Entry{run(1, 2), advance(3)}, place, w)
			if got, e := script.Encode(l); e != api.ErrArg || len(got) != 0 {
				t.Errorf("%+v: %v %d, not refused", l, got, e)
			}
		}
	}
}

func TestP3_2EntriesOfBytes(t *testing.T) {
	for _, c := range []struct {
		what string
		b    []byte
		want []api.Entry
	}{
		{"none", nil, nil},
		{"an empty list", []byte{}, nil},
		{"the example", []byte{2, 1, 0, 0, 0, 0, 0, 0, 0}, []api.Entry{advance(1)}},
		{"Advance below 0", []byte{2, 254, 255, 255, 255, 255, 255, 255, 255}, []api.Entry{advance(-2)}},
		{"the least Advance", []byte{2, 0, 0, 0, 0, 0, 0, 0, 128}, []api.Entry{advance(math.MinInt)}},
		{"the greatest Advance", []byte{2, 255, 255, 255, 255, 255, 255, 255, 127}, []api.Entry{advance(math.MaxInt)}},
		{"each byte", []byte{2, 8, 7, 6, 5, 4, 3, 2, 1}, []api.Entry{advance(0x0102030405060708)}},
		{"Run", []byte{1, 3, 0, 0, 0, 0, 0, 0, 0, 2, 1, 0, 0, 0, 0, 0, 0}, []api.Entry{run(3, 258)}},
		{"Run below 0", []byte{1, 255, 255, 255, 255, 255, 255, 255, 255, 0, 255, 255, 255, 255, 255, 255, 255}, []api.Entry{run(-1, -256)}},
		{"in order", []byte{
			2, 5, 0, 0, 0, 0, 0, 0, 0,
			1, 6, 0, 0, 0, 0, 0, 0, 0, 7, 0, 0, 0, 0, 0, 0, 0,
			2, 8, 0, 0, 0, 0, 0, 0, 0,
		}, []api.Entry{advance(5), run(6, 7), advance(8)}},
	} {
		if got, e := script.Decode(c.b); e != api.OK || !slices.Equal(got, c.want) {
			t.Errorf("%s: %+v %d, not %+v", c.what, got, e, c.want)
		}
	}
}

func TestP3_2DecodeRefusesOtherKinds(t *testing.T) {
	ahead := written([]api.Entry{advance(1), run(2, 3)})
	for kind := range 256 {
		if kind == api.Run || kind == api.Advance {
			continue
		}
		for _, first := range [][]byte{nil, ahead} {
			for _, more := range []int{0, 8, 16} {
				b := append(slices.Clone(first), byte(kind))
				b = append(b, make([]byte, more)...)
				if got, e := script.Decode(b); e != api.ErrBad || len(got) != 0 {
					t.Errorf("%v: %+v %d, not refused", b, got, e)
				}
			}
		}
	}
}

func TestP3_2DecodeRefusesTooFewBytes(t *testing.T) {
	for _, l := range [][]api.Entry{
		{advance(1)},
		{run(1, 1)},
		{advance(1), run(1, 1), advance(1)},
		{run(math.MinInt, math.MaxInt), run(-1, -1), advance(-1), advance(0)},
	} {
		b := written(l)
		whole := []int{}
		for i := range len(l) + 1 {
			whole = append(whole, len(written(l[:i])))
		}
		for n := range len(b) + 1 {
			got, e := script.Decode(b[:n])
			if i := slices.Index(whole, n); i >= 0 {
				if e != api.OK || !slices.Equal(got, l[:i]) {
					t.Errorf("%v: %+v %d, not %+v", b[:n], got, e, l[:i])
				}
			} else if e != api.ErrBad || len(got) != 0 {
				t.Errorf("%v: %+v %d, not refused", b[:n], got, e)
			}
		}
	}
}

func TestP3_2DecodeTakesSoManyAndNoMore(t *testing.T) {
	for _, one := range []api.Entry{run(1, 2), advance(3), advance(-3)} {
		l := slices.Repeat([]api.Entry{one}, api.MaxScript+1)
		for _, count := range []int{api.MaxScript - 1, api.MaxScript} {
			if got, e := script.Decode(written(l[:count])); e != api.OK || !slices.Equal(got, l[:count]) {
				t.Errorf("%d of %+v: %d, %d", count, one, len(got), e)
			}
		}
		if got, e := script.Decode(written(l)); e != api.ErrBad || len(got) != 0 {
			t.Errorf("%d of %+v: %d, %d", len(l), one, len(got), e)
		}
		// Neither may what is left over behind so many, however little it is.
		b := append(written(l[:api.MaxScript]), api.Advance)
		if got, e := script.Decode(b); e != api.ErrBad || len(got) != 0 {
			t.Errorf("%d of %+v and a byte: %d, %d", api.MaxScript, one, len(got), e)
		}
	}
}

func TestP3_2DecodeRefusesTooManyBytes(t *testing.T) {
	for _, first := range []byte{0, api.Run, api.Advance} {
		for _, length := range []int{api.MaxBytes, api.MaxBytes + 1, 2 * api.MaxBytes, 1 << 24} {
			b := bytes.Repeat([]byte{first}, length)
			if got, e := script.Decode(b); e != api.ErrBad || len(got) != 0 {
				t.Errorf("%d bytes of %d: %d, %d", length, first, len(got), e)
			}
		}
	}
}

func TestP3_2Pick(t *testing.T) {
	for _, c := range []struct{ n, count, want int }{
		{0, 1, 0},
		{5, 1, 0},
		{-5, 1, 0},
		{3, 2, 1},
		{2, 3, 2},
		{3, 3, 0},
		{4, 3, 1},
		{-1, 3, 2},
		{-2, 3, 1},
		{-3, 3, 0},
		{-4, 3, 2},
		{math.MinInt, 2, 0},
		{math.MinInt, 3, 1},
		{math.MaxInt, 2, 1},
		{math.MaxInt, math.MaxInt, 0},
		{math.MaxInt - 1, math.MaxInt, math.MaxInt - 1},
		{-1, math.MaxInt, math.MaxInt - 1},
		{math.MinInt, math.MaxInt, math.MaxInt - 1},
		{math.MinInt + 1, math.MaxInt, 0},
	} {
		if got := script.Pick(c.n, c.count); got != c.want {
			t.Errorf("Pick(%d, %d): %d, not %d", c.n, c.count, got, c.want)
		}
	}
}

func TestP3_2PickOfNone(t *testing.T) {
	for _, n := range numbers() {
		for _, count := range []int{0, -1, -2, -3, -7, math.MinInt, math.MinInt + 1} {
			if got := script.Pick(n, count); got != 0 {
				t.Errorf("Pick(%d, %d): %d", n, count, got)
			}
		}
	}
}

func TestP3_2PickAgainstLongNumbers(t *testing.T) {
	for _, n := range numbers() {
		for _, count := range numbers() {
			if count < 1 {
				continue
			}
			// Mod, not Rem: from 0 on.
			want := int(new(big.Int).Mod(big.NewInt(int64(n)), big.NewInt(int64(count))).Int64())
			if got := script.Pick(n, count); got != want {
				t.Errorf("Pick(%d, %d): %d, not %d", n, count, got, want)
			}
		}
	}
}

func TestP3_3ThereAndBack(t *testing.T) {
	r := rand.New(rand.NewSource(3))
	for range 500 {
		l := some(r, r.Intn(20))
		b, e := script.Encode(l)
		if e != api.OK || !bytes.Equal(b, written(l)) {
			t.Fatalf("%+v: %v %d", l, b, e)
		}
		back, e := script.Decode(b)
		if e != api.OK || !slices.Equal(back, l) {
			t.Fatalf("%+v: back are %+v %d", l, back, e)
		}
	}
	most := some(r, api.MaxScript)
	b, _ := script.Encode(most)
	if back, e := script.Decode(b); e != api.OK || !slices.Equal(back, most) {
		t.Errorf("of the most that may be, %d are back, %d", len(back), e)
	}
}

func TestP3_3BackAndThere(t *testing.T) {
	r := rand.New(rand.NewSource(4))
	read := 0
	for range 2000 {
		b := written(some(r, 1+r.Intn(4)))
		b[r.Intn(len(b))] = byte(r.Intn(256))
		l, e := script.Decode(b)
		if e != api.OK {
			continue
		}
		read++
		if again, e := script.Encode(l); e != api.OK || !bytes.Equal(again, b) {
			t.Errorf("%v: %+v, whose bytes are %v %d", b, l, again, e)
		}
	}
	if read < 1000 {
		t.Errorf("only %d of 2000 could be read", read)
	}
}

func TestP3_3HandedInIsNotChanged(t *testing.T) {
	// The room behind what is handed in is its owner's, too.
	l := []api.Entry{run(1, -2), advance(-3), {Kind: 9, N: 9, D: 9}, {Kind: 8, N: 8, D: 8}}
	was := slices.Clone(l)
	script.Encode(l[:2])
	script.Encode(l)
	if !slices.Equal(l, was) {
		t.Errorf("Encode made %+v of %+v", l, was)
	}
	b := append(written(l[:2]), 9, 9, 9)
	wasBytes := slices.Clone(b)
	script.Decode(b[:len(b)-3])
	script.Decode(b)
	if !bytes.Equal(b, wasBytes) {
		t.Errorf("Decode made %v of %v", b, wasBytes)
	}
}

func TestP3_3AnsweredIsNewMemory(t *testing.T) {
	l := []api.Entry{run(1, 2), advance(3)}
	want := written(l)
	first, _ := script.Encode(l)
	second, _ := script.Encode(l)
	clear(l)
	clear(first[:cap(first)])
	if !bytes.Equal(second, want) {
		t.Errorf("Encode: %v became %v", want, second)
	}
	one, _ := script.Decode(want)
	two, _ := script.Decode(want)
	clear(want)
	clear(one[:cap(one)])
	if !slices.Equal(two, []api.Entry{run(1, 2), advance(3)}) {
		t.Errorf("Decode: became %+v", two)
	}
}
