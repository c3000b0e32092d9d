package rodl

import (
	"math"
	"math/rand"
	"slices"
	"testing"

	"hayward/api"
	"hayward/file"
)

// ends: numbers that no field of an entry may have; some of them would be let, if they were cut to a byte or to 32 bits.
var ends = []int{math.MinInt, math.MinInt + 1, -1 << 32, -1<<32 + 1, -256, -255, -64, -2, -1, 256, 257, 258, 512, 513, 1 << 16, 1 << 32, 1<<32 + 1, 1<<32 + 4, 1 << 40, math.MaxInt - 1, math.MaxInt}

// P11.1: the document's example, and entries written out.
func TestPut(t *testing.T) {
	for _, c := range []struct {
		name string
		x    api.Entry
		want api.Rec
	}{
		{"example", api.Entry{Kind: api.Send, Slot: 3, File: 9, Rec: 5, Byte: 2}, api.Rec{129, 3, 9, 5}},
		{"the least to send", api.Entry{Kind: api.Send, Slot: 1, Rec: 1}, api.Rec{1, 1, 0, 1}},
		{"the greatest to send", api.Entry{Kind: api.Send, Slot: 16, File: 63, Rec: 255, Byte: 3}, api.Rec{193, 16, 63, 255}},
		{"the least to receive", api.Entry{Kind: api.Recv, Slot: 1, Rec: 1}, api.Rec{2, 1, 0, 1}},
		{"the greatest to receive", api.Entry{Kind: api.Recv, Slot: 16, File: 63, Rec: 255, Byte: 3}, api.Rec{194, 16, 63, 255}},
		{"the least to execute", api.Entry{Kind: api.Exec, Slot: 1, Rec: 1}, api.Rec{3, 1, 0, 1}},
		{"the greatest to execute", api.Entry{Kind: api.Exec, Slot: 16, File: 63, Rec: 255}, api.Rec{3, 16, 63, 255}},
		{"the end", api.Entry{Kind: api.End}, api.Rec{4, 0, 0, 0}},
	} {
		if !Good(c.x) {
			t.Errorf("%s: may not be", c.name)
		}
		if v, e := Put(c.x); v != c.want || e != api.OK {
			t.Errorf("%s: Put is %v, %v", c.name, v, e)
		}
		if x, e := Take(c.want); x != c.x || e != api.OK {
			t.Errorf("%s: Take is %v, %v", c.name, x, e)
		}
	}
}

// may: what the document says of entries, field by field.
func may(x api.Entry) bool {
	if x.Kind == 4 {
		return x.Slot == 0 && x.File == 0 && x.Rec == 0 && x.Byte == 0
	}
	if x.Kind < 1 || x.Kind > 3 || x.Kind == 3 && x.Byte != 0 {
		return false
	}
	return 1 <= x.Slot && x.Slot <= 16 && 0 <= x.File && x.File <= 63 && 1 <= x.Rec && x.Rec <= 255 && 0 <= x.Byte && x.Byte <= 3
}

// holds: Good, Put and Take say of an entry what the document asks for.
func holds(t *testing.T, x api.Entry) {
	t.Helper()
	if Good(x) != may(x) {
		t.Fatalf("Good of %v is %v", x, Good(x))
	}
	v, e := Put(x)
	if !may(x) {
		if v != (api.Rec{}) || e != api.ErrArg {
			t.Fatalf("Put of %v is %v, %v", x, v, e)
		}
		return
	}
	if v != (api.Rec{byte(64*x.Byte + x.Kind), byte(x.Slot), byte(x.File), byte(x.Rec)}) || e != api.OK {
		t.Fatalf("Put of %v is %v, %v", x, v, e)
	}
	// That each one comes back says, too, that no two have one record.
	if y, e := Take(v); y != x || e != api.OK {
		t.Fatalf("Take of %v is %v, %v, not %v", v, y, e, x)
	}
}

// P11.1: all entries that may be, and those around them.
func TestAllEntries(t *testing.T) {
	for kind := -1; kind <= 6; kind++ {
		for slot := -1; slot <= 18; slot++ {
			for f := -1; f <= 65; f++ {
				for b := -1; b <= 5; b++ {
					for _, rec := range []int{-1, 0, 1, 2, 3, 64, 127, 128, 254, 255, 256, 257} {
						holds(t, api.Entry{Kind: kind, Slot: slot, File: f, Rec: rec, Byte: b})
					}
				}
			}
			for rec := -2; rec <= 300; rec++ {
				holds(t, api.Entry{Kind: kind, Slot: slot, File: 5, Rec: rec, Byte: rec & 3})
				holds(t, api.Entry{Kind: kind, Slot: slot, File: 5, Rec: rec})
			}
		}
	}
}

// P11.1: numbers at their ends, in each field, of each kind.
func TestWrongEntries(t *testing.T) {
	for kind := 1; kind <= 4; kind++ {
		right := api.Entry{Kind: kind, Slot: 2, File: 3, Rec: 4}
		if kind == api.End {
			right = api.Entry{Kind: kind}
		}
		holds(t, right)
		for _, n := range ends {
			for field := range 5 {
				x := right
				*[]*int{&x.Kind, &x.Slot, &x.File, &x.Rec, &x.Byte}[field] = n
				if Good(x) {
					t.Errorf("%v may be", x)
				}
				holds(t, x)
			}
			holds(t, api.Entry{Kind: n, Slot: n, File: n, Rec: n, Byte: n})
			holds(t, api.Entry{Kind: kind, Slot: n, File: n, Rec: n, Byte: n})
		}
	}
	for _, x := range []api.Entry{
		{},
		{Slot: 1, Rec: 1},
		// Wrong fields whose sum would be a right first byte.
		{Kind: 65, Slot: 1, Rec: 1},
		{Kind: -63, Slot: 1, Rec: 1, Byte: 1},
		{Kind: 129, Slot: 1, Rec: 1, Byte: -1},
		{Kind: api.Send, Slot: 1, Rec: 1, Byte: 4},
		{Kind: api.Exec, Slot: 1, Rec: 1, Byte: 3},
		{Kind: 5, Slot: 1, Rec: 1},
		{Kind: 5},
		// An end is nothing else.
		{Kind: api.End, Slot: 1, Rec: 1},
		{Kind: api.End, Slot: 1},
		{Kind: api.End, File: 1},
		{Kind: api.End, Rec: 1},
		{Kind: api.End, Byte: 1},
	} {
		if Good(x) {
			t.Errorf("%v may be", x)
		}
		holds(t, x)
	}
}

// P11.1: records of all first bytes, and of all others beside them.
func TestTake(t *testing.T) {
	took := 0
	look := func(v api.Rec) {
		want := api.Entry{Kind: int(v[0]) & 63, Slot: int(v[1]), File: int(v[2]), Rec: int(v[3]), Byte: int(v[0]) >> 6}
		x, e := Take(v)
		if !may(want) {
			if x != (api.Entry{}) || e != api.ErrForm {
				t.Fatalf("Take of %v is %v, %v", v, x, e)
			}
			return
		}
		took++
		if x != want || e != api.OK {
			t.Fatalf("Take of %v is %v, %v", v, x, e)
		}
		if back, e := Put(x); back != v || e != api.OK {
			t.Fatalf("Put of %v is %v, %v, not %v", x, back, e, v)
		}
	}
	some := []byte{0, 1, 2, 4, 15, 16, 17, 63, 64, 65, 127, 128, 129, 192, 254, 255}
	for first := range 256 {
		for _, slot := range some {
			for _, f := range some {
				for _, rec := range some {
					look(api.Rec{byte(first), slot, f, rec})
				}
			}
		}
	}
	for n := range 256 {
		for m := range 256 {
			for _, first := range []byte{1, 66, 129, 194, 3, 4, 67, 68, 5} {
				look(api.Rec{first, byte(n), byte(m), 1})
				look(api.Rec{first, byte(n), 0, byte(m)})
				look(api.Rec{first, 1, byte(n), byte(m)})
			}
		}
	}
	if took == 0 {
		t.Error("nothing was taken")
	}
}

// filed: a file that may be, of those records.
func filed(t *testing.T, perm int, recs ...api.Rec) api.File {
	t.Helper()
	f, e := file.New(perm, len(recs))
	if e != api.OK {
		t.Fatal(perm, len(recs), e)
	}
	copy(f.Recs[1:], recs)
	return f
}

// recorded: entries as records, without an end.
func recorded(t *testing.T, list ...api.Entry) []api.Rec {
	t.Helper()
	var out []api.Rec
	for _, x := range list {
		v, e := Put(x)
		if e != api.OK {
			t.Fatal(x, e)
		}
		out = append(out, v)
	}
	return out
}

// rising: an entry for each slot, of all kinds.
func rising() []api.Entry {
	var out []api.Entry
	for slot := 1; slot <= 16; slot++ {
		x := api.Entry{Kind: 1 + slot%3, Slot: slot, File: 4 * slot % 64, Rec: 16*slot - 1, Byte: slot / 3 % 4}
		if x.Kind == api.Exec {
			x.Byte = 0
		}
		out = append(out, x)
	}
	return out
}

var (
	one   = api.Entry{Kind: api.Send, Slot: 1, Rec: 1}
	two   = api.Entry{Kind: api.Recv, Slot: 4, File: 2, Rec: 9, Byte: 1}
	three = api.Entry{Kind: api.Exec, Slot: 16, File: 63, Rec: 255}
	last  = api.Rec{4, 0, 0, 0}
	none  = api.Rec{}
	// endlike have an end's kind, but something else beside it.
	endlike = []api.Rec{{4, 1, 0, 0}, {4, 0, 1, 0}, {4, 0, 0, 1}, {68, 0, 0, 0}, {132, 0, 0, 0}, {196, 0, 0, 0}, {4, 1, 0, 1}}
)

// P11.2: tables, with an end and without one, and what stands behind it.
func TestTable(t *testing.T) {
	r := recorded(t, one, two, three)
	all := recorded(t, rising()...)
	for _, c := range []struct {
		name string
		recs []api.Rec
		want []api.Entry
	}{
		{"no record", nil, nil},
		{"an end alone", []api.Rec{last}, nil},
		{"ends alone", []api.Rec{last, last, last}, nil},
		{"one, and an end", []api.Rec{r[0], last}, []api.Entry{one}},
		{"one, and no end", []api.Rec{r[0]}, []api.Entry{one}},
		{"three, and an end", []api.Rec{r[0], r[1], r[2], last}, []api.Entry{one, two, three}},
		{"three, and no end", []api.Rec{r[0], r[1], r[2]}, []api.Entry{one, two, three}},
		{"all slots, and an end", append(slices.Clone(all), last), rising()},
		{"all slots, and no end", all, rising()},
		{"behind the end, what would be let", []api.Rec{r[0], last, r[1], r[2], last}, []api.Entry{one}},
		{"behind the end, what is refused", []api.Rec{r[0], last, none, {255, 255, 255, 255}}, []api.Entry{one}},
		{"behind the end, a slot again", []api.Rec{r[1], last, r[1], r[0]}, []api.Entry{two}},
		{"behind an end at once", []api.Rec{last, none, r[0]}, nil},
		{"behind the end, all that there may be", append([]api.Rec{r[0], last}, slices.Repeat([]api.Rec{{9, 9, 9, 9}}, 253)...), []api.Entry{one}},
	} {
		for perm := range 8 {
			list, e := Table(filed(t, perm, c.recs...))
			if e != api.OK || !slices.Equal(list, c.want) {
				t.Errorf("%s, Perm %d: Table is %v, %v", c.name, perm, list, e)
			}
		}
	}
}

// refused: Table answers ErrForm, and nothing beside it.
func refused(t *testing.T, name string, f api.File) {
	t.Helper()
	if list, e := Table(f); len(list) != 0 || e != api.ErrForm {
		t.Errorf("%s: Table is %v, %v", name, list, e)
	}
}

// P11.2: records that are no table.
func TestNoTable(t *testing.T) {
	r := recorded(t, one, two, three)
	for _, c := range []struct {
		name string
		recs []api.Rec
	}{
		{"nothing", []api.Rec{none}},
		{"nothing, and an end", []api.Rec{none, last}},
		{"nothing in front", []api.Rec{none, r[0], last}},
		{"nothing between", []api.Rec{r[0], none, r[1], last}},
		{"nothing behind, without an end", []api.Rec{r[0], r[1], none}},
		{"a slot twice", []api.Rec{r[0], r[0], last}},
		{"a slot twice, without an end", []api.Rec{r[0], r[1], {1, 4, 7, 7}}},
		{"falling", []api.Rec{r[1], r[0], last}},
		{"falling at last", []api.Rec{r[0], r[2], r[1], last}},
		{"a slot too great", []api.Rec{r[0], {1, 17, 0, 1}, last}},
		{"falling, and a wrong one", []api.Rec{r[1], r[0], {9}, last}},
		{"as many as there may be", slices.Repeat([]api.Rec{r[0]}, 255)},
	} {
		for perm := range 8 {
			refused(t, c.name, filed(t, perm, c.recs...))
		}
	}
	for _, v := range endlike {
		refused(t, "what is nearly an end", filed(t, 3, v))
		refused(t, "what is nearly an end, behind an entry", filed(t, 3, r[0], v, last))
		if list, e := Table(filed(t, 3, r[0], last, v)); len(list) != 1 || e != api.OK {
			t.Error(v, list, e)
		}
	}
}

// P11.2: files that may not be, though their records would be a table.
func TestNoFile(t *testing.T) {
	right := filed(t, 3, append(recorded(t, one, two), last)...)
	if list, e := Table(right); len(list) != 2 || e != api.OK {
		t.Fatal(list, e)
	}
	refused(t, "nothing", api.File{})
	refused(t, "no records", api.File{Perm: 3, Recs: []api.Rec{}})
	refused(t, "other permissions", api.File{Perm: 7, Recs: right.Recs})
	refused(t, "no header", api.File{Perm: 3, Recs: right.Recs[1:]})
	refused(t, "a record less", api.File{Perm: 3, Recs: right.Recs[:3]})
	refused(t, "a record more", api.File{Perm: 3, Recs: append(slices.Clone(right.Recs), last)})
	for i := range 4 {
		torn := slices.Clone(right.Recs)
		torn[0][i]++
		refused(t, "a torn header", api.File{Perm: 3, Recs: torn})
	}
	for _, n := range append([]int{8, 9}, ends...) {
		refused(t, "no permissions", api.File{Perm: n, Recs: []api.Rec{{0, byte(n), 165, byte(n) ^ 165}}})
	}
	long := make([]api.Rec, 257)
	long[0], long[1] = api.Rec{0, 3, 165, 166}, last
	refused(t, "too many records", api.File{Perm: 3, Recs: long})
}

// P11.2: all sets of slots, as files and back again.
func TestFile(t *testing.T) {
	all := rising()
	for set := range 1 << 16 {
		var list []api.Entry
		for i, x := range all {
			if set>>i&1 == 1 {
				list = append(list, x)
			}
		}
		f, e := File(list)
		if e != api.OK || f.Perm != 3 || !file.Good(f) || len(f.Recs) != len(list)+2 || f.Recs[len(list)+1] != last {
			t.Fatalf("File of %v is %v, %v", list, f, e)
		}
		for i, x := range list {
			if v, _ := Put(x); f.Recs[1+i] != v {
				t.Fatalf("File of %v is %v", list, f)
			}
		}
		if back, e := Table(f); e != api.OK || !slices.Equal(back, list) {
			t.Fatalf("Table of %v is %v, %v, not %v", f, back, e, list)
		}
	}
	for _, list := range [][]api.Entry{nil, {}, all[:0]} {
		f, e := File(list)
		if e != api.OK || !file.Same(f, api.File{Perm: 3, Recs: []api.Rec{{1, 3, 165, 167}, {4, 0, 0, 0}}}) {
			t.Errorf("File of no entries is %v, %v", f, e)
		}
	}
}

// P11.2: lists that may not be a table.
func TestNoList(t *testing.T) {
	all := rising()
	for i, list := range [][]api.Entry{
		{{}},
		{{Kind: api.End}},
		{one, {Kind: api.End}},
		{{Kind: api.End}, one},
		{one, two, three, {Kind: api.End}},
		{one, {Kind: api.End, Slot: 2}},
		{one, one},
		{two, one},
		{one, three, two},
		{one, two, {Kind: api.Send, Slot: 4, Rec: 7}},
		{one, {Kind: api.Exec, Slot: 2, Rec: 1, Byte: 1}},
		{one, {Kind: api.Send, Slot: 2, Rec: 0}},
		{{Kind: api.Send, Slot: 0, Rec: 1}},
		{{Kind: api.Send, Slot: -1, Rec: 1}, one},
		{{Kind: api.Send, Slot: 257, Rec: 1}},
		{{Kind: 5, Slot: 1, Rec: 1}},
		append(slices.Clone(all), api.Entry{Kind: api.Send, Slot: 17, Rec: 1}),
		append(slices.Clone(all), all[15]),
		append(slices.Clone(all), all...),
		slices.Repeat([]api.Entry{one}, 64),
		slices.Repeat(all, 5),
		slices.Repeat([]api.Entry{one}, 400),
	} {
		if f, e := File(list); e != api.ErrArg || f.Perm != 0 || len(f.Recs) != 0 {
			t.Errorf("%d: File is %v, %v", i, f, e)
		}
	}
	// Any one that is wrong makes all wrong, wherever it stands.
	for i := range all {
		for _, n := range append([]int{0, 17}, ends...) {
			list := slices.Clone(all)
			list[i].Slot = n
			if f, e := File(list); e != api.ErrArg || f.Perm != 0 || len(f.Recs) != 0 {
				t.Errorf("slot %d at %d: File is %v, %v", n, i, f, e)
			}
			list = slices.Clone(all)
			list[i].Kind = n
			if f, e := File(list); e != api.ErrArg || f.Perm != 0 || len(f.Recs) != 0 {
				t.Errorf("kind %d at %d: File is %v, %v", n, i, f, e)
			}
		}
	}
}

// due: the entries of records, as the document asks for them; false, if they are no table.
func due(recs []api.Rec) ([]api.Entry, bool) {
	if i := slices.Index(recs, last); i >= 0 {
		recs = recs[:i]
	}
	var out []api.Entry
	for i, v := range recs {
		x := api.Entry{Kind: int(v[0]) & 63, Slot: int(v[1]), File: int(v[2]), Rec: int(v[3]), Byte: int(v[0]) >> 6}
		if !may(x) || i > 0 && x.Slot <= out[i-1].Slot {
			return nil, false
		}
		out = append(out, x)
	}
	return out, true
}

// P11.2: many files, most of them near to a table.
func TestManyTables(t *testing.T) {
	random := rand.New(rand.NewSource(11))
	all := recorded(t, rising()...)
	strange := append([]api.Rec{last, last, last, last, last, none, all[0], all[15]}, endlike...)
	let := 0
	for range 100000 {
		var recs []api.Rec
		for _, v := range all {
			if random.Intn(3) > 0 {
				recs = append(recs, v)
			}
		}
		for range random.Intn(3) {
			at := random.Intn(len(recs) + 1)
			recs = slices.Insert(recs, at, strange[random.Intn(len(strange))])
		}
		if len(recs) > 0 && random.Intn(3) == 0 {
			recs[random.Intn(len(recs))][random.Intn(4)] = byte(random.Intn(256))
		}
		want, ok := due(recs)
		list, e := Table(filed(t, random.Intn(8), recs...))
		if ok != (e == api.OK) || !ok && (e != api.ErrForm || len(list) != 0) || !slices.Equal(list, want) {
			t.Fatalf("Table of %v is %v, %v, not %v", recs, list, e, want)
		}
		if ok {
			let++
		}
	}
	if let < 10000 || let > 90000 {
		t.Errorf("%d of the files were tables", let)
	}
}

// P11.2: what is handed in is not changed, and what is answered is nobody else's.
func TestMemory(t *testing.T) {
	room := append(rising(), slices.Repeat([]api.Entry{{Kind: 9}}, 8)...)
	was := slices.Clone(room)
	list := room[:5]
	f, _ := File(list)
	g, _ := File(list)
	kept := filed(t, 3, append(recorded(t, was[:5]...), last)...)
	fill(f.Recs, api.Rec{6, 6, 6, 6})
	if !file.Same(g, kept) {
		t.Error("two files are one memory")
	}
	fill(list, api.Entry{Kind: 7})
	if !file.Same(g, kept) {
		t.Error("a file is what was handed in")
	}
	copy(room, was)
	File(list)
	File(room)
	if !slices.Equal(room, was) {
		t.Error("File changed what was handed in")
	}

	recs := append(kept.Recs, slices.Repeat([]api.Rec{{9, 9, 9, 9}}, 8)...)
	before := slices.Clone(recs)
	h := api.File{Perm: 3, Recs: recs[:7]}
	a, _ := Table(h)
	b, _ := Table(h)
	if !slices.Equal(recs, before) {
		t.Error("Table changed what was handed in")
	}
	fill(a, api.Entry{Kind: 7})
	if !slices.Equal(b, was[:5]) {
		t.Error("two tables are one memory")
	}
	fill(recs, api.Rec{6, 6, 6, 6})
	if !slices.Equal(b, was[:5]) {
		t.Error("a table is what was handed in")
	}
}

// fill: writes over all of a list, its spare room too.
func fill[T any](list []T, x T) {
	list = list[:cap(list)]
	for i := range list {
		list[i] = x
	}
}
