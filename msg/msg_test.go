package msg_test

import (
	"bytes"
	"math/rand"
	"slices"
	"strings"
	"testing"

	"gleanings/api"
	"gleanings/cell"
	"gleanings/frame"
	"gleanings/msg"
	"gleanings/mst"
	"gleanings/pen"
	"gleanings/sizes"
	"gleanings/ver"
)

func item(s string) api.Item {
	x, _ := ver.Parse(s)
	return x
}

func cells(n int) []api.Cell {
	l := make([]api.Cell, n)
	for i := range l {
		l[i] = cell.Of(api.Mark{byte(i)})
	}
	return l
}

func rising(n int) []api.Mark {
	var l []api.Mark
	for i := range n {
		l = append(l, api.Mark{byte(i >> 8), byte(i)})
	}
	return l
}

// big is an item of many bytes; how many the last of them has told by n.
func big(n int) api.Item {
	x := api.Item{Key: strings.Repeat("k", 24), Dot: api.Dot{Node: 7, N: api.MostCount}, Value: make([]byte, n)}
	for i := range 32 {
		x.Past = append(x.Past, api.Run{Node: 3, From: 1<<39 + 3*i, To: 1<<39 + 3*i})
	}
	return x
}

// samples: right messages of each kind.
func samples() []api.Msg {
	sid := 1 << 36
	root := api.Mark{1, 2, 3}
	a, b := item("6b 0:1 [-] 76"), item("6b 1:1 [0:1-3 2:7] gone")
	tree := mst.Of(rising(40)...)
	p, _ := tree.Page(tree.Root())
	l := []api.Msg{
		{Kind: api.Hello, Sid: 1}, {Kind: api.Hello, Sid: sid, N: 4096, Root: root}, {Kind: api.Meet, Sid: 1 << 40, N: 1, Root: root},
		{Kind: api.Count, Sid: sid}, {Kind: api.Count, Sid: sid, Part: 7}, {Kind: api.Level, Sid: sid, Part: 7, Cells: cells(12)},
		{Kind: api.Ask, Sid: sid, Size: 12}, {Kind: api.Ask, Sid: sid, Size: 1536, Part: 31},
		{Kind: api.Cells, Sid: sid, Size: 51, Part: 1, Cells: cells(3)}, {Kind: api.Cells, Sid: sid, Size: 51, Cells: cells(48)},
		{Kind: api.Want, Sid: sid, Root: root}, {Kind: api.Want, Sid: sid}, {Kind: api.Leaf, Sid: sid, Page: p},
		{Kind: api.Fetch, Sid: sid, Marks: rising(1)}, {Kind: api.Fetch, Sid: sid, Marks: rising(100)},
		{Kind: api.Give, Sid: sid}, {Kind: api.Give, Sid: sid, Items: []api.Item{a, b}}, {Kind: api.Push, Sid: sid, Part: 4095, Items: []api.Item{b, a, a}},
		{Kind: api.Got, Sid: sid}, {Kind: api.Got, Sid: sid, Part: 4095}, {Kind: api.Done, Sid: sid, N: 7, Root: root}, {Kind: api.Bye, Sid: sid}, {Kind: api.Bye, Sid: sid, Why: 100},
	}
	return l
}

// P20.1: just the fields of its kind make a message.
func TestFields(t *testing.T) {
	tree := mst.Of(rising(3)...)
	p, _ := tree.Page(tree.Root())
	changes := []func(m *api.Msg){
		func(m *api.Msg) { m.N = 3 }, func(m *api.Msg) { m.Size = 12 }, func(m *api.Msg) { m.Part = 1 }, func(m *api.Msg) { m.Why = 2 }, func(m *api.Msg) { m.Root = api.Mark{9} },
		func(m *api.Msg) { m.Marks = rising(2) }, func(m *api.Msg) { m.Cells = cells(12) }, func(m *api.Msg) { m.Items = []api.Item{item("6b 0:1 [-] 76")} }, func(m *api.Msg) { m.Page = p },
	}
	// Which of the fields above a kind has; of a Cells the Size is changed to the same.
	has := map[int]string{1: "N R", 2: "N R", 3: "P", 4: "P C", 5: "S P", 6: "S P C", 7: "R", 8: "L", 9: "M", 10: "I", 11: "P I", 12: "P", 13: "N R", 14: "W"}
	names := "NSPWRMCIL"
	for _, m := range samples() {
		if !msg.Right(m) {
			t.Fatal("isn't right:", m.Kind)
		}
		for i, change := range changes {
			o := m
			change(&o)
			own := strings.Contains(has[m.Kind], names[i:i+1])
			if !own && (msg.Right(o) || msg.Put(o) != nil || msg.Same(o, m)) {
				t.Error(m.Kind, "has", names[i:i+1])
			}
			if !msg.Same(o, o) {
				t.Error("same")
			}
		}
		for _, sid := range []int{0, -1, 1<<40 + 1} {
			o := m
			o.Sid = sid
			if msg.Right(o) || msg.Same(o, m) {
				t.Error(m.Kind, "Sid", sid)
			}
		}
	}
	for _, kind := range []int{-1, 0, 15} {
		if msg.Right(api.Msg{Kind: kind, Sid: 1}) {
			t.Error("kind", kind)
		}
	}
}

// P20.1: fields that can't be.
func TestWrong(t *testing.T) {
	var many []api.Item
	for i := range 41 {
		many = append(many, api.Item{Key: "k", Dot: api.Dot{N: i + 1}})
	}
	wide := slices.Repeat([]api.Item{big(0)}, 4)
	if msg.Weigh(wide) > 1400 {
		wide = wide[:3]
	}
	for msg.Weigh(wide) < 1400 {
		wide = append(wide, api.Item{Key: "k", Dot: api.Dot{N: len(wide) + 1}, Value: make([]byte, min(64, 1400-msg.Weigh(wide)))})
	}
	if n := msg.Weigh(many); n != 41*7 {
		t.Error("weigh", n)
	}
	for i, m := range []api.Msg{
		{Kind: api.Hello, N: 4097}, {Kind: api.Meet, N: -1}, {Kind: api.Done, N: 4097}, {Kind: api.Count, Part: 8}, {Kind: api.Count, Part: -1}, {Kind: api.Level, Cells: cells(11)}, {Kind: api.Level, Part: 8, Cells: cells(12)},
		{Kind: api.Level, Cells: append(cells(11), api.Cell{Count: 1<<20 + 1})}, {Kind: api.Ask}, {Kind: api.Ask, Size: 13}, {Kind: api.Ask, Size: 12, Part: 1}, {Kind: api.Ask, Size: 12, Part: -1}, {Kind: api.Ask, Size: 1539},
		{Kind: api.Cells, Size: 51, Cells: cells(47)}, {Kind: api.Cells, Size: 51, Part: 1, Cells: cells(48)}, {Kind: api.Cells, Size: 51, Part: 2}, {Kind: api.Cells, Size: 3, Cells: append(cells(2), api.Cell{Count: -1<<20 - 1})},
		{Kind: api.Leaf}, {Kind: api.Fetch}, {Kind: api.Fetch, Marks: rising(101)}, {Kind: api.Fetch, Marks: []api.Mark{{1}, {1}}}, {Kind: api.Give, Items: []api.Item{{Key: "k"}}}, {Kind: api.Give, Items: many}, {Kind: api.Give, Items: wide},
		{Kind: api.Push}, {Kind: api.Push, Part: 4096, Items: many[:1]}, {Kind: api.Push, Part: -1, Items: many[:1]}, {Kind: api.Push, Items: many}, {Kind: api.Got, Part: 4096}, {Kind: api.Got, Part: -1}, {Kind: api.Bye, Why: 101}, {Kind: api.Bye, Why: -1},
	} {
		m.Sid = 1
		if msg.Right(m) || msg.Put(m) != nil {
			t.Error(i, m.Kind)
		}
	}
	var just []api.Item
	for i := range 20 {
		just = append(just, api.Item{Key: "k", Dot: api.Dot{N: i + 1}, Value: make([]byte, 63)})
	}
	if msg.Weigh(just) != 1400 || !msg.Right(api.Msg{Kind: api.Give, Sid: 1, Items: just}) {
		t.Error("1400 bytes", msg.Weigh(just))
	}
	if just[0].Value = make([]byte, 64); msg.Right(api.Msg{Kind: api.Give, Sid: 1, Items: just}) {
		t.Error("1401 bytes")
	}
	if !msg.Right(api.Msg{Kind: api.Give, Sid: 1, Items: many[:40]}) || !msg.Right(api.Msg{Kind: api.Push, Sid: 1, Items: wide[:len(wide)-1]}) {
		t.Error("most items")
	}
	if msg.Weigh([]api.Item{{}, item("6b 0:1 [-] 76"), {Key: "k"}}) != len(ver.Bytes(item("6b 0:1 [-] 76"))) || msg.Weigh(nil) != 0 {
		t.Error("weigh")
	}
}

// P20.2: bytes of messages.
func TestBytes(t *testing.T) {
	b := msg.Put(api.Msg{Kind: api.Bye, Sid: 1})
	if len(b) != 13 || !bytes.Equal(b[:5], []byte{0x47, 14, 2, 1, 0}) {
		t.Errorf("%x", b)
	}
	var p pen.Pen
	p.Number(5)
	p.Number(51)
	p.Number(1)
	for _, c := range cells(3) {
		cell.Put(&p, c)
	}
	if got := msg.Put(api.Msg{Kind: api.Cells, Sid: 5, Size: 51, Part: 1, Cells: cells(3)}); !bytes.Equal(got, frame.Put(api.Frame{Kind: 6, Body: p.Bytes()})) {
		t.Errorf("%x", got)
	}
	var q pen.Pen
	q.Fixed([]byte{5, 9, 1})
	ver.Put(&q, item("6b 0:1 [-] 76"))
	if got := msg.Put(api.Msg{Kind: api.Push, Sid: 5, Part: 9, Items: []api.Item{item("6b 0:1 [-] 76")}}); !bytes.Equal(got, frame.Put(api.Frame{Kind: 11, Body: q.Bytes()})) {
		t.Errorf("%x", got)
	}
}

// P20.2: errors as the parts come.
func TestReadErrors(t *testing.T) {
	body := func(numbers ...uint64) []byte {
		var p pen.Pen
		for _, u := range numbers {
			p.Number(u)
		}
		return p.Bytes()
	}
	zeros := make([]byte, 2000)
	for i, c := range []struct {
		kind int
		body []byte
		want api.Errno
	}{
		{1, nil, api.ErrEnd}, {1, body(1<<40 + 1), api.ErrLong}, {1, body(1, 4097), api.ErrLong}, {1, body(1, 0), api.ErrEnd}, {1, append(body(0, 1), zeros[:16]...), api.ErrForm}, {1, append(body(0, 1), zeros[:17]...), api.ErrTrail},
		{1, append(body(1, 1), zeros[:17]...), api.ErrTrail}, {3, body(1, 8), api.ErrLong}, {3, body(1, 7, 0), api.ErrTrail}, {4, body(1, 8), api.ErrLong}, {4, append(body(1, 7), zeros[:12*25-1]...), api.ErrEnd},
		{4, append(append(body(1, 7), zeros[:11*25]...), append(body(2<<20+2), zeros[:24]...)...), api.ErrLong}, {5, body(1, 1537, 0), api.ErrLong}, {5, body(1, 1536, 32), api.ErrLong}, {5, body(1, 12, 1), api.ErrForm}, {5, body(1, 13, 0), api.ErrForm}, {5, body(1, 13, 0, 0), api.ErrTrail},
		{6, body(1, 13, 0), api.ErrForm}, {6, body(1, 12, 1), api.ErrForm}, {6, append(body(1, 12, 1), zeros...), api.ErrForm}, {6, append(body(1, 12, 0), zeros[:299]...), api.ErrEnd}, {6, body(1, 12, 32), api.ErrLong}, {6, append(body(0, 12, 0), zeros[:300]...), api.ErrForm},
		{7, append(body(1), zeros[:15]...), api.ErrEnd}, {8, body(1, 65), api.ErrLong}, {8, body(1, 1, 61), api.ErrLong}, {8, append(body(1, 0, 1), zeros[:48]...), api.ErrForm}, {8, append(body(1, 0, 1), zeros[:49]...), api.ErrForm},
		{9, body(1, 4097), api.ErrLong}, {9, body(1, 0), api.ErrForm}, {9, append(body(1, 2), zeros[:32]...), api.ErrForm}, {9, append(body(1, 2), zeros[:33]...), api.ErrForm}, {9, body(1, 0, 0), api.ErrTrail}, {9, body(1, 101), api.ErrEnd},
		{10, body(1, 41), api.ErrLong}, {10, body(1, 1, 25), api.ErrLong}, {10, body(1, 1), api.ErrEnd}, {10, body(1, 1, 0, 0, 1, 0, 1), api.ErrForm}, {11, body(1, 4096), api.ErrLong}, {11, body(1, 0, 0), api.ErrForm}, {11, body(1, 0, 0, 0), api.ErrTrail},
		{12, body(1, 4096), api.ErrLong}, {13, body(1, 4097), api.ErrLong}, {14, body(1, 101), api.ErrLong}, {14, body(1, 0, 0), api.ErrTrail}, {14, []byte{248, 0}, api.ErrForm}, {14, body(0, 0), api.ErrForm}, {14, body(1, 0), api.OK},
	} {
		m, err := msg.Read(frame.Put(api.Frame{Kind: c.kind, Body: c.body}))
		if err != c.want || err != api.OK && !msg.Same(m, api.Msg{}) {
			t.Error(i, c.kind, err, c.want)
		}
	}
	good := msg.Put(api.Msg{Kind: api.Bye, Sid: 1})
	for _, c := range []struct {
		b    []byte
		want api.Errno
	}{{nil, api.ErrEnd}, {good[:9], api.ErrEnd}, {append(slices.Clone(good), 0), api.ErrTrail}, {frame.Turn(good, 4, 1), api.ErrSum}, {[]byte{1}, api.ErrForm}, {[]byte{0x47, 15}, api.ErrLong}} {
		if m, err := msg.Read(c.b); err != c.want || !msg.Same(m, api.Msg{}) {
			t.Error(c.b, err)
		}
	}
	// Items that are right, but too many bytes together.
	var p pen.Pen
	p.Number(1)
	p.Number(6)
	for range 6 {
		ver.Put(&p, big(3))
	}
	if m, err := msg.Read(frame.Put(api.Frame{Kind: 10, Body: p.Bytes()[:min(2048, len(p.Bytes()))]})); err == api.OK {
		t.Error("too many bytes", m)
	}
}

// P20.3: each message is read as it was put, and isn't too long.
func TestPutIsRead(t *testing.T) {
	all := samples()
	for part := range 32 {
		from, to, _ := sizes.Range(1536, part)
		l := cells(to - from)
		for i := range l {
			l[i].Count = -1 << 20
		}
		all = append(all, api.Msg{Kind: api.Cells, Sid: 1 << 40, Size: 1536, Part: part, Cells: l})
	}
	r := rand.New(rand.NewSource(30))
	var low []api.Mark
	for i := range 60 {
		m := api.Mark{byte(i), 8: 0x80}
		r.Read(m[1:8])
		low = append(low, m)
	}
	all = append(all, api.Msg{Kind: api.Leaf, Sid: 1 << 40, Page: api.Page{Marks: low, Kids: make([]api.Mark, 61)}})
	for _, m := range all {
		b := msg.Put(m)
		f, err := frame.Read(b)
		got, errRead := msg.Read(b)
		if err != api.OK || f.Kind != m.Kind || len(f.Body) > 2048 || errRead != api.OK || !msg.Same(got, m) {
			t.Error(m.Kind, len(f.Body), err, errRead)
		}
		for cut := range b {
			if _, err := msg.Read(b[:cut]); err == api.OK {
				t.Fatal("cut short", m.Kind)
			}
		}
	}
}
