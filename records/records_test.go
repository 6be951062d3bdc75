package records_test

import (
	"bytes"
	"encoding/binary"
	"math"
	"math/rand"
	"slices"
	"strings"
	"testing"

	"payroll/api"
	"payroll/records"
)

// targeted are the kinds of events that have a target, untargeted the others.
var (
	untargeted = []int{api.EventIn, api.EventOut, api.EventPause, api.EventResume}
	targeted   = []int{api.EventCancel, api.EventCorrect}
)

// kinds are the six kinds of events.
func kinds() []int { return slices.Concat(untargeted, targeted) }

// plain is an event without a target, all bytes of whose numbers differ.
func plain() api.Event {
	return api.Event{Key: api.Key{Terminal: 0xA2B3, Seq: 0x14253647}, Employee: 0x58697A8B, Time: 0x06CDDEEF, Kind: api.EventOut}
}

// aimed is an event with a target, all bytes of whose numbers differ.
func aimed() api.Event {
	e := plain()
	e.Kind, e.Target = api.EventCancel, api.Key{Terminal: 0xF0E1, Seq: 0x72839405}
	return e
}

// least is the event of a kind with the least numbers.
func least(kind int) api.Event { return api.Event{Employee: 1, Kind: kind} }

// greatest is the event of a kind with the greatest numbers.
func greatest(kind int) api.Event {
	key := api.Key{Terminal: 65535, Seq: 2147483647}
	e := api.Event{Key: key, Employee: 2147483647, Time: 120968639, Kind: kind}
	if slices.Contains(targeted, kind) {
		e.Target = key
	}
	return e
}

// field is a number of an event, with its bounds.
type field struct {
	name      string
	of        func(*api.Event) *int
	low, high int
}

// always are the numbers that each event has.
func always() []field {
	return []field{
		{"Terminal", func(e *api.Event) *int { return &e.Key.Terminal }, 0, 65535},
		{"Seq", func(e *api.Event) *int { return &e.Key.Seq }, 0, 2147483647},
		{"Employee", func(e *api.Event) *int { return &e.Employee }, 1, 2147483647},
		{"Time", func(e *api.Event) *int { return &e.Time }, 0, 120968639},
	}
}

// target are the numbers of a target.
func target() []field {
	return []field{
		{"Target.Terminal", func(e *api.Event) *int { return &e.Target.Terminal }, 0, 65535},
		{"Target.Seq", func(e *api.Event) *int { return &e.Target.Seq }, 0, 2147483647},
	}
}

// with is e with another number in a field.
func with(e api.Event, f field, n int) api.Event {
	*f.of(&e) = n
	return e
}

// numbers are integers about all bounds and about all sizes of numbers.
func numbers() []int {
	l := []int{math.MinInt, math.MinInt + 1, math.MaxInt, math.MaxInt - 1, api.MaxTime - 1, api.MaxTime, api.MaxTime + 1}
	for i := range 63 {
		n := 1 << i
		l = append(l, n-1, n, n+1, -n, -n-1, -n+1, n+5)
	}
	return l
}

// valid is the definition of a valid event.
func valid(e api.Event) bool {
	l := always()
	if slices.Contains(targeted, e.Kind) {
		l = append(l, target()...)
	} else if !slices.Contains(untargeted, e.Kind) || e.Target.Terminal != 0 || e.Target.Seq != 0 {
		return false
	}
	return !slices.ContainsFunc(l, func(f field) bool { return *f.of(&e) < f.low || *f.of(&e) > f.high })
}

// remainder is the checksum of b by another way: the rest of a division without
// carries by 11021 (hexadecimal). What is divided are the bytes and two zeros
// behind them, of which the first two are inverted.
func remainder(b []byte) int {
	l := append(slices.Clone(b), 0, 0)
	l[0], l[1] = ^l[0], ^l[1]
	rest := 0
	for _, c := range l {
		for i := 7; i >= 0; i-- {
			rest = rest<<1 | int(c)>>i&1
			if rest > 0xFFFF {
				rest ^= 0x11021
			}
		}
	}
	return rest
}

// checked is b with its checksum behind it.
func checked(b []byte) []byte {
	return binary.BigEndian.AppendUint16(slices.Clone(b), uint16(remainder(b)))
}

// frame is the definition of the frame of an event. Of an event that is not
// valid it is what its frame would be, with the lowest bits of its numbers.
func frame(e api.Event) []byte {
	b := []byte{0xC1, byte(e.Kind)}
	b = binary.BigEndian.AppendUint16(b, uint16(e.Key.Terminal))
	b = binary.BigEndian.AppendUint32(b, uint32(e.Key.Seq))
	b = binary.BigEndian.AppendUint32(b, uint32(e.Employee))
	b = binary.BigEndian.AppendUint32(b, uint32(e.Time))
	b = binary.BigEndian.AppendUint16(b, uint16(e.Target.Terminal))
	b = binary.BigEndian.AppendUint32(b, uint32(e.Target.Seq))
	return checked(b)
}

// read is the event that a frame of 24 bytes would be of.
func read(b []byte) api.Event {
	two := func(i int) int { return int(binary.BigEndian.Uint16(b[i:])) }
	four := func(i int) int { return int(binary.BigEndian.Uint32(b[i:])) }
	return api.Event{Kind: int(b[1]), Key: api.Key{Terminal: two(2), Seq: four(4)}, Employee: four(8), Time: four(12), Target: api.Key{Terminal: two(16), Seq: four(18)}}
}

// isFrame reports whether 24 bytes are the frame of a valid event.
func isFrame(b []byte) bool {
	e := read(b)
	return valid(e) && bytes.Equal(frame(e), b)
}

// result is what Decode returns.
type result struct {
	events []api.Event
	gaps   []api.Gap
	read   int
}

func (r result) equal(s result) bool {
	return slices.Equal(r.events, s.events) && slices.Equal(r.gaps, s.gaps) && r.read == s.read
}

func decode(b []byte) result {
	events, gaps, n := records.Decode(b)
	return result{events, gaps, n}
}

// reference is the definition of what Decode returns.
func reference(b []byte) result {
	var r result
	lost := make([]bool, len(b)+1)
	for r.read+24 <= len(b) {
		if part := b[r.read : r.read+24]; isFrame(part) {
			r.events = append(r.events, read(part))
			r.read += 24
		} else {
			lost[r.read] = true
			r.read++
		}
	}
	for i := 0; i < len(b); i++ {
		from := i
		for lost[i] {
			i++
		}
		if i > from {
			r.gaps = append(r.gaps, api.Gap{From: from, To: i})
		}
	}
	return r
}

// expect checks what Decode returns for some bytes.
func expect(t *testing.T, b []byte, want result) {
	t.Helper()
	if got := decode(b); !got.equal(want) {
		t.Errorf("Decode of %d bytes %x is %v, want %v", len(b), b[:min(len(b), 120)], got, want)
	}
}

// someKey is a random key; its numbers are often small, great, or like the
// beginning of a frame.
func someKey(r *rand.Rand) api.Key {
	return api.Key{
		Terminal: []int{0, 1, 65535, 0xC101, 0xC106, r.Intn(65536)}[r.Intn(6)],
		Seq:      []int{0, 1, 2147483647, 0x05C10203, 0x0101C101, r.Intn(1 << 31)}[r.Intn(6)],
	}
}

// some is a random valid event.
func some(r *rand.Rand) api.Event {
	e := api.Event{Key: someKey(r), Employee: 1 + r.Intn(api.Sequences), Time: r.Intn(api.MaxTime + 1), Kind: 1 + r.Intn(6)}
	if slices.Contains(targeted, e.Kind) {
		e.Target = someKey(r)
	}
	return e
}

// wrong are frames with a right checksum that are frames of no valid event.
func wrong() [][]byte {
	var l [][]byte
	for _, kind := range []int{0, 7, 8, 127, 128, 0xC1, 254, 255} {
		l = append(l, frame(least(kind)))
		e := aimed()
		e.Kind = kind
		l = append(l, frame(e))
	}
	for _, kind := range kinds() {
		for _, e := range []api.Event{least(kind), greatest(kind)} {
			for _, f := range always()[1:] {
				for _, n := range []int{f.low - 1, f.high + 1, f.high + 2, 1 << 31, 1<<32 - 1} {
					if n >= 0 {
						l = append(l, frame(with(e, f, n)))
					}
				}
			}
		}
	}
	for _, kind := range untargeted {
		for i := range 16 {
			l = append(l, frame(with(least(kind), target()[0], 1<<i)))
		}
		for i := range 32 {
			l = append(l, frame(with(greatest(kind), target()[1], 1<<i)))
		}
	}
	for _, kind := range targeted {
		for _, n := range []int{1 << 31, 1<<31 + 1, 1<<32 - 1} {
			l = append(l, frame(with(greatest(kind), target()[1], n)))
		}
	}
	for _, c := range []byte{0, 1, 0x41, 0x81, 0xC0, 0xC2, 0xC3, 0xD1, 0xE1, 0xFF} {
		b := frame(aimed())
		b[0] = c
		l = append(l, checked(b[:22]))
	}
	return l
}

// noise are random bytes, many of which are like the beginning of a frame.
func noise(r *rand.Rand, n int) []byte {
	b := make([]byte, n)
	for i := range b {
		b[i] = []byte{0xC1, byte(r.Intn(8)), byte(r.Intn(256))}[r.Intn(3)]
	}
	return b
}

// stream are random bytes with frames, parts of frames, and what is like them.
func stream(r *rand.Rand, parts int) []byte {
	var b []byte
	bad := wrong()
	for range parts {
		f := frame(some(r))
		switch r.Intn(7) {
		case 0:
			f = noise(r, r.Intn(40))
		case 1:
			f = f[:r.Intn(24)]
		case 2:
			f = f[r.Intn(24):]
		case 3:
			f[r.Intn(24)] ^= byte(1 + r.Intn(255))
		case 4:
			f = bad[r.Intn(len(bad))]
		}
		b = append(b, f...)
	}
	return b
}

// P7.1

func TestValidBounds(t *testing.T) {
	for _, kind := range kinds() {
		fields := always()
		if slices.Contains(targeted, kind) {
			fields = append(fields, target()...)
		}
		for _, e := range []api.Event{least(kind), greatest(kind)} {
			if !records.Valid(e) {
				t.Errorf("%v is not valid", e)
			}
			for _, f := range fields {
				for _, n := range []int{f.low, f.low + 1, (f.low + f.high) / 2, f.high - 1, f.high} {
					if got := with(e, f, n); !records.Valid(got) {
						t.Errorf("%v is not valid (%s)", got, f.name)
					}
				}
				for _, n := range []int{f.low - 1, f.high + 1, math.MinInt, math.MaxInt} {
					if got := with(e, f, n); records.Valid(got) {
						t.Errorf("%v is valid (%s)", got, f.name)
					}
				}
			}
		}
	}
}

func TestValidKinds(t *testing.T) {
	if !slices.Equal(kinds(), []int{1, 2, 3, 4, 5, 6}) {
		t.Errorf("the kinds are %v", kinds())
	}
	for _, kind := range numbers() {
		want := 1 <= kind && kind <= 6
		if got := records.Valid(least(kind)); got != want {
			t.Errorf("Valid of an event without a target of the kind %d is %v", kind, got)
		}
		e := aimed()
		e.Kind = kind
		if got := records.Valid(e); got != (kind == 5 || kind == 6) {
			t.Errorf("Valid of an event with a target of the kind %d is %v", kind, got)
		}
	}
}

// A target can be the zero key, and the key of the event; where there is none,
// it must be the zero key.
func TestValidTargets(t *testing.T) {
	for _, e := range []api.Event{plain(), least(1), greatest(1)} {
		for _, kind := range kinds() {
			e.Kind = kind
			for _, n := range numbers() {
				one, other := with(e, target()[0], n), with(e, target()[1], n)
				if got, want := records.Valid(one), n == 0 || kind >= 5 && n > 0 && n <= 65535; got != want {
					t.Errorf("Valid(%v) is %v", one, got)
				}
				if got, want := records.Valid(other), n == 0 || kind >= 5 && n > 0 && n <= 2147483647; got != want {
					t.Errorf("Valid(%v) is %v", other, got)
				}
			}
			e.Target = e.Key
			if got, want := records.Valid(e), kind >= 5 || e.Key == (api.Key{}); got != want {
				t.Errorf("Valid(%v) is %v", e, got)
			}
			e.Target = api.Key{}
		}
	}
}

// Encode returns the frame of a valid event, and ErrInvalid for all others.
func TestEncodeAndValid(t *testing.T) {
	check := func(e api.Event) {
		t.Helper()
		want := valid(e)
		if got := records.Valid(e); got != want {
			t.Errorf("Valid(%v) is %v", e, got)
		}
		b, err := records.Encode(e)
		switch {
		case want && (!bytes.Equal(b, frame(e)) || err != api.OK):
			t.Errorf("Encode(%v) is %x, %v, want %x", e, b, err, frame(e))
		case !want && (len(b) != 0 || err != api.ErrInvalid):
			t.Errorf("Encode(%v) is %x, %v, want ErrInvalid", e, b, err)
		}
	}
	fields := append(always(), target()...)
	fields = append(fields, field{name: "Kind", of: func(e *api.Event) *int { return &e.Kind }})
	for _, e := range []api.Event{{}, plain(), aimed(), least(3), least(6), greatest(4), greatest(5)} {
		check(e)
		for _, f := range fields {
			for _, n := range numbers() {
				check(with(e, f, n))
			}
		}
	}
	r := rand.New(rand.NewSource(71))
	l := numbers()
	for range 50000 {
		e := some(r)
		check(e)
		for range 1 + r.Intn(2) {
			e = with(e, fields[r.Intn(len(fields))], l[r.Intn(len(l))])
		}
		check(e)
	}
}

func TestSumExamples(t *testing.T) {
	for _, row := range []struct {
		s    string
		want int
	}{
		{"", 65535}, {"123456789", 10673}, {"123456789", 0x29B1}, {"A", 0xB915}, {"\x00", 0xE1F0}, {"\xff", 0xFF00},
		{"\xff\xff", 0}, {"\x00\x00", 0x1D0F}, {strings.Repeat("A", 256), 0xEA0B},
	} {
		if got := records.Sum([]byte(row.s)); got != row.want {
			t.Errorf("Sum(%q) is %04X, want %04X", row.s, got, row.want)
		}
	}
	if got := records.Sum(nil); got != 65535 {
		t.Errorf("Sum of nil is %d", got)
	}
}

func TestSumByDivision(t *testing.T) {
	var l [][]byte
	for i := range 1 << 16 {
		l = append(l, []byte{byte(i >> 8), byte(i)})
		if i < 256 {
			l = append(l, []byte{byte(i)}, bytes.Repeat([]byte{byte(i)}, 300), make([]byte, i))
		}
	}
	r := rand.New(rand.NewSource(72))
	for range 3000 {
		b := make([]byte, r.Intn(60))
		r.Read(b)
		l = append(l, b)
	}
	l = append(l, make([]byte, 1<<17), bytes.Repeat([]byte{0xFF}, 1<<17))
	for _, b := range l {
		if got, want := records.Sum(b), remainder(b); got != want {
			t.Fatalf("Sum of %d bytes %x is %04X, want %04X", len(b), b[:min(len(b), 60)], got, want)
		}
	}
}

func TestEncodeExamples(t *testing.T) {
	for _, row := range []struct {
		e    api.Event
		want []byte
	}{
		{plain(), []byte{0xC1, 2, 0xA2, 0xB3, 0x14, 0x25, 0x36, 0x47, 0x58, 0x69, 0x7A, 0x8B, 6, 0xCD, 0xDE, 0xEF, 0, 0, 0, 0, 0, 0}},
		{aimed(), []byte{0xC1, 5, 0xA2, 0xB3, 0x14, 0x25, 0x36, 0x47, 0x58, 0x69, 0x7A, 0x8B, 6, 0xCD, 0xDE, 0xEF, 0xF0, 0xE1, 0x72, 0x83, 0x94, 5}},
		{least(1), []byte{0xC1, 1, 0, 0, 0, 0, 0, 0, 0, 0, 0, 1, 0, 0, 0, 0, 0, 0, 0, 0, 0, 0}},
		{least(6), []byte{0xC1, 6, 0, 0, 0, 0, 0, 0, 0, 0, 0, 1, 0, 0, 0, 0, 0, 0, 0, 0, 0, 0}},
		{greatest(4), []byte{0xC1, 4, 255, 255, 127, 255, 255, 255, 127, 255, 255, 255, 7, 0x35, 0xD5, 0xBF, 0, 0, 0, 0, 0, 0}},
		{greatest(6), []byte{0xC1, 6, 255, 255, 127, 255, 255, 255, 127, 255, 255, 255, 7, 0x35, 0xD5, 0xBF, 255, 255, 127, 255, 255, 255}},
	} {
		b, err := records.Encode(row.e)
		if want := checked(row.want); !bytes.Equal(b, want) || len(want) != 24 || err != api.OK {
			t.Errorf("Encode(%v) is %x, %v, want %x", row.e, b, err, want)
		}
	}
}

// Each number is at its place in the frame: with another number only the bytes
// of this place change, and those of the checksum.
func TestEncodePlaces(t *testing.T) {
	fields := slices.Concat(always(), target(), []field{{"Kind", func(e *api.Event) *int { return &e.Kind }, 5, 6}})
	from, to := []int{2, 4, 8, 12, 16, 18, 1}, []int{4, 8, 12, 16, 18, 22, 2}
	for _, e := range []api.Event{least(5), aimed(), greatest(6)} {
		old, _ := records.Encode(e)
		for i, f := range fields {
			for bit := 1; bit > 0 && bit <= f.high; bit <<= 1 {
				n := max(f.low, bit)
				b, err := records.Encode(with(e, f, n))
				if len(b) != 24 || err != api.OK {
					t.Fatalf("%s %d is refused: %v", f.name, n, err)
				}
				want := slices.Clone(old[:22])
				for k := from[i]; k < to[i]; k++ {
					want[k] = byte(n >> (8 * (to[i] - 1 - k)))
				}
				if !bytes.Equal(b, checked(want)) {
					t.Errorf("Encode of %v with %s %d is %x, want %x", e, f.name, n, b, checked(want))
				}
			}
		}
	}
}

// P7.2

func TestDecodeExamples(t *testing.T) {
	f := frame(aimed())
	for n := range 24 {
		expect(t, make([]byte, n), result{})
		expect(t, f[:n], result{})
		expect(t, bytes.Repeat([]byte{0xC1}, n), result{})
	}
	expect(t, nil, result{})
	expect(t, []byte{}, result{})
	expect(t, f, result{[]api.Event{aimed()}, nil, 24})
	expect(t, append(slices.Clone(f), 0xC1), result{[]api.Event{aimed()}, nil, 24})
	expect(t, append([]byte{7}, f...), result{[]api.Event{aimed()}, []api.Gap{{From: 0, To: 1}}, 25})
	expect(t, append([]byte{1, 2, 3}, f...), result{[]api.Event{aimed()}, []api.Gap{{From: 0, To: 3}}, 27})
	expect(t, append([]byte{1, 2, 3}, f[:23]...), result{nil, []api.Gap{{From: 0, To: 3}}, 3})
	expect(t, f[1:], result{})
	expect(t, append(slices.Clone(f[1:]), 0), result{nil, []api.Gap{{From: 0, To: 1}}, 1})
}

// Behind a gap as behind a frame, the last 23 bytes are not read.
func TestDecodeOfBytesWithoutFrames(t *testing.T) {
	f := frame(plain())
	for _, c := range []byte{0, 1, 0xC1, 0xFF} {
		for n := 24; n < 100; n++ {
			b := bytes.Repeat([]byte{c}, n)
			expect(t, b, result{nil, []api.Gap{{From: 0, To: n - 23}}, n - 23})
			expect(t, append(slices.Clone(f), b...), result{[]api.Event{plain()}, []api.Gap{{From: 24, To: n + 1}}, n + 1})
			expect(t, append(b, f...), result{[]api.Event{plain()}, []api.Gap{{From: 0, To: n}}, n + 24})
		}
	}
}

// The frames of valid events are decoded, one behind the other, without gaps.
func TestDecodeOfFrames(t *testing.T) {
	var b []byte
	var l []api.Event
	add := func(e api.Event) {
		l = append(l, e)
		b = append(b, frame(e)...)
		expect(t, frame(e), result{[]api.Event{e}, nil, 24})
	}
	for _, kind := range kinds() {
		add(least(kind))
		add(greatest(kind))
		for _, f := range always() {
			add(with(least(kind), f, f.high))
			add(with(greatest(kind), f, f.low))
		}
	}
	for _, kind := range targeted {
		for _, f := range target() {
			add(with(least(kind), f, f.high))
			add(with(greatest(kind), f, f.low))
		}
	}
	r := rand.New(rand.NewSource(73))
	for range 1000 {
		add(some(r))
	}
	expect(t, b, result{l, nil, len(b)})
	expect(t, append(b, b[:23]...), result{l, nil, len(b)})
	var encoded []byte
	for _, e := range l {
		f, _ := records.Encode(e)
		encoded = append(encoded, f...)
	}
	if !bytes.Equal(encoded, b) {
		t.Error("the frames of Encode are others")
	}
}

// Frames are at the beginning, between gaps, one behind the other, and at the end.
func TestDecodeOfFramesAndGaps(t *testing.T) {
	for before := range 30 {
		for between := range 30 {
			for _, behind := range []int{0, 1, 22, 23, 24, 25, 48} {
				b := slices.Concat(make([]byte, before), frame(plain()), bytes.Repeat([]byte{0xC1}, between), frame(aimed()), frame(least(1)), make([]byte, behind))
				second := before + 24 + between
				want := result{events: []api.Event{plain(), aimed(), least(1)}, read: second + 48}
				if before > 0 {
					want.gaps = append(want.gaps, api.Gap{From: 0, To: before})
				}
				if between > 0 {
					want.gaps = append(want.gaps, api.Gap{From: before + 24, To: second})
				}
				if behind > 23 {
					want.read += behind - 23
					want.gaps = append(want.gaps, api.Gap{From: second + 48, To: want.read})
				}
				expect(t, b, want)
			}
		}
	}
}

// overlapping are two frames: the second begins within the first at a place at
// which that is possible, and is its end from there on.
func overlapping(r *rand.Rand, place int) ([]byte, []byte) {
	for {
		b := make([]byte, 24+place)
		r.Read(b)
		for _, begin := range []int{0, place} {
			b[begin], b[begin+1] = 0xC1, byte(5+r.Intn(2))
		}
		for _, begin := range []int{0, place} {
			for _, high := range []int{4, 8, 18} {
				b[begin+high] &= 0x7F
			}
			b[begin+12] &= 7
		}
		for _, begin := range []int{0, place} {
			copy(b[begin+22:], checked(b[begin : begin+22])[22:])
		}
		if isFrame(b[:24]) && isFrame(b[place:]) {
			return b[:24], b[place:]
		}
	}
}

// What is within a frame belongs to it, also if another frame begins there. If
// the first one is damaged, the second one is found.
func TestDecodeOfFramesWithinFrames(t *testing.T) {
	r := rand.New(rand.NewSource(74))
	for place := 2; place < 24; place++ {
		if slices.Contains([]int{4, 8, 12, 18}, place) {
			continue // the first byte of a number, which is less than C1
		}
		a, c := overlapping(r, place)
		b := slices.Concat(a, c[24-place:])
		one, other := []api.Event{read(a)}, []api.Event{read(c)}
		expect(t, b, result{one, nil, 24})
		expect(t, append(slices.Clone(b), make([]byte, 24)...), result{one, []api.Gap{{From: 24, To: 25 + place}}, 25 + place})
		expect(t, slices.Concat(b, a), result{[]api.Event{read(a), read(a)}, []api.Gap{{From: 24, To: 24 + place}}, 48 + place})
		expect(t, b[1:], result{other, []api.Gap{{From: 0, To: place - 1}}, 23 + place})
		for i := range place {
			damaged := slices.Clone(b)
			damaged[i] ^= 0x10
			expect(t, damaged, result{other, []api.Gap{{From: 0, To: place}}, 24 + place})
		}
	}
}

// Bytes like the beginning of a frame belong to a gap, and do not hide the frame
// behind them.
func TestDecodeOfBeginnings(t *testing.T) {
	f := frame(aimed())
	for n := range 24 {
		expect(t, slices.Concat(f[:n], f), result{[]api.Event{aimed()}, gap(0, n), n + 24})
		expect(t, slices.Concat(f[:n], f[:n], f, f[:n]), result{[]api.Event{aimed()}, gap(0, 2*n), 2*n + 24})
		expect(t, slices.Concat(f, f[:n], f), result{[]api.Event{aimed(), aimed()}, gap(24, 24+n), 48 + n})
		expect(t, slices.Concat(f, f[24-n:], f), result{[]api.Event{aimed(), aimed()}, gap(24, 24+n), 48 + n})
		expect(t, slices.Concat(bytes.Repeat([]byte{0xC1}, n), f), result{[]api.Event{aimed()}, gap(0, n), n + 24})
		expect(t, slices.Concat(bytes.Repeat([]byte{0xC1, 5}, n), f), result{[]api.Event{aimed()}, gap(0, 2*n), 2*n + 24})
	}
}

// gap is the list of a range of bytes, if it is not empty.
func gap(from, to int) []api.Gap {
	if from == to {
		return nil
	}
	return []api.Gap{{From: from, To: to}}
}

// A frame with any one byte changed is none.
func TestDecodeOfDamagedFrames(t *testing.T) {
	r := rand.New(rand.NewSource(75))
	l := []api.Event{plain(), aimed()}
	for _, kind := range kinds() {
		l = append(l, least(kind), greatest(kind), some(r), some(r))
	}
	for _, e := range l {
		f := frame(e)
		for i := range f {
			for x := 1; x < 256; x++ {
				b := slices.Clone(f)
				b[i] ^= byte(x)
				expect(t, b, result{nil, gap(0, 1), 1})
			}
		}
		for i := range f {
			b := slices.Concat(f, f, f)
			b[24+i] ^= 0x20
			expect(t, b, result{[]api.Event{e, e}, gap(24, 48), 72})
		}
	}
}

// Of all numbers of 16 bits behind 22 bytes, only their checksum makes a frame.
func TestDecodeChecksum(t *testing.T) {
	for _, e := range []api.Event{plain(), aimed(), least(1), greatest(6)} {
		f := frame(e)
		for sum := range 1 << 16 {
			b := binary.BigEndian.AppendUint16(slices.Clone(f[:22]), uint16(sum))
			if sum == remainder(f[:22]) {
				expect(t, b, result{[]api.Event{e}, nil, 24})
			} else {
				expect(t, b, result{nil, gap(0, 1), 1})
			}
		}
	}
}

// The frame of an event that is not valid is none, whatever its checksum.
func TestDecodeOfWrongEvents(t *testing.T) {
	f := frame(plain())
	for _, b := range wrong() {
		if len(b) != 24 || records.Sum(b[:22]) != int(binary.BigEndian.Uint16(b[22:])) {
			t.Fatalf("the checksum of %x is not right", b)
		}
		expect(t, b, result{nil, gap(0, 1), 1})
		expect(t, append(slices.Clone(b), f...), result{[]api.Event{plain()}, gap(0, 24), 48})
		expect(t, slices.Concat(f, b, f, b), result{[]api.Event{plain(), plain()}, []api.Gap{{From: 24, To: 48}, {From: 72, To: 73}}, 73})
	}
}

func TestDecodeOfRandomBytes(t *testing.T) {
	r := rand.New(rand.NewSource(76))
	found, gaps := 0, 0
	for range 3000 {
		b := stream(r, r.Intn(12))
		want := reference(b)
		expect(t, b, want)
		found += len(want.events)
		gaps += len(want.gaps)
	}
	if found < 4000 || gaps < 4000 {
		t.Errorf("the random bytes have only %d frames and %d gaps", found, gaps)
	}
}

// joined is the result of decoding bytes up to a place, and then what was not
// read with the rest.
func joined(b []byte, place int) result {
	r := decode(b[:place])
	next := decode(b[r.read:])
	r.events = append(r.events, next.events...)
	for _, g := range next.gaps {
		g.From, g.To = g.From+r.read, g.To+r.read
		if n := len(r.gaps); n > 0 && r.gaps[n-1].To == g.From {
			r.gaps[n-1].To = g.To
		} else {
			r.gaps = append(r.gaps, g)
		}
	}
	r.read += next.read
	return r
}

func TestDecodeInTwoParts(t *testing.T) {
	r := rand.New(rand.NewSource(77))
	all := [][]byte{nil, frame(plain()), make([]byte, 50), slices.Concat(frame(plain()), frame(aimed())), slices.Concat([]byte{1}, frame(aimed()), []byte{0xC1, 5}, frame(plain()), []byte{2})}
	for range 60 {
		all = append(all, stream(r, 6))
	}
	for _, b := range all {
		want := decode(b)
		for place := range len(b) + 1 {
			if got := joined(b, place); !got.equal(want) {
				t.Fatalf("Decode of %x in two parts at %d is %v, want %v", b, place, got, want)
			}
		}
	}
}

func TestDecodeInManyParts(t *testing.T) {
	r := rand.New(rand.NewSource(78))
	for _, most := range []int{1, 2, 23, 24, 25, 60} {
		for range 30 {
			b := stream(r, 8)
			var got result
			var kept []byte
			for left := b; len(left) > 0; {
				n := min(len(left), 1+r.Intn(most))
				kept = append(kept, left[:n]...)
				left = left[n:]
				part := decode(kept)
				got.events = append(got.events, part.events...)
				got.read += part.read
				kept = kept[part.read:]
			}
			if want := decode(b); !slices.Equal(got.events, want.events) || got.read != want.read || !bytes.Equal(kept, b[want.read:]) {
				t.Fatalf("Decode of %x in parts of up to %d bytes is %v, want %v", b, most, got, want)
			}
		}
	}
}

// The lists are long, too.
func TestDecodeOfManyBytes(t *testing.T) {
	const n = 20000
	one := append(frame(aimed()), 0xC1)
	got := decode(append(bytes.Repeat(one, n), one...))
	if len(got.events) != n+1 || len(got.gaps) != n || got.read != 25*n+24 {
		t.Fatalf("%d frames are %d events and %d gaps, read %d", n+1, len(got.events), len(got.gaps), got.read)
	}
	for i := range n {
		if got.events[i] != aimed() || got.gaps[i] != (api.Gap{From: 25*i + 24, To: 25*i + 25}) {
			t.Fatalf("the event %d is %v, the gap %v", i, got.events[i], got.gaps[i])
		}
	}
	expect(t, make([]byte, 1<<20), result{nil, gap(0, 1<<20-23), 1<<20 - 23})
}

// R2, R3, R6

func TestArgumentsAndResultsAreApart(t *testing.T) {
	whole := slices.Concat([]byte{1, 2}, frame(plain()), []byte{0xC1}, frame(aimed()), frame(least(4)), []byte{9, 8})
	b := slices.Clone(whole)
	part := b[1 : 2+24+1+24]
	want := reference(whole[1 : 2+24+1+24])
	first, second := decode(part), decode(part)
	sum := records.Sum(part)
	if !bytes.Equal(b, whole) {
		t.Errorf("the bytes are %x, were %x", b, whole)
	}
	clear(b)
	clear(second.events[:cap(second.events)])
	clear(second.gaps[:cap(second.gaps)])
	if !first.equal(want) || sum != remainder(whole[1:2+24+1+24]) {
		t.Errorf("the result is %v, was %v", first, want)
	}
	one, _ := records.Encode(plain())
	other, _ := records.Encode(plain())
	clear(one[:cap(one)])
	if third, _ := records.Encode(plain()); !bytes.Equal(other, frame(plain())) || !bytes.Equal(third, other) {
		t.Errorf("the frames are %x and %x, want %x", other, third, frame(plain()))
	}
}
