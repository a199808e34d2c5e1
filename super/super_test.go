package super

import (
	"crypto/sha256"
	"encoding/binary"
	"go/ast"
	"go/parser"
	"go/token"
	"math"
	"reflect"
	"slices"
	"strconv"
	"strings"
	"testing"

	"cofferdam/api"
)

// fixed is how many bytes a record has beside its seats and members, and ofMember how many a member has: by the document's example 104 + 4 · 88 with four of each.
const (
	fixed    = 72
	ofSeat   = 8
	ofMember = 88
)

// edges are ints at the edges of their kind, and such as are small ones where they are cut to fewer bits.
var edges = []int{math.MinInt, math.MinInt + 1, math.MinInt + 4, math.MinInt32, -1 << 32, -1<<32 + 4, -256, -16, -8, -4, -2, -1, 255, 256, 258, 260, 1<<32 - 1, 1 << 32, 1<<32 + 2, 1<<32 + 4, 1<<32 + 8, 1<<32 + 16, 1<<62 + 4, math.MaxInt - 1, math.MaxInt}

// digest tells a text of 32 bytes, another one for each number.
func digest(n int) string {
	b := make([]byte, api.Digest)
	for i := range b {
		b[i] = byte(n*37 + i*11)
	}
	return string(b)
}

// record tells a good one, with as many seats as it needs, the last member the first seat's, and with so many members that sit nowhere: they are Spare, those that sit Active.
func record(data, slots, spares int, growing bool) Super {
	s := Super{Count: 0x0102030405060708, Epoch: 0xf1f2f3f4f5f6f7f8, Data: data, Slots: slots, Growing: growing}
	width := data + 2
	if growing {
		width++
		s.Mark = slots / 2
	}
	for i := range width + spares {
		m := Member{State: Spare, Top: digest(2 * i), Log: digest(2*i + 1)}
		if i >= spares {
			m.State = Active
			s.Seats = append([]int{i}, s.Seats...)
		}
		s.Members = append(s.Members, m)
	}
	return s
}

// ordinary tells good records of all shapes: each Data, Slots and number of spares, with and without Growing, with a member that is Building and with none, and with some that have failed.
func ordinary() []Super {
	var l []Super
	for _, growing := range []bool{false, true} {
		for data := 2; data <= most(growing); data++ {
			for _, slots := range []int{2, 4, 8, 16} {
				for spares := 0; width(data, growing)+spares <= 12; spares++ {
					l = append(l, variants(record(data, slots, spares, growing))...)
				}
			}
		}
	}
	return l
}

// variants tells a record, and such as differ from it in what its members are.
func variants(s Super) []Super {
	building := s.Copy()
	building.Members[s.Seats[1]].State, building.Built = Building, s.Slots
	begun := building.Copy()
	begun.Built, begun.Mark = 0, 0
	failed := s.Copy()
	failed.Members[s.Seats[0]].State = Failed
	failed.Members[0].State = Failed
	return []Super{s, building, begun, failed}
}

// most tells the greatest Data, and width how many seats there are.
func most(growing bool) int {
	if growing {
		return 7
	}
	return 8
}

func width(data int, growing bool) int {
	if growing {
		return data + 3
	}
	return data + 2
}

// written tells numbers as bytes, by the library.
func written(l ...uint64) string {
	var b []byte
	for _, n := range l {
		b = binary.BigEndian.AppendUint64(b, n)
	}
	return string(b)
}

// bytesOf tells a record's bytes as the document lists them.
func bytesOf(s Super) string {
	growing := uint64(0)
	if s.Growing {
		growing = 1
	}
	var b strings.Builder
	b.WriteString(written(s.Count, s.Epoch, uint64(s.Data), uint64(s.Slots), uint64(s.Mark), uint64(s.Built), growing))
	b.WriteString(written(uint64(len(s.Seats))))
	for _, n := range s.Seats {
		b.WriteString(written(uint64(n)))
	}
	b.WriteString(written(uint64(len(s.Members))))
	for _, m := range s.Members {
		b.WriteString(written(uint64(m.State), uint64(len(m.Top))) + m.Top)
		b.WriteString(written(uint64(len(m.Log))) + m.Log)
	}
	return b.String()
}

// isGood asks what the document asks, a sentence after the other.
func isGood(s Super) bool {
	sits, built := 0, false
	for i, m := range s.Members {
		at := 0
		for _, n := range s.Seats {
			if n == i {
				at++
			}
		}
		switch {
		case m.State == Failed && at <= 1:
		case m.State == Active && at == 1:
		case m.State == Building && at == 1 && !built:
			built = true
		case m.State == Spare && at == 0:
		default:
			return false
		}
		if len(m.Top) != 32 || len(m.Log) != 32 {
			return false
		}
		sits += at
	}
	switch {
	case s.Data < 2, s.Data > most(s.Growing):
		return false
	case s.Slots != 2 && s.Slots != 4 && s.Slots != 8 && s.Slots != 16:
		return false
	case s.Mark < 0, s.Mark > s.Slots, s.Mark != 0 && !s.Growing:
		return false
	case s.Built < 0, s.Built > s.Slots, s.Built != 0 && !built:
		return false
	}
	return len(s.Members) <= 12 && len(s.Seats) == width(s.Data, s.Growing) && sits == len(s.Seats)
}

// same tells whether two records are one: an empty list may be nil or not.
func same(a, b Super) bool {
	return a.Count == b.Count && a.Epoch == b.Epoch && a.Data == b.Data && a.Slots == b.Slots && a.Mark == b.Mark && a.Built == b.Built && a.Growing == b.Growing && slices.Equal(a.Seats, b.Seats) && slices.Equal(a.Members, b.Members)
}

// deep tells a record with lists of its own, which no call of the program made.
func deep(s Super) Super {
	s.Seats = append([]int{}, s.Seats...)
	s.Members = append([]Member{}, s.Members...)
	return s
}

// guarded tells the record with memory behind its lists, as there is where they were cut, in which stands what would make a difference.
func guarded(s Super) Super {
	seats := append(append([]int{}, s.Seats...), 0, -7, 3)
	members := append(append([]Member{}, s.Members...), Member{State: 77, Top: "x"}, Member{State: Building})
	s.Seats, s.Members = seats[:len(s.Seats)], members[:len(s.Members)]
	return s
}

// holdUnspoilt holds that what was handed in, with guards, is as it was.
func holdUnspoilt(t *testing.T, what string, s, was Super) {
	t.Helper()
	n, m := len(s.Seats), len(s.Members)
	if !same(s, was) || !slices.Equal(s.Seats[n:n+3], []int{0, -7, 3}) || !slices.Equal(s.Members[m:m+2], []Member{{State: 77, Top: "x"}, {State: Building}}) {
		t.Fatalf("%s: rule 4: what was handed in has become %#v", what, s)
	}
}

// holdGood holds a good record against Good, Put and Get.
func holdGood(t *testing.T, what string, was Super) {
	t.Helper()
	s := guarded(was)
	for range 2 {
		if !s.Good() {
			t.Fatalf("P14.1: %s: not good: %#v", what, was)
		}
		b, e := Put(s)
		if e != api.OK || b != bytesOf(was) {
			t.Fatalf("P14.1: %s: Put: error %d, %x, want %x", what, e, b, bytesOf(was))
		}
		if len(b) != fixed+len(s.Seats)*ofSeat+len(s.Members)*ofMember || len(b) > api.MaxCell {
			t.Fatalf("P14.1: %s: %d bytes", what, len(b))
		}
		got, e := Get(b)
		if e != api.OK || !same(got, was) {
			t.Fatalf("P14.2: %s: Get: error %d, %#v, want %#v", what, e, got, was)
		}
		holdUnspoilt(t, what, s, was)
	}
}

// holdBad holds one that isn't good against Good, Put and Get, which is handed what its bytes would be.
func holdBad(t *testing.T, what string, was Super) {
	t.Helper()
	s := guarded(was)
	if s.Good() {
		t.Fatalf("P14.1: %s: good: %#v", what, was)
	}
	if b, e := Put(s); e != api.ErrForm || b != "" {
		t.Fatalf("P14.1: %s: Put: error %d, %x", what, e, b)
	}
	holdUnspoilt(t, what, s, was)
	holdNoBytes(t, what, bytesOf(was))
}

// hold holds a record against all calls, by what the document's sentences say of it.
func hold(t *testing.T, what string, s Super) {
	t.Helper()
	if isGood(s) {
		holdGood(t, what, s)
	} else {
		holdBad(t, what, s)
	}
}

// holdNoBytes holds that Get refuses a text, and tells nothing beside the error.
func holdNoBytes(t *testing.T, what, b string) {
	t.Helper()
	got, e := Get(b)
	if e != api.ErrForm {
		t.Fatalf("P14.2: %s: Get: error %d of %x", what, e, b)
	}
	if len(got.Seats) > 0 || len(got.Members) > 0 || !same(got, Super{}) {
		t.Fatalf("P14.2: %s: rule 2: beside the error %#v", what, got)
	}
}

// The document's example.
func TestExample(t *testing.T) {
	b, e := Put(record(2, 4, 0, false))
	if e != api.OK || len(b) != 104+4*88 {
		t.Errorf("P14.1: the example: error %d, %d bytes", e, len(b))
	}
}

// P14.1, P14.2: records of all shapes are good, have the document's bytes, and are told by these.
func TestOrdinary(t *testing.T) {
	l := ordinary()
	for i, s := range l {
		holdGood(t, "record "+strconv.Itoa(i), s)
	}
	seen := map[string]int{}
	for i, s := range l {
		b, _ := Put(s)
		if j, ok := seen[b]; ok && !same(l[i], l[j]) {
			t.Errorf("P14.1: records %d and %d have the same bytes", j, i)
		}
		seen[b] = i
	}
}

// P14.1: the bytes, number by number, of a record that has another one at each place.
func TestBytes(t *testing.T) {
	top, log := strings.Repeat("t", 32), strings.Repeat("l", 32)
	s := Super{Count: 1<<64 - 2, Epoch: 1 << 33, Data: 2, Slots: 16, Mark: 7, Built: 9, Growing: true, Seats: []int{5, 0, 3, 2, 1}}
	for _, st := range []State{Active, Building, Failed, Active, Spare, Active, Failed} {
		s.Members = append(s.Members, Member{State: st, Top: top, Log: log})
	}
	want := "\xff\xff\xff\xff\xff\xff\xff\xfe" + "\x00\x00\x00\x02\x00\x00\x00\x00"
	for _, n := range []string{"\x02", "\x10", "\x07", "\x09", "\x01", "\x05", "\x05", "\x00", "\x03", "\x02", "\x01", "\x07"} {
		want += "\x00\x00\x00\x00\x00\x00\x00" + n
	}
	for _, n := range []string{"\x01", "\x03", "\x02", "\x01", "\x00", "\x01", "\x02"} {
		want += "\x00\x00\x00\x00\x00\x00\x00" + n + "\x00\x00\x00\x00\x00\x00\x00\x20" + top + "\x00\x00\x00\x00\x00\x00\x00\x20" + log
	}
	b, e := Put(s)
	if e != api.OK || b != want {
		t.Errorf("P14.1: error %d, %x, want %x", e, b, want)
	}
	got, e := Get(want)
	if e != api.OK || !reflect.DeepEqual(got, s) {
		t.Errorf("P14.2: error %d, %#v, want %#v", e, got, s)
	}
}

// P14.1: the greatest record fits a cell.
func TestFits(t *testing.T) {
	for _, s := range []Super{record(8, 16, 2, false), record(7, 16, 2, true)} {
		b, e := Put(s)
		if e != api.OK || len(b) != fixed+10*ofSeat+12*ofMember || len(b) > api.MaxCell {
			t.Errorf("P14.1: error %d, %d bytes", e, len(b))
		}
	}
}

// P14.1: the states have the document's order.
func TestStates(t *testing.T) {
	if Spare != 0 || Active != 1 || Failed != 2 || Building != 3 {
		t.Errorf("Ways: the states are %d, %d, %d, %d", Spare, Active, Failed, Building)
	}
}

// P14.1: Count and Epoch may be any numbers.
func TestCounts(t *testing.T) {
	for k := range 64 {
		s := record(2, 4, 1, false)
		s.Count, s.Epoch = 1<<k, -(1 << k)
		holdGood(t, "a count", s)
		s.Count, s.Epoch = 1<<k-1, 1<<k+1
		holdGood(t, "a count", s)
	}
	s := record(2, 4, 1, false)
	s.Count, s.Epoch = math.MaxUint64, 0
	holdGood(t, "the greatest count", s)
	s.Count, s.Epoch = 0, math.MaxUint64
	holdGood(t, "the greatest epoch", s)
}

// P14.1: Data from 2 to 8, or to 7 if it grows, also where there are as many seats as it would need.
func TestData(t *testing.T) {
	for _, growing := range []bool{false, true} {
		for data := range 10 {
			s := record(max(data, 1), 4, 0, growing)
			s.Data = data
			if good := data >= 2 && data <= most(growing); good != s.Good() {
				t.Errorf("P14.1: Data %d, Growing %v: Good %v", data, growing, !good)
			}
			hold(t, "Data "+strconv.Itoa(data), s)
			for n := range 13 {
				s.Data = n
				hold(t, "Data that isn't the seats'", s)
			}
		}
		for _, data := range edges {
			s := record(2, 4, 1, growing)
			s.Data = data
			holdBad(t, "Data at an edge", s)
			s.Seats = nil
			holdBad(t, "Data at an edge, without seats", s)
		}
	}
}

// P14.1: Slots are 2, 4, 8, or 16.
func TestSlots(t *testing.T) {
	for _, growing := range []bool{false, true} {
		for slots := range 70 {
			s := record(3, slots, 1, growing)
			s.Mark = 0
			good := slots == 2 || slots == 4 || slots == 8 || slots == 16
			if s.Good() != good {
				t.Errorf("P14.1: Slots %d: Good %v", slots, !good)
			}
			hold(t, "Slots "+strconv.Itoa(slots), s)
		}
		for _, slots := range edges {
			s := record(3, 4, 1, growing)
			s.Mark, s.Slots = 0, slots
			holdBad(t, "Slots at an edge", s)
		}
	}
}

// P14.1: Mark from 0 to Slots, 0 if it doesn't grow; a member that is built makes no difference.
func TestMark(t *testing.T) {
	for _, slots := range []int{2, 4, 8, 16} {
		for _, growing := range []bool{false, true} {
			for i, s := range variants(record(2, slots, 2, growing)) {
				for n := -2; n < slots+20; n++ {
					s.Mark = n
					good := n == 0 || growing && n > 0 && n <= slots
					if s.Good() != good {
						t.Errorf("P14.1: variant %d: Mark %d of %d slots, Growing %v: Good %v", i, n, slots, growing, !good)
					}
					hold(t, "Mark "+strconv.Itoa(n), s)
				}
				for _, n := range edges {
					s.Mark = n
					hold(t, "Mark at an edge", s)
				}
			}
		}
	}
}

// P14.1: Built from 0 to Slots, 0 if no member is Building; Growing makes no difference.
func TestBuilt(t *testing.T) {
	for _, slots := range []int{2, 4, 8, 16} {
		for _, growing := range []bool{false, true} {
			for i, s := range variants(record(2, slots, 2, growing)) {
				building := i == 1 || i == 2
				for n := -2; n < slots+20; n++ {
					s.Built = n
					good := n == 0 || building && n > 0 && n <= slots
					if s.Good() != good {
						t.Errorf("P14.1: Built %d of %d slots, a member Building %v: Good %v", n, slots, building, !good)
					}
					hold(t, "Built "+strconv.Itoa(n), s)
				}
				for _, n := range edges {
					s.Built = n
					hold(t, "Built at an edge", s)
				}
			}
		}
	}
}

// P14.1: from 1 to 12 members.
func TestMembers(t *testing.T) {
	for _, growing := range []bool{false, true} {
		for data := 2; data <= most(growing); data++ {
			for spares := range 14 {
				s := record(data, 8, spares, growing)
				if good := len(s.Members) <= 12; s.Good() != good {
					t.Errorf("P14.1: %d members: Good %v", len(s.Members), !good)
				}
				hold(t, strconv.Itoa(len(s.Members))+" members", s)
			}
		}
	}
	s := record(2, 4, 0, false)
	s.Members = nil
	holdBad(t, "no members", s)
	s.Seats = nil
	holdBad(t, "no members, no seats", s)
	s = record(2, 4, 0, false)
	for n := range 4 {
		fewer := s
		fewer.Members = s.Members[:n]
		holdBad(t, "fewer members than seats", fewer)
	}
	s.Members = make([]Member, 1<<16)
	holdBad(t, "very many members", s)
	holdBad(t, "nothing", Super{})
	if (Super{}).Good() {
		t.Error("P14.1: the zero record is good")
	}
}

// P14.1: each state of each member, with a seat and without one.
func TestStateOfEach(t *testing.T) {
	for i := range 7 {
		for st := State(-3); st < 9; st++ {
			s := record(2, 4, 3, false)
			s.Members[i].State = st
			good := st == Failed || i < 3 && st == Spare || i >= 3 && (st == Active || st == Building)
			if s.Good() != good {
				t.Errorf("P14.1: member %d of state %d: Good %v", i, st, !good)
			}
			hold(t, "a state", s)
		}
		for _, st := range edges {
			s := record(2, 4, 3, false)
			s.Members[i].State = State(st)
			holdBad(t, "a state at an edge", s)
		}
	}
}

// P14.1: at most one member is Building, wherever the two stand; all may have failed.
func TestOneBuilding(t *testing.T) {
	for i := range 8 {
		for j := range i {
			s := record(4, 4, 2, false)
			s.Members[i].State, s.Members[j].State = Building, Building
			holdBad(t, "two Building", s)
			s.Built = 2
			holdBad(t, "two Building, Built set", s)
			if i >= 2 && j >= 2 {
				s.Members[j].State = Failed
				holdGood(t, "one Building", s)
			}
		}
	}
	s := record(4, 4, 2, false)
	for i := range s.Members {
		s.Members[i].State = Failed
		holdGood(t, "some have failed", s)
	}
}

// P14.1: Top and Log have 32 bytes each, of whatever kind, of each member.
func TestDigests(t *testing.T) {
	for i := range 6 {
		for n := range 70 {
			for _, k := range []int{0, 1} {
				s := record(2, 4, 2, false)
				part := []*string{&s.Members[i].Top, &s.Members[i].Log}[k]
				*part = strings.Repeat("\x00\xff", 40)[:n]
				if good := n == 32; s.Good() != good {
					t.Errorf("P14.1: member %d, text %d of %d bytes: Good %v", i, k, n, !good)
				}
				hold(t, "a text of "+strconv.Itoa(n), s)
			}
		}
		s := record(2, 4, 2, false)
		s.Members[i].Top, s.Members[i].Log = digest(0)+"x", digest(0)[:31]
		holdBad(t, "a byte from one to the other", s)
		s.Members[i].Log, s.Members[i].Top = s.Members[i].Top, s.Members[i].Log
		holdBad(t, "a byte from the other to the one", s)
		s.Members[i].Top, s.Members[i].Log = strings.Repeat("ä", 16), strings.Repeat("\x00", 32)
		holdGood(t, "texts of bytes", s)
		s.Members[i].Top = strings.Repeat("ä", 32)
		holdBad(t, "a text of 32 runes", s)
		s.Members[i].Top = strings.Repeat("x", 1<<20)
		holdBad(t, "a long text", s)
	}
}

// P14.1: as many seats as the widest stripe has chunks.
func TestHowManySeats(t *testing.T) {
	for _, growing := range []bool{false, true} {
		for data := 2; data <= most(growing); data++ {
			all := record(9, 8, 0, false) // eleven members and their seats
			all.Data, all.Growing = data, growing
			for n := range 12 {
				s := deep(all)
				s.Seats = s.Seats[:n]
				for i := range s.Members {
					s.Members[i].State = Failed
				}
				if good := n == width(data, growing); s.Good() != good {
					t.Errorf("P14.1: Data %d, Growing %v, %d seats: Good %v", data, growing, n, !good)
				}
				hold(t, strconv.Itoa(n)+" seats", s)
			}
		}
	}
	s := record(2, 4, 0, false)
	s.Seats = make([]int, 1<<16)
	holdBad(t, "very many seats", s)
	s.Seats = append(record(2, 4, 0, false).Seats, -1)
	holdBad(t, "a seat too many, of nobody", s)
	s.Seats = append(record(2, 4, 0, false).Seats, 0)
	holdBad(t, "a seat too many, of somebody who has one", s)
}

// P14.1: each seat is a member's number, in any order.
func TestSeats(t *testing.T) {
	for place := range 5 {
		for n := -5; n < 30; n++ {
			s := record(3, 4, 2, false)
			for i := range s.Members {
				s.Members[i].State = Failed // so that the seats alone make a difference
			}
			was := s.Seats[place]
			s.Seats[place] = n
			good := n == was || n == 0 || n == 1
			if s.Good() != good {
				t.Errorf("P14.1: seat %d is %d: Good %v", place, n, !good)
			}
			hold(t, "a seat", s)
		}
		for _, n := range edges {
			s := record(3, 4, 2, false)
			s.Seats[place] = n
			holdBad(t, "a seat at an edge", s)
		}
	}
	s := record(3, 4, 0, false)
	for range 120 {
		s.Seats = append(s.Seats[1:], s.Seats[0])
		s.Seats[1], s.Seats[2] = s.Seats[2], s.Seats[1]
		holdGood(t, "seats in another order", deep(s))
	}
}

// P14.1: no seat is there twice, whatever the member is.
func TestSeatTwice(t *testing.T) {
	for i := range 4 {
		for j := range 4 {
			s := record(2, 4, 1, false)
			s.Members[s.Seats[j]].State = Failed
			s.Seats[j] = s.Seats[i]
			if i == j {
				holdGood(t, "once", s)
				continue
			}
			holdBad(t, "a seat twice", s)
			s.Members[s.Seats[i]].State = Failed
			holdBad(t, "a failed one's seat twice", s)
		}
	}
	s := record(2, 4, 0, false)
	s.Seats = []int{1, 1, 1, 1}
	holdBad(t, "one seat alone", s)
	s.Seats = []int{0, 0, 1, 1}
	s.Members = s.Members[:2]
	holdBad(t, "two members on four seats", s)
}

// chance tells numbers that look like chance, the same in each run.
type chance uint64

func (c *chance) next() uint64 {
	*c = *c*6364136223846793005 + 1442695040888963407
	return uint64(*c) ^ uint64(*c)>>29
}

func (c *chance) below(n int) int {
	return int(c.next() >> 11 % uint64(n))
}

// some tells a record of chance, good or nearly so.
func (c *chance) some() Super {
	growing := c.below(2) == 1
	s := record(2+c.below(7), []int{2, 4, 8, 16}[c.below(4)], c.below(3), growing)
	if c.below(2) == 0 {
		s = variants(s)[c.below(4)]
	}
	s.Count, s.Epoch = c.next(), c.next()>>c.below(64)
	for i := range s.Members {
		if c.below(4) == 0 {
			s.Members[i].State = Failed
		}
	}
	return s
}

// spoil changes a thing of a record, by chance to what it was, or to another good one.
func (c *chance) spoil(s *Super) {
	small := c.below(20) - 2
	switch c.below(10) {
	case 0:
		s.Data = small
	case 1:
		s.Slots = small
	case 2:
		s.Mark = small
	case 3:
		s.Built = small
	case 4:
		s.Growing = !s.Growing
	case 5:
		s.Seats[c.below(len(s.Seats))] = small
	case 6:
		s.Seats = append(s.Seats, small)
	case 7:
		s.Members[c.below(len(s.Members))].State = State(small % 5)
	case 8:
		s.Members[c.below(len(s.Members))].Log = strings.Repeat("x", 31+c.below(3))
	case 9:
		s.Members = append(s.Members, Member{State(c.below(4)), digest(1), digest(2)})
	}
}

// P14.1, P14.2: many records of chance, good or not, against the document's sentences.
func TestByChance(t *testing.T) {
	c := chance(14)
	good := 0
	for range 30000 {
		s := c.some()
		for range c.below(3) {
			c.spoil(&s)
		}
		if isGood(s) {
			good++
		}
		hold(t, "by chance", s)
	}
	if good < 3000 || good > 27000 {
		t.Errorf("the test is no good: %d good records of 30000", good)
	}
}

// P14.2: fewer bytes at every length, and more, are no record's.
func TestGetEachLength(t *testing.T) {
	for _, s := range slices.Concat(variants(record(2, 4, 1, false)), variants(record(3, 16, 0, true))) {
		b, _ := Put(s)
		for n := range len(b) {
			holdNoBytes(t, "too short", b[:n])
			holdNoBytes(t, "its end alone", b[len(b)-n:])
		}
		for _, more := range []string{"\x00", "x", written(0), b, b[:100], strings.Repeat("\x00", 5000)} {
			holdNoBytes(t, "too long", b+more)
			holdNoBytes(t, "more ahead", more+b)
		}
		for at := range b {
			holdNoBytes(t, "a byte less", b[:at]+b[at+1:])
		}
	}
	for n := range 1300 {
		holdNoBytes(t, "bytes of 0", strings.Repeat("\x00", n))
		holdNoBytes(t, "bytes of 255", strings.Repeat("\xff", n))
	}
	holdNoBytes(t, "very many bytes", strings.Repeat("\x00", 1<<20))
}

// numberPlaces tells where the numbers of a record's bytes stand, behind Count and Epoch, by their names.
func numberPlaces(s Super) map[string]int {
	places := map[string]int{"Data": 16, "Slots": 24, "Mark": 32, "Built": 40, "Growing": 48, "Seats": 56}
	for i := range s.Seats {
		places["seat "+strconv.Itoa(i)] = 64 + 8*i
	}
	at := 64 + 8*len(s.Seats)
	places["Members"] = at
	for i := range s.Members {
		n := strconv.Itoa(i)
		places["state "+n], places["length of top "+n], places["length of log "+n] = at+8, at+16, at+56
		at += ofMember
	}
	return places
}

// P14.2: whatever number stands at each place in the bytes, Get tells a record if it is the good one's with that number, and else ErrForm.
func TestGetEachNumber(t *testing.T) {
	numbers := []uint64{1 << 63, 1<<63 + 1, 1<<63 + 4, 1 << 32, 1<<32 + 1, 1<<32 + 2, 1<<32 + 4, 2 << 32, math.MaxUint64, math.MaxUint64 - 1, math.MaxInt, math.MaxInt - 7, 1 << 40, 1 << 20, 255, 256, 257, 258, 260, 288}
	for n := range uint64(70) {
		numbers = append(numbers, n)
	}
	for _, s := range slices.Concat(variants(record(2, 4, 2, false)), variants(record(3, 8, 1, true))) {
		b, _ := Put(s)
		for name, at := range numberPlaces(s) {
			for _, n := range numbers {
				x := b[:at] + written(n) + b[at+8:]
				if w := withNumber(s, name, n); isGood(w) && bytesOf(w) == x {
					if got, e := Get(x); e != api.OK || !same(got, w) {
						t.Fatalf("P14.2: %s is %d: error %d, %#v, want %#v", name, n, e, got, w)
					}
					continue
				}
				holdNoBytes(t, name+" is "+strconv.FormatUint(n, 10), x)
			}
		}
	}
}

// withNumber tells the record with another number at a place that has that name, where it may be held by an int; else one that isn't good.
func withNumber(was Super, name string, n uint64) Super {
	s := deep(was)
	if n > 100 {
		return Super{}
	}
	v := int(n)
	kind, place, _ := strings.Cut(name, " ")
	i, _ := strconv.Atoi(place)
	switch kind {
	case "Data":
		s.Data = v
	case "Slots":
		s.Slots = v
	case "Mark":
		s.Mark = v
	case "Built":
		s.Built = v
	case "Growing":
		s.Growing = v == 1
	case "seat":
		s.Seats[i] = v
	case "state":
		s.Members[i].State = State(v)
	}
	return s
}

// P14.2: each byte of Count, Epoch, tops and logs may be any: they are told as they are.
func TestGetEachByte(t *testing.T) {
	s := record(2, 4, 1, false)
	b, _ := Put(s)
	for at := range b {
		for _, k := range []byte{1, 0x80, 0xff} {
			x := []byte(b)
			x[at] ^= k
			got, e := Get(string(x))
			if e == api.OK && (bytesOf(got) != string(x) || !isGood(got)) {
				t.Fatalf("P14.2: byte %d changed: %#v isn't what its bytes tell", at, got)
			}
			member := at - 104
			free := at < 16 || member >= 0 && (member%88 >= 16 && member%88 < 48 || member%88 >= 56)
			if free && e != api.OK {
				t.Fatalf("P14.2: byte %d changed: error %d", at, e)
			}
			if e != api.OK {
				holdNoBytes(t, "a byte changed", string(x))
			}
		}
	}
}

// P14.2: bytes that are put together wrongly: another number of seats or members than stand behind it, with a length that fits.
func TestGetWrongLists(t *testing.T) {
	s := record(2, 4, 0, false)
	head := written(1, 2, 2, 4, 0, 0, 0)
	var members string
	for _, m := range s.Members {
		members += written(1, 32) + m.Top + written(32) + m.Log
	}
	good := head + written(4, 0, 1, 2, 3) + written(4) + members
	if got, e := Get(good); e != api.OK || len(got.Members) != 4 || got.Count != 1 || got.Epoch != 2 {
		t.Fatalf("P14.2: error %d, %#v", e, got)
	}
	for what, x := range map[string]string{
		"no seats":                    head + written(0) + written(4) + members,
		"three seats":                 head + written(3, 0, 1, 2) + written(4) + members,
		"five seats":                  head + written(5, 0, 1, 2, 3, 0) + written(4) + members,
		"a seat less than told":       head + written(5, 0, 1, 2, 3) + written(4) + members,
		"a seat more than told":       head + written(3, 0, 1, 2, 3) + written(4) + members,
		"thirteen seats":              head + written(13, 0, 1, 2, 3, 4, 5, 6, 7, 8, 9, 10, 11, 12) + written(4) + members,
		"very many seats":             head + written(1<<62) + written(4) + members,
		"seats of no int":             head + written(1<<64-1, 0, 1, 2, 3) + written(4) + members,
		"no members":                  head + written(4, 0, 1, 2, 3) + written(0),
		"members that aren't told":    head + written(4, 0, 1, 2, 3) + written(0) + members,
		"three members":               head + written(4, 0, 1, 2, 3) + written(3) + members[:3*88],
		"a member less than told":     head + written(4, 0, 1, 2, 3) + written(4) + members[:3*88],
		"a member more than told":     head + written(4, 0, 1, 2, 3) + written(3) + members,
		"five members, one without":   head + written(4, 0, 1, 2, 3) + written(5) + members + members[:88],
		"thirteen members":            head + written(4, 0, 1, 2, 3) + written(13) + strings.Repeat(members, 4)[:13*88],
		"very many members":           head + written(4, 0, 1, 2, 3) + written(1<<62) + members,
		"members of no int":           head + written(4, 0, 1, 2, 3) + written(1<<63+4) + members,
		"a number more ahead":         written(0) + good,
		"a number less ahead":         good[8:],
		"no number of members":        head + written(4, 0, 1, 2, 3) + members,
		"no number of seats":          head + written(0, 1, 2, 3) + written(4) + members,
		"the log ahead of its length": good[:len(good)-40] + good[len(good)-32:] + written(32),
	} {
		holdNoBytes(t, what, x)
	}
}

// P14.2: a length of a text that takes in what stands behind it, or isn't there.
func TestGetWrongTexts(t *testing.T) {
	s := record(2, 4, 1, false)
	b, _ := Put(s)
	for i := range s.Members {
		at := 64 + 8*len(s.Seats) + 8 + i*88
		for _, place := range []int{at + 8, at + 48} {
			for _, n := range []uint64{0, 31, 33, 40, 72, 120, uint64(len(b) - place - 8), uint64(len(b) - place - 7), 1 << 31, 1 << 63, 1<<64 - 8, 1<<32 + 32} {
				if n != 32 {
					holdNoBytes(t, "a length", b[:place]+written(n)+b[place+8:])
				}
			}
			for _, n := range []int{0, 31, 33, 64} {
				holdNoBytes(t, "a text of another length", b[:place]+written(uint64(n))+strings.Repeat("x", n)+b[place+40:])
			}
		}
	}
}

// P14.2: Growing is 1 or 0.
func TestGetGrowing(t *testing.T) {
	for _, growing := range []bool{false, true} {
		s := record(3, 4, 1, growing)
		s.Mark = 0
		b, _ := Put(s)
		for _, n := range []uint64{0, 1, 2, 3, 255, 256, 257, 1 << 32, 1<<32 + 1, 1 << 63, 1<<63 + 1, math.MaxUint64} {
			x := b[:48] + written(n) + b[56:]
			if n == 0 && !growing || n == 1 && growing {
				if got, e := Get(x); e != api.OK || !same(got, s) {
					t.Errorf("P14.2: Growing %d: error %d, %#v", n, e, got)
				}
				continue
			}
			holdNoBytes(t, "Growing", x)
		}
	}
}

// P14.2: Digest is that of a byte 2 and the text behind it, of whatever text.
func TestDigest(t *testing.T) {
	b, _ := Put(record(8, 16, 2, false))
	for _, s := range []string{"", "a", b, b[1:], b + "x", "\x00", "\x02", strings.Repeat("ä", 3000), strings.Repeat("x", 1<<17)} {
		want := sha256.Sum256([]byte("\x02" + s))
		for range 2 {
			if d := Digest(s); d != string(want[:]) {
				t.Errorf("P14.2: Digest of %d bytes: %x, want %x", len(s), d, want)
			}
		}
	}
	for n := range 300 {
		want := sha256.Sum256([]byte("\x02" + b[:n]))
		if d := Digest(b[:n]); d != string(want[:]) {
			t.Errorf("P14.2: Digest of %d bytes: %x, want %x", n, d, want)
		}
	}
}

// copies tells records, good and not, that are copied.
func copies() []Super {
	l := ordinary()[:200]
	odd := record(2, 4, 1, true)
	odd.Data, odd.Slots, odd.Mark, odd.Built, odd.Members[1].State = math.MinInt, math.MaxInt, -1, -2, 99
	odd.Seats[0], odd.Members[2].Top, odd.Members[3].Log = -9, "", strings.Repeat("x", 5000)
	great := Super{Seats: make([]int, 3000), Members: make([]Member, 3000)}
	return append(l, odd, great, Super{}, Super{Count: 1}, Super{Epoch: 1, Growing: true}, Super{Seats: []int{}, Members: []Member{}}, Super{Seats: []int{5}}, Super{Members: []Member{{Top: "x"}}})
}

// P14.2: Copy is the same record, good or not.
func TestCopy(t *testing.T) {
	for _, was := range copies() {
		s := guarded(was)
		c := s.Copy()
		if !same(c, was) {
			t.Fatalf("P14.2: Copy: %#v, want %#v", c, was)
		}
		if c.Good() != s.Good() {
			t.Fatalf("P14.2: Copy: Good %v", c.Good())
		}
		holdUnspoilt(t, "Copy", s, was)
	}
}

// spoilLists does to a record's lists whatever can be done, also behind their length.
func spoilLists(s Super) {
	seats, members := s.Seats[:cap(s.Seats)], s.Members[:cap(s.Members)]
	for i := range seats {
		seats[i] = -77
	}
	for i := range members {
		members[i] = Member{State: -77, Top: "spoilt", Log: "spoilt"}
	}
}

// P14.2: what is done to the copy's lists makes no difference to the record's, nor the other way round, nor to another copy's.
func TestCopyApart(t *testing.T) {
	for _, was := range copies() {
		s := guarded(was)
		c, d := s.Copy(), s.Copy()
		spoilLists(c)
		_, _ = append(c.Seats, 9), append(c.Members, Member{State: 9})
		holdUnspoilt(t, "P14.2: a copy was spoilt", s, was)
		if !same(d, was) {
			t.Fatalf("P14.2: a copy was spoilt: the other is %#v", d)
		}
		spoilLists(s)
		if !same(d, was) {
			t.Fatalf("P14.2: the record was spoilt: its copy is %#v", d)
		}
	}
}

// Rule 4: nothing of what lies behind a list's length is handed out by a copy.
func TestCopyBehind(t *testing.T) {
	for _, was := range copies() {
		c := guarded(was).Copy()
		if slices.Contains(c.Seats[len(c.Seats):cap(c.Seats)], -7) {
			t.Fatal("rule 4: the copy has what lies behind the seats")
		}
		for _, m := range c.Members[len(c.Members):cap(c.Members)] {
			if m != (Member{}) {
				t.Fatal("rule 4: the copy has what lies behind the members")
			}
		}
	}
}

// Rule 4: what Get tells is new memory each time.
func TestGetApart(t *testing.T) {
	was := record(3, 8, 2, true)
	b, _ := Put(was)
	first, _ := Get(b)
	second, _ := Get(b)
	spoilLists(first)
	third, e := Get(b)
	if e != api.OK || !same(second, was) || !same(third, was) {
		t.Errorf("rule 4: behind a spoilt answer: %#v and %#v", second, third)
	}
}

// Rule 4: an empty list may be nil or not.
func TestEmptyLists(t *testing.T) {
	for _, s := range []Super{{Data: 2, Slots: 2}, {Data: 2, Slots: 2, Seats: []int{}, Members: []Member{}}} {
		holdBad(t, "no lists", s)
		if b, e := Put(s); b != "" || e != api.ErrForm {
			t.Errorf("rule 4: Put: %x, error %d", b, e)
		}
	}
}

// P2: a record that was put or told has nothing to do with another.
func TestApart(t *testing.T) {
	a, b := record(2, 4, 1, false), record(5, 16, 0, true)
	x, _ := Put(a)
	y, _ := Put(b)
	holdNoBytes(t, "one behind the other", x+y)
	first, _ := Get(x)
	second, _ := Get(y)
	if !same(first, a) || !same(second, b) || x != bytesOf(a) || y != bytesOf(b) {
		t.Errorf("P2: %#v and %#v", first, second)
	}
}

// parsed tells the program's file.
func parsed(t *testing.T) *ast.File {
	t.Helper()
	file, err := parser.ParseFile(token.NewFileSet(), "super.go", nil, 0)
	if err != nil {
		t.Fatal(err)
	}
	return file
}

// function tells one of its functions, by its name.
func function(t *testing.T, name string) *ast.FuncDecl {
	t.Helper()
	for _, d := range parsed(t).Decls {
		if f, ok := d.(*ast.FuncDecl); ok && f.Name.Name == name {
			return f
		}
	}
	t.Fatalf("Ways: no function %s", name)
	return nil
}

// Ways, layer 14: states are numbered by iota.
func TestStatesByIota(t *testing.T) {
	found := false
	for _, d := range parsed(t).Decls {
		g, ok := d.(*ast.GenDecl)
		if !ok || g.Tok != token.CONST {
			continue
		}
		first := g.Specs[0].(*ast.ValueSpec)
		if len(g.Specs) != 4 || first.Names[0].Name != "Spare" {
			continue
		}
		value, ok := first.Values[0].(*ast.Ident)
		found = ok && value.Name == "iota"
		for _, s := range g.Specs[1:] {
			found = found && len(s.(*ast.ValueSpec).Values) == 0
		}
	}
	if !found {
		t.Error("Ways: the states aren't numbered by iota")
	}
}

// Ways, layer 14: bytes are put by a method value.
func TestPutByMethodValue(t *testing.T) {
	values, calls := 0, 0
	ast.Inspect(function(t, "Put"), func(n ast.Node) bool {
		switch x := n.(type) {
		case *ast.AssignStmt:
			if s, ok := x.Rhs[0].(*ast.SelectorExpr); ok && s.Sel.Name == "WriteString" {
				values++
			}
		case *ast.CallExpr:
			if f, ok := x.Fun.(*ast.Ident); ok && f.Name == "put" {
				calls++
			}
		}
		return true
	})
	if values != 1 || calls < 2 {
		t.Errorf("Ways: Put has %d method values, and puts by it %d times", values, calls)
	}
}

// Ways, layer 14: who sits stands in a map.
func TestSittingInMap(t *testing.T) {
	s := record(2, 4, 1, false)
	s.Seats = []int{3, -1, 3, 5}
	sits := s.sitting()
	if kind := reflect.TypeOf(sits).Kind(); kind != reflect.Map {
		t.Errorf("Ways: who sits stands in a %s", kind)
	}
	if _, ok := sits[3]; !ok || len(sits) != 1 {
		t.Errorf("Ways: of the seats %v there sit %v", s.Seats, sits)
	}
}
