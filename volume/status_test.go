package volume_test

import (
	"testing"

	"cofferdam/anchor"
	"cofferdam/api"
	"cofferdam/bank"
	"cofferdam/commit"
	"cofferdam/super"
	"cofferdam/volume"
)

// holdStatus holds what a volume tells of itself.
func (w *twins) holdStatus(what string, want volume.Status) {
	w.t.Helper()
	if s := w.v.Status(); !sameStatus(s, want) {
		w.t.Fatalf("P21.4: %s: Status: %v, want %v", what, s, want)
	}
}

// statesOf tells the states of such digits.
func statesOf(digits string) []super.State {
	var l []super.State
	for _, d := range digits {
		l = append(l, super.State(d-'0'))
	}
	return l
}

// P21.4: Status of a volume that isn't mounted, and of one that is, of all sizes, from Format on, with blocks that wait, behind Sync and Unmount.
func TestStatus(t *testing.T) {
	for data := least; data <= most; data++ {
		for _, slots := range sizes {
			w := newTwins(t, 12)
			w.holdStatus("new", volume.Status{})
			w.format("Format", data, slots, api.OK)
			w.holdStatus("not mounted", volume.Status{})
			w.mount("Mount", api.OK)
			want := volume.Status{Mounted: true, Blocks: data * slots, Data: data, States: statesOf("111111111111"[:data+more] + "000000000000"[data+more:])}
			w.holdStatus("mounted", want)
			for n := range data * slots {
				w.write("Write", n, noughts, api.OK)
				w.write("Write", n/2, blockOf(n), api.OK)
				want.Pending = n + 1
				w.holdStatus("blocks wait", want)
			}
			w.sync("Sync", api.OK)
			want.Pending = 0
			w.holdStatus("Sync", want)
			w.unmount("Unmount", api.OK)
			w.holdStatus("not mounted", volume.Status{})
		}
	}
}

// P21.4: Status of volumes with members of each state, that are built, that grow; it is the record's as it is by then.
func TestStatusStates(t *testing.T) {
	w := filled(t, 7, 2, 4)
	want := volume.Status{Mounted: true, Blocks: 8, Data: 2, States: statesOf("1111000")}
	hold := func(what, states string, mark, built int) {
		t.Helper()
		want.States, want.Mark, want.Built = statesOf(states), mark, built
		w.holdStatus(what, want)
	}
	hold("filled", "1111000", 0, 0)
	w.write("Write", 1, blockOf(30), api.OK)
	want.Pending = 1
	w.rebuild(2, 5)
	hold("Building", "1121030", 0, 0)
	for built := 1; built < 4; built++ {
		w.buildStep()
		hold("Building", "1121030", 0, built)
	}
	w.buildStep()
	hold("it is built", "1121010", 0, 0)
	w.grow(4)
	want.Growing = true
	hold("it grows", "1121110", 0, 0)
	for mark := 1; mark < 4; mark++ {
		w.widen()
		hold("it grows", "1121110", mark, 0)
	}
	w.rebuild(0, 6)
	hold("it grows, and one is Building", "2121113", 3, 0)
	w.buildStep()
	hold("it grows, and one is Building", "2121113", 3, 1)
	w.widen()
	want.Growing, want.Data, want.Blocks = false, 3, 12
	hold("it has grown", "2121113", 0, 1)
	w.kill(6)
	w.sync("the disk that is Building fails", api.OK)
	want.Pending = 0
	hold("the disk that is Building fails", "2121112", 0, 0)
	w.remount("behind it")
	hold("behind it", "2121112", 0, 0)
	w.holdFilled("behind it", map[int]string{1: blockOf(30), 8: noughts, 9: noughts, 10: noughts, 11: noughts})
}

// P21.4: a record that is good may have a layout that isn't: there are no blocks then, and Read and Write of each are ErrArg.
func TestStatusNoLayout(t *testing.T) {
	w := mounted(t, 5, 2, 4)
	w.write("Write", 1, blockOf(1), api.OK)
	w.commit("Mark at Slots", func(s *commit.Store) commit.Plan {
		p := planOf(s)
		p.Super.Seats = append(p.Super.Seats, 4)
		p.Super.Members[4].State, p.Super.Growing, p.Super.Mark = super.Active, true, 4
		return p
	})
	w.holdStatus("Mark at Slots", volume.Status{Mounted: true, Pending: 1, Data: 2, Mark: 4, Growing: true, States: statesOf("11111")})
	for _, n := range []int{-1, 0, 1, 7, 8} {
		w.holdError("Mark at Slots", n, api.ErrArg)
		w.write("Mark at Slots", n, blockOf(1), api.ErrArg)
		w.write("Mark at Slots", n, "", api.ErrArg)
	}
	var p commit.Plan
	w.put("Mark at Slots", &p, 0, nil, api.ErrArg)
	w.put("Mark at Slots", &p, 0, someChunks(5, 1), api.ErrArg)
	w.sync("Mark at Slots", api.OK)
	w.holdPending("Mark at Slots", 0)
}

// P21.4, rule 4: what is done to the list of states makes no difference to the volume, nor to another answer.
func TestStatusList(t *testing.T) {
	w := filled(t, 5, 2, 4)
	one, other := w.v.Status(), w.v.Status()
	one.States[0], one.States[4] = super.Failed, super.Building
	one.Pending, one.Blocks = 99, 0
	clear(other.States[1:cap(other.States)])
	w.holdStatus("lists of answers", volume.Status{Mounted: true, Blocks: 8, Data: 2, States: statesOf("11110")})
	if one.States[1] != super.Active || other.States[0] != super.Active {
		t.Error("rule 4: two answers share a list")
	}
	w.write("Write", 3, blockOf(3), api.OK)
	w.sync("Sync", api.OK)
	w.holdStatus("Sync", volume.Status{Mounted: true, Blocks: 8, Data: 2, States: statesOf("11110")})
}

// P21.4: Store is nil ahead of Mount and behind Unmount; between it is the volume's own, the same each time, and another one behind the next Mount.
func TestStore(t *testing.T) {
	w := newTwins(t, 5)
	hold := func(what string, want *commit.Store) {
		t.Helper()
		for range 2 {
			if w.v.Store() != want {
				t.Fatalf("P21.4: %s: another store", what)
			}
		}
	}
	hold("new", nil)
	w.format("Format", 2, 4, api.OK)
	hold("behind Format", nil)
	w.mount("Mount", api.OK)
	s := w.v.Store()
	w.write("Write", 2, blockOf(1), api.OK)
	hold("blocks wait", s)
	w.sync("Sync", api.OK)
	hold("Sync", s)
	w.kill(0, 1)
	w.write("Write", 2, blockOf(2), api.OK)
	w.sync("Sync", api.OK)
	hold("disks lost", s)
	w.cut(4)
	w.write("Write", 2, blockOf(3), api.OK)
	w.sync("Sync", api.ErrPower)
	hold("dead", s)
	if !s.Dead() || !w.v.Status().Dead {
		t.Error("P21.4: the store isn't dead")
	}
	w.crash()
	hold("dead", s)
	w.unmount("Unmount", api.OK)
	hold("behind Unmount", nil)
	w.mount("Mount", api.OK)
	if n := w.v.Store(); n == nil || n == s || n.Dead() {
		t.Error("P21.4: behind Mount: the elder store, or none")
	}
	w.hold("behind Mount", 2, blockOf(2))
}

// P2: of two volumes that have nothing in common what is done to one makes no difference to the other, be their blocks and keys the same or not.
func TestTwoVolumes(t *testing.T) {
	one, other := filled(t, 5, 2, 4), filled(t, 5, 2, 4)
	was, status := shotOf(other.b, other.a), other.v.Status()
	one.write("Write", 0, blockOf(50), api.OK)
	one.write("Write", 5, blockOf(51), api.OK)
	other.holdFilled("the other one", nil)
	other.holdPending("the other one", 0)
	other.sync("the other one has nothing that waits", api.OK)
	one.sync("Sync", api.OK)
	one.kill(0, 1, 2)
	one.cut(0)
	one.write("Write", 4, blockOf(52), api.OK)
	one.write("Write", 5, blockOf(52), api.OK)
	one.sync("no power", api.ErrPower)
	if diff := shotOf(other.b, other.a).differs(was); diff != "" || !sameStatus(other.v.Status(), status) {
		t.Errorf("P2: the other volume: %s", diff)
	}
	other.holdFilled("the other one", nil)
	other.write("the other one", 0, blockOf(60), api.OK)
	one.unmount("Unmount", api.OK)
	other.holdPending("the other one", 1)
	other.sync("the other one", api.OK)
	other.remount("the other one")
	other.holdFilled("the other one", map[int]string{0: blockOf(60)})
}

// P2, P21.2: two volumes on one bank and anchor have stores and blocks that wait of their own.
func TestTwoVolumesOnOneBank(t *testing.T) {
	b, a := bank.New(5, diskCells), anchor.New()
	one, other := volume.New(b, a, key), volume.New(b, a, key)
	if e := one.Format(2, 4); e != api.OK {
		t.Fatalf("P21.1: error %d", e)
	}
	if e, f := one.Mount(), one.Write(1, blockOf(1)); e != api.OK || f != api.OK {
		t.Fatalf("P21.1: error %d, %d", e, f)
	}
	holdNothing(t, "the other one", other)
	if e := other.Unmount(); e != api.ErrState {
		t.Errorf("P21.1: the other one: Unmount: error %d", e)
	}
	if e := other.Mount(); e != api.OK || other.Store() == one.Store() {
		t.Fatalf("P21.1: the other one: error %d, or one store", e)
	}
	if s, e := other.Read(1); s != noughts || e != api.OK {
		t.Errorf("P21.2: the other one: %q, error %d", s, e)
	}
	if s, e := one.Read(1); s != blockOf(1) || e != api.OK || other.Status().Pending != 0 || one.Status().Pending != 1 {
		t.Errorf("P21.2: %q, error %d", s, e)
	}
}
