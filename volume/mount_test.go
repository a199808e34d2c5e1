package volume_test

import (
	"slices"
	"strings"
	"testing"

	"cofferdam/anchor"
	"cofferdam/api"
	"cofferdam/bank"
	"cofferdam/commit"
	"cofferdam/volume"
)

// P21.1 to P21.4, P1: of a nil volume ErrNil, nil, an empty Status, whatever is handed in.
func TestNil(t *testing.T) {
	var v *volume.Volume
	for range 2 {
		for _, n := range append(slices.Clone(ints), 0, 1, 2, 4) {
			holdErrors(t, "nil", v, n, api.ErrNil)
			if e := v.Format(n, n); e != api.ErrNil {
				t.Errorf("P21.1: nil: Format: error %d", e)
			}
		}
		if e := v.Format(2, 4); e != api.ErrNil {
			t.Errorf("P21.1: nil: Format: error %d", e)
		}
		if e := v.Mount(); e != api.ErrNil {
			t.Errorf("P21.1: nil: Mount: error %d", e)
		}
		if e := v.Unmount(); e != api.ErrNil {
			t.Errorf("P21.1: nil: Unmount: error %d", e)
		}
		holdNothing(t, "nil", v)
	}
}

// holdErrors holds that a volume's Read, Write and Sync have an error, whatever is handed in.
func holdErrors(t *testing.T, what string, v *volume.Volume, block int, want api.Errno) {
	t.Helper()
	if s, e := v.Read(block); s != "" || e != want {
		t.Errorf("P21.2: %s: Read(%d): %q, error %d, want %d", what, block, s, e, want)
	}
	for _, n := range []int{0, 1, blockSize - 1, blockSize, blockSize + 1} {
		if e := v.Write(block, someText(n, n)); e != want {
			t.Errorf("P21.2: %s: Write(%d), %d bytes: error %d, want %d", what, block, n, e, want)
		}
	}
	if e := v.Sync(); e != want {
		t.Errorf("P21.3: %s: Sync: error %d, want %d", what, e, want)
	}
}

// holdNothing holds that a volume has no store, and tells nothing of itself.
func holdNothing(t *testing.T, what string, v *volume.Volume) {
	t.Helper()
	if s := v.Status(); !sameStatus(s, volume.Status{}) {
		t.Errorf("P21.4: %s: Status: %v", what, s)
	}
	if s := v.Store(); s != nil {
		t.Errorf("P21.4: %s: there is a store", what)
	}
}

// holdNotMounted holds that a volume isn't mounted.
func (w *twins) holdNotMounted(what string) {
	w.t.Helper()
	w.refused(what, func() {
		for _, n := range append(slices.Clone(ints), 0, 1, 7, 8) {
			holdErrors(w.t, what, w.v, n, api.ErrState)
			w.write(what, n, noughts, api.ErrState)
			w.holdError(what, n, api.ErrState)
		}
		w.sync(what, api.ErrState)
		w.unmount(what, api.ErrState)
		holdNothing(w.t, what, w.v)
	})
}

// P21.1, P21.2: of a volume that isn't mounted (a new one, one that was made, one of which Mount had an error, one that was unmounted) every call but Format and Mount is ErrState, and tells nothing.
func TestNotMounted(t *testing.T) {
	w := newTwins(t, 5)
	w.holdNotMounted("new")
	w.mount("nothing is there yet", api.ErrNone)
	w.holdNotMounted("behind ErrNone")
	w.format("Format", 2, 4, api.OK)
	w.holdNotMounted("behind Format")
	w.cut(3)
	w.mount("the power fails", api.ErrPower)
	w.holdNotMounted("behind ErrPower")
	w.mount("there is no power", api.ErrPower)
	w.crash()
	w.mount("the power is back", api.OK)
	w.write("Write", 1, blockOf(1), api.OK)
	w.unmount("Unmount", api.OK)
	w.holdNotMounted("behind Unmount")
	w.format("it is there already", 2, 4, api.ErrThere)
	w.holdNotMounted("behind ErrThere")
	images := shotOf(w.b, w.a).images
	w.both(func(b *bank.Bank) {
		for i := range b.Size() {
			b.Disk(i).Restore(nil)
		}
	})
	w.mount("no record is there", api.ErrLost)
	w.holdNotMounted("behind ErrLost")
	w.both(func(b *bank.Bank) { b.Disk(4).Restore(images[4]) })
	w.mount("a record is there", api.OK)
}

// P1: a volume that New didn't make isn't mounted either.
func TestZeroVolume(t *testing.T) {
	v := new(volume.Volume)
	for range 2 {
		holdErrors(t, "zero", v, 0, api.ErrState)
		holdErrors(t, "zero", v, -1, api.ErrState)
		holdNothing(t, "zero", v)
		if e := v.Unmount(); e != api.ErrState {
			t.Errorf("P21.1: zero: Unmount: error %d", e)
		}
		if e := v.Mount(); e != api.ErrNil {
			t.Errorf("P21.1: zero: Mount: error %d", e)
		}
		if e := v.Format(2, 4); e != api.ErrNil {
			t.Errorf("P21.1: zero: Format: error %d", e)
		}
	}
}

// P21.1: Format and Mount of a volume that is mounted are ErrState, whatever is handed in, and whether or not its store is dead, or its disks are there; it is mounted still.
func TestMounted(t *testing.T) {
	w := mounted(t, 5, 2, 4)
	w.write("Write", 1, blockOf(1), api.OK)
	hold := func(what string) {
		t.Helper()
		store := w.v.Store()
		w.refused(what, func() {
			w.mount(what, api.ErrState)
			for _, n := range append(slices.Clone(ints), 0, 1, 2, 3, 4, 8) {
				w.format(what, n, n, api.ErrState)
				w.format(what, 2, n, api.ErrState)
			}
		})
		if w.v.Store() != store {
			t.Errorf("P21.1: %s: another store", what)
		}
	}
	hold("mounted")
	w.hold("mounted", 1, blockOf(1))
	w.cut(0)
	hold("there is no power")
	w.write("there is no power", 0, blockOf(2), api.OK)
	w.sync("there is no power", api.ErrPower)
	hold("a dead store")
	w.crash()
	hold("a dead store, and power")
	w.kill(0, 1, 2, 3, 4)
	hold("dead disks")
}

// P21.1: with no bank, no anchor, another key, disks that are too few or too small, Format has layer 20's error, Mount too.
func TestFormatMountArgs(t *testing.T) {
	good := bank.New(4, diskCells)
	for _, x := range []struct {
		what          string
		b             *bank.Bank
		a             *anchor.Anchor
		key           string
		format, mount api.Errno
	}{
		{"no bank", nil, anchor.New(), key, api.ErrNil, api.ErrNil},
		{"no anchor", good, nil, key, api.ErrNil, api.ErrNil},
		{"neither", nil, nil, key, api.ErrNil, api.ErrNil},
		{"nothing", nil, nil, "", api.ErrNil, api.ErrNil},
		{"no key", good, anchor.New(), "", api.ErrArg, api.ErrArg},
		{"a key of 31 bytes", good, anchor.New(), key[:31], api.ErrArg, api.ErrArg},
		{"a key of 33 bytes", good, anchor.New(), key + "k", api.ErrArg, api.ErrArg},
		{"a key of 16 bytes", good, anchor.New(), key[:16], api.ErrArg, api.ErrArg},
		{"a key of 64 bytes", good, anchor.New(), key + key, api.ErrArg, api.ErrArg},
		{"a key of 288 bytes", good, anchor.New(), strings.Repeat("k", 288), api.ErrArg, api.ErrArg},
		{"a key of many bytes", good, anchor.New(), strings.Repeat("k", 1<<16), api.ErrArg, api.ErrArg},
		{"too few disks", bank.New(3, diskCells), anchor.New(), key, api.ErrArg, api.ErrNone},
		{"too small disks", bank.New(4, diskCells-1), anchor.New(), key, api.ErrArg, api.ErrArg},
		{"an anchor that wasn't set", good, anchor.New(), someText(32, 1), api.OK, api.OK},
	} {
		v := volume.New(x.b, x.a, x.key)
		holdNothing(t, x.what, v)
		holdErrors(t, x.what, v, 0, api.ErrState)
		was := shotOf(x.b, x.a)
		if e := v.Format(2, 4); e != x.format {
			t.Errorf("P21.1: %s: Format: error %d, want %d", x.what, e, x.format)
		}
		if diff := shotOf(x.b, x.a).differs(was); (diff != "") != (x.format == api.OK) {
			t.Errorf("P21.1: %s: Format has changed: %s", x.what, diff)
		}
		if e := v.Mount(); e != x.mount {
			t.Errorf("P21.1: %s: Mount: error %d, want %d", x.what, e, x.mount)
		}
		if x.mount != api.OK {
			holdNothing(t, x.what, v)
			holdErrors(t, x.what, v, 0, api.ErrState)
		}
	}
}

// P21.1: Format of all layouts, on twelve disks and on as few as may be; of others it is ErrArg, of a volume that is there ErrThere, of disks that fail the disk's error, of power that fails ErrPower.
func TestFormat(t *testing.T) {
	for data := -1; data <= most+2; data++ {
		for slots := -1; slots <= 33; slots++ {
			want := api.ErrArg
			if data >= least && data <= most && slices.Contains(sizes, slots) {
				want = api.OK
			}
			w := newTwins(t, 12)
			w.format("twelve disks", data, slots, want)
			if want == api.OK {
				w.format("it is there", data, slots, api.ErrThere)
				w.mount("twelve disks", api.OK)
				w = newTwins(t, data+more)
				w.format("as few disks as may be", data, slots, api.OK)
				w = newTwins(t, data+more-1)
				w.format("too few disks", data, slots, api.ErrArg)
			}
		}
	}
	for _, n := range ints {
		w := newTwins(t, 12)
		w.format("such data", n, 4, api.ErrArg)
		w.format("such slots", 2, n, api.ErrArg)
	}
	w := newTwins(t, 5)
	w.kill(1)
	w.format("a dead disk", 2, 4, api.ErrDisk)
	for steps := range 75 {
		w := newTwins(t, 5)
		w.cut(steps)
		w.format("the power fails", 2, 4, whatever)
		w.mount("the power fails", whatever)
		w.crash()
		if w.v.Store() == nil {
			w.format("the power is back", 2, 4, whatever)
			w.mount("the power is back", api.OK)
		}
	}
}

// P21.1: Mount tells what Format made, by a store of its own, of the next epoch each time; no block waits.
func TestMount(t *testing.T) {
	w := newTwins(t, 6)
	w.format("Format", 3, 8, api.OK)
	var stores []*commit.Store
	for turn := range 5 {
		w.mount("Mount", api.OK)
		s := w.v.Store()
		if r := s.Super(); r.Count != uint64(turn+2) || r.Epoch != uint64(turn+2) || r.Data != 3 || r.Slots != 8 {
			t.Fatalf("P21.1: Mount: %v", r)
		}
		if slices.Contains(stores, s) {
			t.Fatal("P21.1: Mount: an elder store")
		}
		stores = append(stores, s)
		w.holdPending("Mount", 0)
		for n := range 24 {
			w.hold("Mount", n, noughts)
		}
		w.write("Write", turn, blockOf(turn), api.OK)
		w.holdPending("Write", 1)
		w.unmount("Unmount", api.OK)
	}
	v := volume.New(w.b, w.a, key)
	if e := v.Mount(); e != api.OK || v.Store().Super().Epoch != 7 {
		t.Errorf("P21.1: another volume on the same: error %d", e)
	}
}

// P21.1: with another key the volume is mounted, but what was written isn't opened by it.
func TestMountOtherKey(t *testing.T) {
	w := mounted(t, 4, 2, 2)
	w.write("Write", 0, blockOf(1), api.OK)
	w.sync("Sync", api.OK)
	v := volume.New(w.b, w.a, someText(32, 5))
	if e := v.Mount(); e != api.OK {
		t.Fatalf("P21.1: another key: error %d", e)
	}
	for n, want := range []string{"", "", noughts, noughts} {
		s, e := v.Read(n)
		if s != want || (e == api.OK) != (want != "") || e != api.OK && e != api.ErrLost {
			t.Errorf("P21.2: another key: Read(%d): %q, error %d", n, s, e)
		}
	}
}

// P21.1: what waits is lost by Unmount, and what lasts is there; a dead store is unmounted too.
func TestUnmount(t *testing.T) {
	w := filled(t, 5, 2, 4)
	for _, blocks := range [][]int{{}, {0}, {7}, {2, 3}, {0, 1, 2, 3, 4, 5, 6, 7}, {5, 5, 5}} {
		for _, n := range blocks {
			w.write("Write", n, blockOf(50+n), api.OK)
		}
		w.remount("blocks wait")
		w.holdPending("behind Mount", 0)
		w.holdFilled("behind Mount", nil)
		w.spent("P21.3: nothing waits", 0, func() { w.sync("nothing waits", api.OK) })
		w.unmount("nothing waits", api.OK)
		w.unmount("once more", api.ErrState)
		w.mount("nothing waited", api.OK)
	}
	w.write("Write", 1, blockOf(60), api.OK)
	w.cut(1)
	w.sync("the power fails", api.ErrPower)
	w.unmount("a dead store", api.OK)
	w.holdNotMounted("a dead store")
	w.mount("no power", api.ErrPower)
	w.crash()
	w.mount("the power is back", api.OK)
	w.holdPending("behind Mount", 0)
	w.holdFilled("behind Mount", nil)
}

// P21.1: blocks that waited when a volume was unmounted don't wait in another one that is made on it.
func TestUnmountAnew(t *testing.T) {
	w := filled(t, 5, 3, 4)
	w.write("Write", 11, blockOf(70), api.OK)
	w.unmount("Unmount", api.OK)
	w.a, w.d = anchor.New(), anchor.New()
	w.v, w.m = volume.New(w.b, w.a, key), &model{b: w.c, a: w.d, key: key}
	w.format("another anchor", 2, 4, api.OK)
	w.mount("another anchor", api.OK)
	w.holdPending("another anchor", 0)
	for n := range 8 {
		w.hold("another anchor", n, noughts)
	}
	w.holdError("another anchor", 11, api.ErrArg)
}
