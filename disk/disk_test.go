package disk

import (
	"math"
	"testing"

	"granary/api"
)

// do takes steps that power does not fail in.
func do(t *testing.T, steps ...func() api.Errno) {
	t.Helper()
	for i, step := range steps {
		if e := step(); e != api.OK {
			t.Fatalf("P7: step %d = %d", i, e)
		}
	}
}

func writing(d *Disk, bytes string) func() api.Errno {
	return func() api.Errno { return d.write(bytes) }
}

func wantCache(t *testing.T, d *Disk, want string) {
	t.Helper()
	if s, e := d.Load(); s != want || e != api.OK {
		t.Errorf("P8: Load() = %q, %d, want %q", s, e, want)
	}
}

func wantNone(t *testing.T, d *Disk) {
	t.Helper()
	if s, e := d.Load(); s != "" || e != api.ErrNone {
		t.Errorf("P8: Load() = %q, %d, want ErrNone", s, e)
	}
}

// failAtOnce lets power fail, and starts the disk again.
func failAtOnce(t *testing.T, d *Disk, keep int) {
	t.Helper()
	if e := d.Fail(0, keep); e != api.OK {
		t.Fatalf("P8: Fail(0, %d) = %d", keep, e)
	}
	if e := d.Start(); e != api.OK {
		t.Fatalf("P8: Start() = %d", e)
	}
}

// TestKeep has steps in another order than Save, so that a file has a name that
// is synced while its bytes are not.
func TestKeep(t *testing.T) {
	for keep, want := range map[int]string{0: "abc", 1: "abcd", 2: "abcde", 3: "abcdef", 4: "abcdef", math.MaxInt: "abcdef"} {
		d := New(100)
		do(t, d.create, writing(d, "abc"), d.sync, writing(d, "def"), d.rename, d.syncNames)
		wantCache(t, d, "abcdef")
		failAtOnce(t, d, keep)
		wantCache(t, d, want)
	}
	for keep, want := range []string{"", "a", "ab", "ab"} {
		d := New(100)
		do(t, d.create, writing(d, "ab"), d.rename, d.syncNames)
		failAtOnce(t, d, keep)
		wantCache(t, d, want)
	}
}

// TestKeepOfAFailureToCome has it fail in place of a step.
func TestKeepOfAFailureToCome(t *testing.T) {
	for keep, want := range []string{"", "a", "ab", "ab"} {
		d := New(100)
		do(t, d.create, writing(d, "ab"), d.rename, d.syncNames)
		if e := d.Fail(1, keep); e != api.OK {
			t.Fatalf("P8: Fail(1, %d) = %d", keep, e)
		}
		first, second := d.take(d.create), d.take(d.sync)
		if first != api.OK || second != api.ErrPower {
			t.Errorf("P8: two steps, the second without power = %d, %d", first, second)
		}
		d.Start()
		wantCache(t, d, want)
	}
}

// TestKeepOfAFileCalledNew has the names synced ahead of the rename.
func TestKeepOfAFileCalledNew(t *testing.T) {
	d := New(100)
	do(t, d.create, d.syncNames, writing(d, "abc"), d.sync, writing(d, "def"), d.rename)
	wantCache(t, d, "abcdef")
	failAtOnce(t, d, 1)
	wantNone(t, d)
	do(t, d.rename)
	wantCache(t, d, "abcd")
	if d.names.fresh != nil {
		t.Errorf("P7: a file that was renamed has its old name too")
	}
}

func TestNamesThatAreNotSynced(t *testing.T) {
	d := New(100)
	do(t, d.create, writing(d, "old"), d.sync, d.rename)
	wantCache(t, d, "old")
	failAtOnce(t, d, 100)
	wantNone(t, d)
	do(t, d.create, writing(d, "old"), d.sync, d.rename, d.syncNames)
	do(t, d.create, writing(d, "newer"), d.sync, d.rename)
	wantCache(t, d, "newer")
	failAtOnce(t, d, 100)
	wantCache(t, d, "old")
}

func TestCreateLosesTheFileThatHadTheName(t *testing.T) {
	d := New(8)
	do(t, d.create, writing(d, "lost"), d.create, writing(d, "12345678"), d.rename)
	wantCache(t, d, "12345678")
}

// TestRoomIsOfAllFiles has bytes in both.
func TestRoomIsOfAllFiles(t *testing.T) {
	d := New(10)
	do(t, d.create, writing(d, "1234"), d.rename, d.create, writing(d, "567"), writing(d, "890"))
	if e := d.write("1"); e != api.ErrRoom {
		t.Errorf("P7: a byte more than there is room for = %d, want ErrRoom", e)
	}
	do(t, writing(d, ""), d.rename)
	wantCache(t, d, "567890")
	do(t, d.create, writing(d, "1234"))
}
