package tithe

import (
	"math"
	"slices"
	"testing"

	"tithe/api"
)

// desk: a tithe under test, and what is asked of it.
type desk struct {
	*Tithe
	t *testing.T
}

func open(t *testing.T, heaps, frames, slack int) desk {
	t.Helper()
	x, e := New(api.Config{Heaps: heaps, Frames: frames, Slack: slack})
	if x == nil || e != api.OK {
		t.Fatalf("New(%d, %d, %d) = %v, %d", heaps, frames, slack, x, e)
	}
	return desk{x, t}
}

// gives asks for one block for each address.
func (d desk) gives(worker, size int, want ...int) {
	d.t.Helper()
	for _, w := range want {
		if a, e := d.Malloc(worker, size); a != w || e != api.OK {
			d.t.Fatalf("Malloc(%d, %d) = %d, %d, want %d, OK", worker, size, a, e, w)
		}
	}
}

func (d desk) refuses(worker, size int, want api.Errno) {
	d.t.Helper()
	if a, e := d.Malloc(worker, size); a != 0 || e != want {
		d.t.Fatalf("Malloc(%d, %d) = %d, %d, want 0, %d", worker, size, a, e, want)
	}
}

func (d desk) frees(addresses ...int) {
	d.t.Helper()
	for _, a := range addresses {
		if e := d.Free(a); e != api.OK {
			d.t.Fatalf("Free(%d) = %d, want OK", a, e)
		}
	}
}

func (d desk) freesNot(addresses ...int) {
	d.t.Helper()
	for _, a := range addresses {
		if e := d.Free(a); e != api.ErrAddress {
			d.t.Fatalf("Free(%d) = %d, want ErrAddress", a, e)
		}
	}
}

func (d desk) stores(address, value int, want api.Errno) {
	d.t.Helper()
	if e := d.Store(address, value); e != want {
		d.t.Fatalf("Store(%d, %d) = %d, want %d", address, value, e, want)
	}
}

func (d desk) loads(address, value int, want api.Errno) {
	d.t.Helper()
	if v, e := d.Load(address); v != value || e != want {
		d.t.Fatalf("Load(%d) = %d, %d, want %d, %d", address, v, e, value, want)
	}
}

// holds asks what a heap holds and uses of a class.
func (d desk) holds(heap, class, held, used int) {
	d.t.Helper()
	if s, e := d.Stats(heap, class); s != (api.Stats{Held: held, Used: used}) || e != api.OK {
		d.t.Fatalf("Stats(%d, %d) = %+v, %d, want %d, %d, OK", heap, class, s, e, held, used)
	}
}

func (d desk) hasFree(frames int) {
	d.t.Helper()
	if n := d.FreeFrames(); n != frames {
		d.t.Fatalf("FreeFrames() = %d, want %d", n, frames)
	}
}

// told: an address and a size of each block.
func told(each func(yield func(address, size int) bool)) []int {
	var list []int
	for a, size := range each {
		list = append(list, a, size)
	}
	return list
}

func (d desk) tells(want ...int) {
	d.t.Helper()
	if got := told(d.Live()); !slices.Equal(got, want) {
		d.t.Fatalf("Live told %v, want %v", got, want)
	}
}

func TestP3NewTakesJustTheConfigsInBounds(t *testing.T) {
	numbers := []int{math.MinInt, -1, 0, 1, 2, 3, 4, 5, 15, 16, 17, math.MaxInt}
	for _, h := range numbers {
		for _, f := range numbers {
			for _, s := range numbers {
				x, e := New(api.Config{Heaps: h, Frames: f, Slack: s})
				good := 1 <= h && h <= 4 && 1 <= f && f <= 16 && 1 <= s && s <= 4
				if good && (x == nil || e != api.OK) || !good && (x != nil || e != api.ErrArg) {
					t.Errorf("New(%d, %d, %d) = %v, %d", h, f, s, x, e)
				}
			}
		}
	}
}

func TestP3AllFramesAreFreeAtFirst(t *testing.T) {
	for frames := 1; frames <= api.MaxFrames; frames++ {
		d := open(t, 1, frames, 1)
		for a := 0; a < 64*frames; a += 32 {
			d.gives(0, 32, a)
		}
		d.refuses(0, 32, api.ErrFull)
	}
}

func TestTheExampleOfTheDocument(t *testing.T) {
	d := open(t, 2, 4, 1)
	d.gives(0, 5, 0)
	d.gives(0, 8, 8)
	d.gives(1, 8, 64)
	d.gives(2, 9, 128)
	d.gives(0, 33, 192)
	d.refuses(1, 20, api.ErrFull)
	d.gives(1, 1, 72)
	d.stores(4, 1, api.OK)
	d.stores(5, 1, api.ErrFault)
	d.freesNot(4)
	d.frees(0)
	d.gives(0, 1, 0)
}

func TestP3MallocRefusesWrongNumbers(t *testing.T) {
	d := open(t, 2, 1, 1)
	for _, worker := range []int{math.MinInt, -1, 1001, math.MaxInt} {
		d.refuses(worker, 8, api.ErrArg)
	}
	for _, size := range []int{math.MinInt, -1, 0, 257, math.MaxInt} {
		d.refuses(0, size, api.ErrArg)
	}
	d.gives(1000, 1, 0)
	d.refuses(1, 8, api.ErrFull)
	d.refuses(1001, 8, api.ErrArg) // named ahead of ErrFull
	d.refuses(1, 0, api.ErrArg)
	d.gives(0, 8, 8)
}

func TestP3TheSizeSaysTheClass(t *testing.T) {
	for size := 1; size <= api.MaxSmall; size++ {
		slot := 32
		if size <= 8 {
			slot = 8
		} else if size <= 16 {
			slot = 16
		}
		d := open(t, 1, 1, 1)
		for a := 0; a < 64; a += slot {
			d.gives(0, size, a)
		}
		d.refuses(0, size, api.ErrFull)
	}
}

func TestP3TheRestOfTheWorkerSaysTheHeap(t *testing.T) {
	for heaps := 1; heaps <= api.MaxHeaps; heaps++ {
		d := open(t, heaps, heaps, 1)
		for worker := range heaps {
			d.gives(worker, 8, 64*worker)
		}
		for worker := heaps; worker < 2*heaps; worker++ {
			d.gives(worker, 8, 64*(worker-heaps)+8)
		}
		d.gives(api.MaxWorker, 8, 64*(api.MaxWorker%heaps)+16)
	}
}

func TestP3TheFullestWithRoomGives(t *testing.T) {
	d := open(t, 1, 3, 4)
	d.gives(0, 16, 0, 16, 32, 48, 64, 80, 96, 112, 128, 144, 160, 176)
	d.frees(0, 16, 48, 80, 96, 176) // 1, 2 and 3 used
	d.gives(0, 16, 176)             // not frame 0, though it is lower
	d.gives(0, 16, 80, 96)          // its lowest slot first
	d.gives(0, 16, 0, 16, 48)
	d.refuses(0, 16, api.ErrFull)
}

func TestP3OfEqualsTheLowestFrameGives(t *testing.T) {
	d := open(t, 1, 3, 4)
	d.gives(0, 16, 0, 16, 32, 48, 64, 80, 96, 112, 128, 144, 160, 176)
	d.frees(160, 112, 48)
	d.gives(0, 16, 48, 112, 160)
}

func TestP3TheFullestOfHeap0IsTakenOver(t *testing.T) {
	d := open(t, 2, 5, 1)
	d.gives(0, 16, 0, 16, 32, 48, 64, 80, 96, 112, 128, 144, 160, 176, 192, 208, 224, 240)
	d.frees(16, 32, 48, 80, 96, 128, 144, 160) // 1, 2, 1 and 4 used: half
	d.frees(192)                               // 7 of 16: frame 0 goes
	d.frees(112)                               // heap 1 has 1, 1 and 3: 5 of 12: frame 1 goes
	d.gives(0, 16, 192)                        // its own first
	d.gives(0, 16, 128, 144, 160)
	d.gives(0, 16, 16) // of heap 0, of equals the lowest
	d.gives(1, 16, 80) // which is not heap 0's any more
	d.gives(1, 16, 96, 112, 256)
}

func TestP3AFullerOneOfHeap0GoesAheadOfALowerOne(t *testing.T) {
	d := open(t, 2, 4, 1)
	d.gives(0, 8, 0, 8, 16, 24, 32, 40, 48, 56)
	d.gives(0, 8, 64, 72, 80, 88, 96, 104, 112, 120)
	d.gives(0, 8, 128, 136, 144, 152, 160, 168, 176, 184)
	d.gives(0, 8, 192, 200, 208, 216, 224, 232, 240, 248)
	d.frees(8, 16, 24, 32, 40, 48, 56)          // 1 used
	d.frees(88, 96, 104, 112, 120)              // 3 used
	d.frees(152, 160, 168, 176)                 // 16 of 32 used: 1, 3, 4, 8
	d.frees(184)                                // 15: frame 0 goes
	d.frees(200, 208, 216)                      // 11 of 24: frame 1 goes, with 3
	d.gives(1, 8, 88, 96, 104, 112, 120, 8, 16) // heap 2: frame 1, then frame 0
	d.gives(0, 8, 200, 208, 216, 152, 160, 168) // heap 1 kept frames 2 and 3
	d.gives(0, 8, 176, 184)                     // now both are full
	d.refuses(0, 8, api.ErrFull)                // and heap 0 is empty
	d.refuses(0, 9, api.ErrFull)                // room of another class is none
	d.gives(1, 8, 24, 32, 40, 48, 56)           // heap 2 has room still
	d.refuses(1, 8, api.ErrFull)
}

func TestP3GivenBytesAre0(t *testing.T) {
	d := open(t, 1, 1, 1)
	d.gives(0, 32, 0, 32)
	for a := range 64 {
		d.loads(a, 0, api.OK)
		d.stores(a, 255, api.OK)
	}
	d.frees(0)
	d.gives(0, 17, 0)
	for a := range 17 {
		d.loads(a, 0, api.OK)
	}
	d.loads(32, 255, api.OK)
	d.frees(0)
	d.gives(0, 32, 0) // bytes 17 to 31 were not the last block's
	for a := range 32 {
		d.loads(a, 0, api.OK)
	}
}

func TestP3AFreedFrameGivesZeroBytesToAnotherClass(t *testing.T) {
	d := open(t, 1, 3, 1)
	d.gives(0, 32, 0, 32, 64, 96)
	for a := range 128 {
		d.stores(a, a+1, api.OK)
	}
	d.frees(0, 32)     // 2 of 4: half
	d.frees(96)        // 1 of 4: frame 0 is free
	d.gives(0, 16, 0)  // of another class
	d.gives(0, 8, 128) // frame 2 was free all along
	d.gives(0, 16, 16, 32, 48)
	for a := range 64 {
		d.loads(a, 0, api.OK)
	}
	d.loads(95, 96, api.OK)
}

func TestP4FreeRefusesWhatIsNoBlocksAddress(t *testing.T) {
	d := open(t, 1, 2, 1)
	d.freesNot(0, 8, 64)
	d.gives(0, 16, 0, 16)
	d.freesNot(math.MinInt, -64, -16, -1, 1, 8, 15, 17, 32, 48, 64, 127, 128, 1024, math.MaxInt)
	d.frees(16)
	d.freesNot(16)
	d.loads(0, 0, api.OK)
	d.gives(0, 16, 16, 32)
}

func TestP4AFreedSlotIsGivenAgain(t *testing.T) {
	d := open(t, 1, 1, 1)
	d.gives(0, 8, 0, 8, 16, 24)
	d.frees(16, 0)
	d.gives(0, 8, 0, 16, 32)
}

// A heap of two superblocks of class 2 keeps both while it uses half.
func TestP4HalfUsedIsEnough(t *testing.T) {
	d := open(t, 2, 2, 1)
	d.gives(0, 32, 0, 32, 64, 96)
	d.frees(0, 32)
	d.refuses(1, 8, api.ErrFull)
	d.gives(0, 32, 0, 32)
	d.frees(0, 32, 64) // below half, and above the slack
	d.gives(1, 8, 0)
}

// HELD is 64 times Slack and USED on the very edge: nothing goes.
func TestP4TheSlackStays(t *testing.T) {
	for slack := 1; slack <= api.MaxSlack; slack++ {
		d := open(t, 2, slack, slack)
		for a := 0; a < 64*slack; a += 32 {
			d.gives(0, 32, a)
		}
		for a := 0; a < 64*slack; a += 32 {
			d.frees(a)
		}
		d.refuses(1, 32, api.ErrFull)
		d.gives(0, 32, 0) // all are empty, and heap 1's still
	}
}

// One superblock beyond the slack: HELD is USED and the slack at 64 used, and too much below.
func TestP4BeyondTheSlackTheEmptiestGoes(t *testing.T) {
	for slack := 2; slack <= api.MaxSlack; slack++ {
		frames := slack + 1
		d := open(t, 2, frames, slack)
		for a := 0; a < 64*frames; a += 32 {
			d.gives(0, 32, a)
		}
		for a := 64; a < 64*frames; a += 32 {
			d.frees(a) // USED twice is less than HELD in the end, HELD not more than USED and slack
		}
		d.refuses(1, 32, api.ErrFull)
		d.frees(0)
		d.gives(1, 32, 64) // of equals the lowest frame, not frame 0, which is fuller
		d.gives(1, 32, 96)
		d.refuses(1, 32, api.ErrFull)
	}
}

func TestP4AnotherHeapOrClassCountsNot(t *testing.T) {
	d := open(t, 2, 4, 1)
	d.gives(0, 32, 0, 32)
	d.gives(1, 32, 64, 96)
	d.gives(0, 16, 128)
	d.gives(1, 8, 192)
	d.frees(0, 32, 64, 96, 128, 192) // each heap and class holds one superblock: its slack
	d.refuses(2, 1, api.ErrFull)
	d.gives(0, 32, 0)
	d.gives(1, 32, 64)
	d.gives(0, 16, 128)
	d.gives(1, 8, 192)
}

func TestP4WhatWentIsOfHeap0(t *testing.T) {
	d := open(t, 2, 4, 1)
	d.gives(0, 8, 0, 8, 16, 24, 32, 40, 48, 56)
	d.gives(0, 8, 64, 72, 80, 88, 96, 104, 112, 120)
	d.gives(0, 8, 128, 136, 144, 152, 160, 168, 176, 184)
	d.frees(0, 8, 16, 24, 64, 72, 80, 88, 128, 136, 144, 152) // 4, 4 and 4 used: half
	d.frees(160)                                              // 11 of 24: frame 2 goes, with 3
	d.frees(32)                                               // 7 of 16: frame 0 goes, with 3
	d.frees(40)                                               // of heap 0: that heap may hold what it will
	d.gives(1, 8, 128, 136, 144, 152, 160)                    // frame 2 is the fuller one of heap 0
	d.gives(1, 8, 0)
	d.gives(0, 8, 64) // frame 1 stayed
}

func TestP4AnEmptyOneOfHeap0IsFree(t *testing.T) {
	d := open(t, 2, 2, 1)
	d.gives(0, 16, 0, 16, 32, 48, 64, 80, 96, 112)
	d.frees(16, 32, 48, 80) // 4 of 8
	d.frees(96)             // 3: frame 0 goes, with 1
	d.refuses(1, 8, api.ErrFull)
	d.frees(0) // the last one of it
	d.gives(1, 8, 0)
	d.freesNot(16, 32)
	d.gives(0, 16, 80) // frame 1 stayed
}

func TestP4AnEmptyOneGivenAwayIsFreeAtOnce(t *testing.T) {
	d := open(t, 1, 2, 1)
	d.gives(0, 32, 0, 32, 64, 96)
	d.frees(64, 96, 32) // 1 of 4: frame 1 is the emptiest, and free
	d.gives(0, 8, 64)
	d.gives(0, 32, 32)
	d.refuses(0, 32, api.ErrFull)
}

func TestP5TheBytesOfABlockAreThoseAskedFor(t *testing.T) {
	for size := 1; size <= api.MaxSmall; size++ {
		d := open(t, 1, 1, 1)
		d.gives(0, size, 0)
		for a := -2; a <= 66; a++ {
			want, value := api.ErrFault, 0
			if 0 <= a && a < size {
				want, value = api.OK, 100+a
			}
			d.stores(a, 100+a, want)
			d.loads(a, value, want)
		}
	}
}

func TestP5StoreRefusesWrongValuesFirst(t *testing.T) {
	d := open(t, 1, 1, 1)
	d.gives(0, 1, 0)
	for _, value := range []int{math.MinInt, -1, 256, 511, math.MaxInt} {
		d.stores(0, value, api.ErrArg)
		d.stores(1, value, api.ErrArg)
	}
	d.loads(0, 0, api.OK)
	for _, value := range []int{0, 1, 127, 128, 255} {
		d.stores(0, value, api.OK)
		d.loads(0, value, api.OK)
		d.stores(1, value, api.ErrFault)
	}
}

func TestP5FarAddressesFault(t *testing.T) {
	d := open(t, 1, 16, 1)
	d.gives(0, 32, 0)
	for _, a := range []int{math.MinInt, -1, 32, 1023, 1024, 1 << 32, math.MaxInt} {
		d.stores(a, 1, api.ErrFault)
		d.loads(a, 0, api.ErrFault)
	}
}

func TestP5WhatIsFreedFaults(t *testing.T) {
	d := open(t, 1, 1, 1)
	d.gives(0, 8, 0, 8)
	d.stores(8, 9, api.OK)
	d.frees(0)
	d.stores(0, 1, api.ErrFault)
	d.loads(0, 0, api.ErrFault)
	d.loads(8, 9, api.OK)
}

func TestP5TheBytesOfALargeBlockAreThoseAskedFor(t *testing.T) {
	for size := api.MaxSmall + 1; size <= api.MaxSize; size++ {
		d := open(t, 1, 6, 1)
		d.gives(0, 32, 0)
		d.gives(0, size, 64)
		for a := 32; a < 6*64+2; a++ {
			want, value := api.ErrFault, 0
			if 64 <= a && a < 64+size {
				want, value = api.OK, a%256
			}
			d.stores(a, a%256, want)
			d.loads(a, value, want)
		}
	}
}

func TestP6TheSizeSaysHowManyFrames(t *testing.T) {
	for size := api.MaxSmall + 1; size <= api.MaxSize; size++ {
		frames := 1
		for 64*frames < size {
			frames++
		}
		d := open(t, 1, frames+1, 1)
		d.gives(0, size, 0)
		d.hasFree(1)
		d.gives(0, 1, 64*frames)
		if frames > 1 {
			open(t, 1, frames-1, 1).refuses(0, size, api.ErrFull)
		}
	}
}

func TestP6NoFrameLeftIsErrFull(t *testing.T) {
	for frames := 1; frames <= api.MaxFrames; frames++ {
		d := open(t, 1, frames, 1)
		for i := range frames {
			d.gives(i, 33+i, 64*i)
		}
		d.hasFree(0)
		d.refuses(0, 33, api.ErrFull)
		d.refuses(0, 256, api.ErrFull)
		d.refuses(0, 1, api.ErrFull)
		d.refuses(0, 257, api.ErrArg) // named ahead of ErrFull
		d.refuses(-1, 33, api.ErrArg)
		d.refuses(1001, 33, api.ErrArg)
	}
}

func TestP6TheFramesAreOneBehindTheOther(t *testing.T) {
	d := open(t, 1, 9, 1)
	d.gives(0, 64, 0, 64, 128, 192, 256, 320, 384, 448, 512)
	d.frees(0, 128, 192, 320, 384, 448) // free: 0, 2 and 3, 5 to 7
	d.refuses(0, 193, api.ErrFull)      // six are free, four together are not
	d.hasFree(6)
	d.gives(0, 129, 320)
	d.refuses(0, 129, api.ErrFull)
	d.gives(0, 65, 128)
	d.refuses(0, 65, api.ErrFull)
	d.gives(0, 33, 0)
	d.hasFree(0)
}

func TestP6TheLowestGiveNotTheTightest(t *testing.T) {
	d := open(t, 1, 8, 1)
	d.gives(0, 192, 0)
	d.gives(0, 64, 192, 256, 320)
	d.frees(0, 256) // free: 0 to 2, 4, 6 and 7
	d.gives(0, 40, 0)
	d.gives(0, 100, 64)
	d.gives(0, 100, 384)
	d.gives(0, 40, 256)
	d.refuses(0, 40, api.ErrFull)
}

func TestP6FramesDoNotGoAroundTheEnd(t *testing.T) {
	d := open(t, 1, 4, 1)
	d.gives(0, 64, 0, 64, 128, 192)
	d.frees(0, 192)
	d.refuses(0, 65, api.ErrFull)
	d.frees(64)
	d.gives(0, 65, 0)
}

func TestP6AllFramesOfAFreedOneAreFree(t *testing.T) {
	for size := api.MaxSmall + 1; size <= api.MaxSize; size++ {
		d := open(t, 1, 6, 1)
		d.gives(0, 33, 0)
		d.gives(0, size, 64)
		last := 64 + (size+63)/64*64
		d.gives(0, 64, last)
		d.frees(64)
		d.hasFree(4)
		d.freesNot(64)
		d.loads(64, 0, api.ErrFault)
		for a := 64; a < last; a += 64 {
			d.gives(0, 50, a)
		}
		d.loads(32, 0, api.OK) // its neighbours stayed
		d.loads(last+63, 0, api.OK)
	}
}

func TestP6WithinALargeBlockIsNoAddress(t *testing.T) {
	d := open(t, 1, 6, 1)
	d.gives(0, 33, 0)
	d.gives(0, 200, 64)
	for a := -1; a < 6*64+1; a++ {
		if a != 0 && a != 64 {
			d.freesNot(a)
		}
	}
	d.hasFree(1)
	d.frees(64, 0)
	d.hasFree(6)
}

func TestP6ALargeBlockIsOfNoHeap(t *testing.T) {
	d := open(t, 2, 4, 1)
	d.gives(1000, 33, 0)
	d.gives(0, 128, 64)
	for heap := range 3 {
		for class := range api.Classes {
			d.holds(heap, class, 0, 0)
		}
	}
	d.gives(0, 8, 192) // no slot of a large block's frame
	d.frees(0, 64)     // and none of a heap's slack
	d.hasFree(3)
	d.holds(1, 0, 64, 8)
}

func TestP6GivenBytesAre0(t *testing.T) {
	d := open(t, 1, 4, 1)
	d.gives(0, 256, 0)
	for a := range 256 {
		d.loads(a, 0, api.OK)
		d.stores(a, 255, api.OK)
	}
	d.frees(0)
	d.gives(0, 32, 0, 32)
	d.gives(0, 130, 64)
	for a := range 64 + 130 {
		d.loads(a, 0, api.OK)
	}
	d.frees(64)
	d.gives(0, 192, 64) // its last bytes were not the block's before it
	for a := 64; a < 256; a++ {
		d.loads(a, 0, api.OK)
	}
}

func TestP6AFrameOfASuperblockIsNotFreeTillItIsNone(t *testing.T) {
	d := open(t, 1, 3, 1)
	d.gives(0, 32, 0, 32, 64, 96)
	d.frees(32, 64)               // half of heap 1 is used
	d.refuses(0, 65, api.ErrFull) // a slot's room is none for a large one
	d.frees(96)                   // frame 1 goes and is free
	d.gives(0, 65, 64)            // frames 1 and 2
	d.frees(0)                    // frame 0 is the slack
	d.refuses(0, 33, api.ErrFull) // though it is empty
	d.gives(0, 32, 0)
}

func TestP7StatsRefusesWrongNumbers(t *testing.T) {
	for heaps := 1; heaps <= api.MaxHeaps; heaps++ {
		d := open(t, heaps, 16, 1)
		for worker := range heaps {
			d.gives(worker, 8, 64*worker)
		}
		for _, heap := range []int{math.MinInt, -1, 0, 1, 2, 3, 4, 5, math.MaxInt} {
			for _, class := range []int{math.MinInt, -1, 0, 1, 2, 3, math.MaxInt} {
				want, e := api.Stats{}, api.ErrArg
				if 0 <= heap && heap <= heaps && 0 <= class && class <= 2 {
					e = api.OK
					if heap > 0 && class == 0 {
						want = api.Stats{Held: 64, Used: 8}
					}
				}
				if s, f := d.Stats(heap, class); s != want || f != e {
					t.Errorf("of %d heaps: Stats(%d, %d) = %+v, %d, want %+v, %d", heaps, heap, class, s, f, want, e)
				}
			}
		}
	}
}

func TestP7UsedIsWhatIsChargedNotWhatWasAskedFor(t *testing.T) {
	d := open(t, 1, 4, 1)
	d.gives(0, 1, 0, 8)
	d.gives(0, 9, 64)
	d.gives(0, 17, 128, 160, 192)
	d.holds(1, 0, 64, 16)
	d.holds(1, 1, 64, 16)
	d.holds(1, 2, 128, 96)
	d.holds(0, 2, 0, 0)
}

func TestP7StatsFollowsASuperblockFromHeapToHeap(t *testing.T) {
	d := open(t, 2, 3, 1)
	d.gives(0, 16, 0, 16, 32, 48, 64, 80, 96, 112)
	d.frees(16, 32, 48, 80)
	d.holds(1, 1, 128, 64)
	d.frees(96) // frame 0 goes to heap 0
	d.holds(1, 1, 64, 32)
	d.holds(0, 1, 64, 16)
	d.hasFree(1)
	d.gives(1, 16, 16) // heap 2 takes it over
	d.holds(0, 1, 0, 0)
	d.holds(2, 1, 64, 32)
	d.hasFree(1)
}

func TestP7FreeFramesCountsWhatIsNeitherSuperblockNorLarge(t *testing.T) {
	for frames := 1; frames <= api.MaxFrames; frames++ {
		open(t, 1, frames, 1).hasFree(frames)
	}
	d := open(t, 1, 9, 1)
	d.gives(0, 8, 0)
	d.hasFree(8)
	d.gives(0, 8, 8)
	d.hasFree(8)
	d.gives(0, 32, 64)
	d.gives(0, 256, 128)
	d.hasFree(3)
	d.refuses(0, 256, api.ErrFull)
	d.hasFree(3)
	d.frees(0, 8) // the slack
	d.hasFree(3)
	d.frees(128)
	d.hasFree(7)
}

// mixed: a small block of each class, large ones, and gaps between.
func mixed(t *testing.T) desk {
	t.Helper()
	d := open(t, 2, 10, 1)
	d.gives(0, 256, 0)
	d.gives(0, 1, 256, 264, 272)
	d.gives(1, 64, 320)
	d.gives(1, 30, 384, 416)
	d.gives(0, 9, 448)
	d.gives(1, 8, 512)
	d.frees(0, 264, 384)
	d.gives(0, 65, 0)
	return d
}

func mixedBlocks() []int {
	return []int{0, 65, 256, 1, 272, 1, 320, 64, 416, 30, 448, 9, 512, 8}
}

func TestP8LiveTellsTheBlocksByTheirAddresses(t *testing.T) {
	open(t, 1, 1, 1).tells()
	d := mixed(t)
	d.tells(mixedBlocks()...)
	d.refuses(0, 257, api.ErrArg)
	d.refuses(0, 256, api.ErrFull)
	d.freesNot(1, 64, 384)
	d.tells(mixedBlocks()...) // what was refused is no block
	d.frees(512, 0, 320, 256, 448, 272, 416)
	d.tells()
}

func TestP8TheSizeIsWhatWasAskedFor(t *testing.T) {
	for size := 1; size <= api.MaxSize; size++ {
		d := open(t, 1, 5, 1)
		d.gives(0, size, 0)
		d.tells(0, size)
		d.frees(0)
		d.tells()
	}
}

func TestP8AllThatFitsIsTold(t *testing.T) {
	d := open(t, 4, 16, 1)
	var want []int
	for a := 0; a < 16*64; a += 8 {
		d.gives(3, 7, a)
		want = append(want, a, 7)
	}
	d.tells(want...)
}

func TestP8ABlockOfHeap0IsToldToo(t *testing.T) {
	d := open(t, 2, 2, 1)
	d.gives(0, 16, 0, 16, 32, 48, 64, 80, 96, 112)
	d.frees(16, 32, 48, 80, 96) // frame 0 goes to heap 0
	d.holds(0, 1, 64, 16)
	d.tells(0, 16, 64, 16, 112, 16)
}

func TestP8LiveMayBeLeft(t *testing.T) {
	d := mixed(t)
	want := mixedBlocks()
	for most := 1; most <= len(want)/2; most++ {
		var got []int
		for a, size := range d.Live() {
			got = append(got, a, size)
			if len(got) == 2*most {
				break
			}
		}
		if !slices.Equal(got, want[:2*most]) {
			t.Errorf("left at %d, Live told %v, want %v", most, got, want[:2*most])
		}
	}
	calls := 0
	d.Live()(func(int, int) bool { calls++; return false })
	if calls != 1 {
		t.Errorf("Live told %d blocks to one who left at the first", calls)
	}
}

func TestP8LiveCanBeRangedOverAgain(t *testing.T) {
	d := mixed(t)
	each := d.Live()
	for range each {
		break
	}
	for range 2 {
		if got := told(each); !slices.Equal(got, mixedBlocks()) {
			t.Errorf("again, Live told %v", got)
		}
	}
	for a := range each {
		if got := told(each); !slices.Equal(got, mixedBlocks()) {
			t.Errorf("within the ranging at %d, Live told %v", a, got)
		}
	}
}

func TestP8LiveLooksWhenItIsRangedOver(t *testing.T) {
	d := open(t, 1, 4, 1)
	each := d.Live() // there is no block yet
	for _, want := range [][]int{{0, 8}, {0, 8, 8, 8}, {0, 8, 8, 8, 16, 8}} {
		d.gives(0, 8, want[len(want)-2])
		if got := told(each); !slices.Equal(got, want) {
			t.Errorf("Live told %v, want %v", got, want)
		}
	}
	d.frees(0)
	d.gives(0, 100, 64)
	if got, want := told(each), []int{8, 8, 16, 8, 64, 100}; !slices.Equal(got, want) {
		t.Errorf("Live told %v, want %v", got, want)
	}
}

func TestP8WhatIsFreedMeanwhileIsToldStill(t *testing.T) {
	d := mixed(t)
	var got []int
	for a, size := range d.Live() {
		if len(got) == 0 {
			d.frees(512, 0, 320, 256, 448, 272, 416) // all, at the first
		}
		got = append(got, a, size)
	}
	if !slices.Equal(got, mixedBlocks()) {
		t.Errorf("Live told %v, want %v", got, mixedBlocks())
	}
	d.tells()
}

func TestP8WhatIsGivenMeanwhileIsNotTold(t *testing.T) {
	d := open(t, 1, 4, 1)
	d.gives(0, 8, 0, 8, 16)
	d.frees(8)
	var got []int
	for a, size := range d.Live() {
		if len(got) == 0 {
			d.gives(0, 8, 8, 24) // between, and behind
			d.gives(0, 100, 64)
			d.frees(16)
			d.gives(0, 3, 16) // the same address, another size
		}
		got = append(got, a, size)
	}
	if want := []int{0, 8, 16, 8}; !slices.Equal(got, want) {
		t.Errorf("Live told %v, want %v", got, want)
	}
	d.tells(0, 8, 8, 8, 16, 3, 24, 8, 64, 100)
}

func TestP8EachRangingSeesItsOwnTime(t *testing.T) {
	d := open(t, 1, 1, 1)
	d.gives(0, 8, 0, 8)
	each := d.Live()
	var outer []int
	for a, size := range each {
		outer = append(outer, a, size)
		d.frees(a)
		want := []int{8, 8} // behind the first one
		if a == 8 {
			want = nil
		}
		if inner := told(each); !slices.Equal(inner, want) {
			t.Errorf("with %d freed, Live told %v, want %v", a, inner, want)
		}
	}
	if want := []int{0, 8, 8, 8}; !slices.Equal(outer, want) {
		t.Errorf("the outer ranging told %v, want %v", outer, want)
	}
}

func TestP2WhatTellsChangesNothing(t *testing.T) {
	d := open(t, 1, 4, 1)
	d.gives(0, 8, 0)
	d.gives(0, 100, 64)
	d.stores(64, 5, api.OK)
	for range 3 {
		d.holds(1, 0, 64, 8)
		d.holds(0, 0, 0, 0)
		d.hasFree(1)
		d.loads(64, 5, api.OK)
		d.loads(0, 0, api.OK)
		d.loads(8, 0, api.ErrFault)
		d.tells(0, 8, 64, 100)
	}
	d.gives(0, 8, 8)
	d.gives(0, 33, 192)
}

func TestP1AnErrorChangesNothing(t *testing.T) {
	d := open(t, 1, 4, 1)
	d.gives(0, 33, 0)
	d.gives(0, 8, 64)
	d.stores(0, 7, api.OK)
	for range 3 {
		d.refuses(0, 129, api.ErrFull)
		d.refuses(0, 257, api.ErrArg)
		d.refuses(1001, 33, api.ErrArg)
		d.freesNot(1, 32, 65, 128)
		d.stores(33, 1, api.ErrFault)
		d.stores(0, 256, api.ErrArg)
		d.hasFree(2)
		d.holds(1, 0, 64, 8)
		d.loads(0, 7, api.OK)
		d.tells(0, 33, 64, 8)
	}
	d.gives(0, 128, 128)
}

func TestP2TithesAreApart(t *testing.T) {
	d, other := open(t, 1, 1, 1), open(t, 1, 1, 1)
	d.gives(0, 8, 0)
	d.stores(0, 7, api.OK)
	other.loads(0, 0, api.ErrFault)
	other.freesNot(0)
	other.gives(0, 8, 0)
	other.loads(0, 0, api.OK)
	other.frees(0)
	d.loads(0, 7, api.OK)
	d.hasFree(0)
	d.holds(1, 0, 64, 8)
	other.holds(1, 0, 64, 0)
	d.tells(0, 8)
	other.tells()
}

func TestP1ATitheThatIsNoneAnswersToo(t *testing.T) {
	none, e := New(api.Config{})
	if none != nil || e != api.ErrArg {
		t.Fatalf("New of an empty config = %v, %d", none, e)
	}
	d := desk{none, t}
	d.refuses(0, 8, api.ErrFull)
	d.refuses(-1, 8, api.ErrArg)
	d.freesNot(0)
	d.stores(0, 256, api.ErrArg)
	d.stores(0, 1, api.ErrFault)
	d.loads(0, 0, api.ErrFault)
	d.refuses(0, 256, api.ErrFull)
	d.holds(0, 0, 0, 0)
	d.hasFree(0)
	d.tells()
	if s, e := none.Stats(-1, 0); s != (api.Stats{}) || e != api.ErrArg {
		t.Errorf("Stats(-1, 0) of none = %+v, %d, want ErrArg", s, e)
	}
}
