package mask_test

import (
	"runtime/debug"
	"syscall"
	"testing"
	"unsafe"

	"sharecore/mask"
)

// P1.4: Table reads all elements in order. Results do not show which elements
// are read, so the elements lie in memory of which a part must not be read: a
// walk in order stops at the first word of this part, whatever the index is.
func TestTableReadsAllInOrder(t *testing.T) {
	const pages = 4
	pageSize := syscall.Getpagesize()
	memory, err := syscall.Mmap(-1, 0, pages*pageSize, syscall.PROT_READ, syscall.MAP_PRIVATE|syscall.MAP_ANON)
	if err != nil {
		t.Fatal(err)
	}
	defer syscall.Munmap(memory)
	first := uintptr(unsafe.Pointer(&memory[0]))
	l := unsafe.Slice((*uint64)(unsafe.Pointer(&memory[0])), len(memory)/8)
	indices := []uint64{0, 1, uint64(len(l)) - 1, uint64(len(l)), ones}

	for _, i := range indices {
		if _, stopped := stop(l, i); stopped {
			t.Fatalf("index %d: readable memory cannot be read", i)
		}
	}
	for page := pages - 1; page >= 0; page-- {
		if err := syscall.Mprotect(memory[page*pageSize:], syscall.PROT_NONE); err != nil {
			t.Fatal(err)
		}
		for _, i := range indices {
			at, stopped := stop(l, i)
			if !stopped {
				t.Errorf("index %d: the elements from page %d on are not read", i, page)
			} else if want := first + uintptr(page*pageSize); at != want {
				t.Errorf("index %d: the first read from page %d on is %d bytes after its begin", i, page, at-want)
			}
		}
	}
}

// stop returns the address at which Table stops because it must not be read.
func stop(l []uint64, i uint64) (at uintptr, stopped bool) {
	defer debug.SetPanicOnFault(debug.SetPanicOnFault(true))
	defer func() {
		if fault, ok := recover().(interface{ Addr() uintptr }); ok {
			at, stopped = fault.Addr(), true
		}
	}()
	mask.Table(l, i)
	return 0, false
}
