package frame_test

import (
	"bytes"
	"encoding/binary"
	"hash/crc32"
	"testing"

	"squinch/api"
	"squinch/frame"
)

// framed builds a frame without the package, of any length.
func framed(b []byte) []byte {
	return binary.LittleEndian.AppendUint32(bytes.Clone(b), crc32.ChecksumIEEE(b))
}

func checkPut(t *testing.T, b []byte) {
	t.Helper()
	if f, e := frame.Put(b); e != api.OK || !bytes.Equal(f, framed(b)) {
		t.Errorf("Put of %d bytes: %d bytes, error %d", len(b), len(f), e)
	}
}

func checkGet(t *testing.T, b []byte) {
	t.Helper()
	if c, e := frame.Get(framed(b)); e != api.OK || !bytes.Equal(c, b) {
		t.Errorf("Get of the frame of %d bytes: %d bytes, error %d", len(b), len(c), e)
	}
}

func checkNoFrame(t *testing.T, b []byte, want api.Errno) {
	t.Helper()
	if c, e := frame.Get(b); e != want || len(c) != 0 {
		t.Errorf("Get of %d bytes: %d bytes, error %d, want %d", len(b), len(c), e, want)
	}
}

// P2.2
func TestPutByExample(t *testing.T) {
	for s, want := range map[string]string{
		"": "\x00\x00\x00\x00", "a": "a\x43\xbe\xb7\xe8", "123456789": "123456789\x26\x39\xf4\xcb",
		"\xff": "\xff\x00\x00\x00\xff",
	} {
		if f, e := frame.Put([]byte(s)); string(f) != want || e != api.OK {
			t.Errorf("Put(%q) = %q, %d, want %q", s, f, e, want)
		}
		if c, e := frame.Get([]byte(want)); string(c) != s || e != api.OK {
			t.Errorf("Get(%q) = %q, %d, want %q", want, c, e, s)
		}
	}
	if f, e := frame.Put(nil); string(f) != "\x00\x00\x00\x00" || e != api.OK {
		t.Errorf("Put(nil) = %q, %d", f, e)
	}
}

// P2.2: at each small length, and at the greatest ones.
func TestPutAndGetAreInverse(t *testing.T) {
	for n := range 200 {
		checkPut(t, someBytes(int64(n), n))
		checkGet(t, someBytes(int64(n), n))
	}
	for _, n := range []int{4096, 32763, 32764, 32765, 32767, 32768} {
		checkPut(t, someBytes(int64(n), n))
		checkGet(t, someBytes(int64(n), n))
	}
}

// P2.2
func TestPutTooLong(t *testing.T) {
	for _, n := range []int{32769, 32770, 32772, 32773, 65536, 1 << 20} {
		if f, e := frame.Put(make([]byte, n)); e != api.ErrFrameLong || len(f) != 0 {
			t.Errorf("Put of %d bytes: %d bytes, error %d", n, len(f), e)
		}
	}
}

// P2.2: too long goes ahead of a sum that is not right, and holds for a right one as well.
func TestGetTooLong(t *testing.T) {
	for _, n := range []int{32769, 32770, 65536, 1 << 20} {
		checkNoFrame(t, framed(someBytes(int64(n), n)), api.ErrFrameLong)
		checkNoFrame(t, someBytes(int64(n), n+4), api.ErrFrameLong)
		checkNoFrame(t, make([]byte, n+4), api.ErrFrameLong)
	}
	checkNoFrame(t, make([]byte, 32772), api.ErrFrameForm)
	checkNoFrame(t, someBytes(3, 32772), api.ErrFrameForm)
}

// P2.2
func TestGetTooShort(t *testing.T) {
	checkNoFrame(t, nil, api.ErrFrameForm)
	for n := range 4 {
		checkNoFrame(t, make([]byte, n), api.ErrFrameForm)
		checkNoFrame(t, bytes.Repeat([]byte{255}, n), api.ErrFrameForm)
		checkNoFrame(t, framed([]byte("a"))[:n], api.ErrFrameForm)
	}
	// The bytes behind the argument would make it a frame.
	checkNoFrame(t, make([]byte, 3, 4), api.ErrFrameForm)
}

// P2.2: sums of other bytes, in another order, at another place.
func TestGetOfAnotherSum(t *testing.T) {
	b := []byte("123456789")
	f := framed(b)
	reversed := binary.BigEndian.AppendUint32(bytes.Clone(b), crc32.ChecksumIEEE(b))
	ahead := append(bytes.Clone(f[9:]), b...)
	for _, c := range [][]byte{
		{0, 0, 0, 1}, {1, 0, 0, 0}, {255, 255, 255, 255}, b, b[:4], reversed, ahead,
		f[1:], f[:12], append(bytes.Clone(f), 0), append([]byte{0}, f...), append(bytes.Clone(f), f...),
		binary.LittleEndian.AppendUint32(bytes.Clone(b), ^crc32.ChecksumIEEE(b)),
		binary.LittleEndian.AppendUint32(bytes.Clone(b), crc32.Checksum(b, crc32.MakeTable(crc32.Castagnoli))),
		binary.LittleEndian.AppendUint32(bytes.Clone(b), crc32.ChecksumIEEE(b[:8])),
		binary.LittleEndian.AppendUint32(bytes.Clone(b), crc32.ChecksumIEEE(f)),
	} {
		checkNoFrame(t, c, api.ErrFrameForm)
	}
}

// P2.2: each byte of the sum counts, whatever it is replaced by.
func TestGetComparesTheWholeSum(t *testing.T) {
	f := framed([]byte("squinch"))
	for i := 7; i < len(f); i++ {
		for v := range 256 {
			c := bytes.Clone(f)
			c[i] = byte(v)
			if c[i] != f[i] {
				checkNoFrame(t, c, api.ErrFrameForm)
			}
		}
	}
}

// P2.2: a frame may be framed again, and each Get takes one sum off.
func TestFramesInFrames(t *testing.T) {
	b := []byte("inner")
	once, _ := frame.Put(b)
	twice, _ := frame.Put(once)
	if c, e := frame.Get(twice); !bytes.Equal(c, once) || e != api.OK {
		t.Errorf("%q, %d", c, e)
	}
}

// fill overwrites bytes with all that lies behind them in their memory.
func fill(b []byte) {
	b = b[:cap(b)]
	for i := range b {
		b[i] = 0xee
	}
}

// The rules that arguments, with their unused capacity, are not modified, and that results are new.
func TestPutAndGetLeaveTheirArguments(t *testing.T) {
	whole := append(framed([]byte("abc")), "behind it"...)
	want := bytes.Clone(whole)
	for _, n := range []int{0, 3, 7} {
		f, _ := frame.Put(whole[:n])
		fill(f)
		if !bytes.Equal(whole, want) {
			t.Fatalf("Put of %d bytes changed its argument: %q", n, whole)
		}
	}
	for _, n := range []int{3, 6, 7, 8} {
		c, _ := frame.Get(whole[:n])
		fill(c)
		if !bytes.Equal(whole, want) {
			t.Fatalf("Get of %d bytes changed its argument: %q", n, whole)
		}
	}
}

// The rule that arguments are not retained.
func TestPutAndGetKeepNothing(t *testing.T) {
	b := []byte("abc")
	f, _ := frame.Put(b)
	want := bytes.Clone(f)
	fill(b)
	if !bytes.Equal(f, want) {
		t.Errorf("a frame changed with its bytes: %q", f)
	}
	c, _ := frame.Get(f)
	fill(f)
	if string(c) != "abc" {
		t.Errorf("contents changed with their frame: %q", c)
	}
}
