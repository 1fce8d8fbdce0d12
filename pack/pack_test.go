package pack

import (
	"bytes"
	"encoding/binary"
	"hash/fnv"
	"math"
	"strings"
	"testing"

	"customhouse/api"
)

// sumOf is the checksum by the library's own FNV-1a.
func sumOf(b []byte) uint64 {
	h := fnv.New64a()
	h.Write(b)
	return h.Sum64()
}

// summed is the fields, as given, and behind them their checksum.
func summed(fields string) []byte {
	return binary.BigEndian.AppendUint64([]byte(fields), sumOf([]byte(fields)))
}

func wide(n uint64) string {
	return string(binary.BigEndian.AppendUint64(nil, n))
}

func text(s string) string {
	return string(binary.BigEndian.AppendUint32(nil, uint32(len(s)))) + s
}

// hasBytes fails unless the Writer has exactly these fields.
func hasBytes(t *testing.T, w *Writer, fields string) {
	t.Helper()
	if got := w.Bytes(); !bytes.Equal(got, summed(fields)) {
		t.Errorf("%q, want %q", shown(got), shown(summed(fields)))
	}
}

// shown is the beginning of bytes that may be too many to print.
func shown(b []byte) []byte { return b[:min(len(b), 100)] }

// ended fails unless the Reader has this error; it may not change, however often it is asked.
func ended(t *testing.T, r *Reader, want api.Errno) {
	t.Helper()
	for range 2 {
		if got := r.End(); got != want {
			t.Errorf("End() = %d, want %d", got, want)
		}
	}
}

// failed fails unless the Reader has this error, now and after each further read, and reads nothing.
func failed(t *testing.T, r *Reader, want api.Errno) {
	t.Helper()
	for range 2 {
		if r.Left() != 0 {
			t.Errorf("Left() = %d after an error", r.Left())
		}
		ended(t, r, want)
		if n, w, s := r.Num(), r.Wide(), r.Text(); n != 0 || w != 0 || s != "" {
			t.Errorf("Num() = %d, Wide() = %d, Text() = %q after an error", n, w, shown([]byte(s)))
		}
	}
}

func nums() []int {
	return []int{0, 1, -1, 2, -2, 255, 256, -256, 1 << 32, -1 << 32, math.MaxInt32, math.MinInt32, math.MaxInt - 1, math.MaxInt, math.MinInt, math.MinInt + 1}
}

func wides() []uint64 {
	return []uint64{0, 1, 255, 256, 258, 1 << 31, 1<<32 - 1, 1 << 32, 0x0123456789abcdef, 1<<63 - 1, 1 << 63, math.MaxUint64}
}

func texts() []string {
	return []string{"", "a", "abc", "\x00", "\x00\x00\x00\x00\x00\x00\x00\x00", "\xff\xfe", "ü€", strings.Repeat("x", 255), strings.Repeat("y", 256), strings.Repeat("z", 1<<16+1)}
}

func TestSum(t *testing.T) {
	for _, c := range []struct {
		s    string
		want uint64
	}{
		{"", 14695981039346656037},
		{"a", 0xaf63dc4c8601ec8c},
		{"foobar", 0x85944171f73967e8},
	} {
		if got := Sum([]byte(c.s)); got != c.want {
			t.Errorf("Sum(%q) = %x, want %x", c.s, got, c.want)
		}
	}
	if got := Sum(nil); got != 14695981039346656037 {
		t.Errorf("Sum(nil) = %x", got)
	}
	for _, s := range texts() {
		if got, want := Sum([]byte(s)), sumOf([]byte(s)); got != want {
			t.Errorf("Sum(%q) = %x, want %x", shown([]byte(s)), got, want)
		}
	}
}

func TestSumOfEveryByte(t *testing.T) {
	for n := range 256 {
		b := []byte{byte(n), byte(255 - n)}
		if got, want := Sum(b), sumOf(b); got != want {
			t.Errorf("Sum(%x) = %x, want %x", b, got, want)
		}
	}
}

func TestBytesOfNoFields(t *testing.T) {
	if got := New().Bytes(); string(got) != "\xcb\xf2\x9c\xe4\x84\x22\x23\x25" {
		t.Errorf("%x", got)
	}
}

func TestFieldsWrittenOut(t *testing.T) {
	for _, c := range []struct {
		w    *Writer
		want string
	}{
		{New().Num(0), "\x00\x00\x00\x00\x00\x00\x00\x00"},
		{New().Num(1), "\x00\x00\x00\x00\x00\x00\x00\x01"},
		{New().Num(-1), "\xff\xff\xff\xff\xff\xff\xff\xff"},
		{New().Num(-2), "\xff\xff\xff\xff\xff\xff\xff\xfe"},
		{New().Num(math.MinInt64), "\x80\x00\x00\x00\x00\x00\x00\x00"},
		{New().Num(math.MaxInt64), "\x7f\xff\xff\xff\xff\xff\xff\xff"},
		{New().Wide(0x0123456789abcdef), "\x01\x23\x45\x67\x89\xab\xcd\xef"},
		{New().Wide(math.MaxUint64), "\xff\xff\xff\xff\xff\xff\xff\xff"},
		{New().Text(""), "\x00\x00\x00\x00"},
		{New().Text("ab"), "\x00\x00\x00\x02ab"},
		{New().Text("\x00\xff"), "\x00\x00\x00\x02\x00\xff"},
		{New().Text("a").Num(2).Text("").Wide(3), "\x00\x00\x00\x01a\x00\x00\x00\x00\x00\x00\x00\x02\x00\x00\x00\x00\x00\x00\x00\x00\x00\x00\x00\x03"},
	} {
		hasBytes(t, c.w, c.want)
	}
}

func TestFieldsOfAllValues(t *testing.T) {
	for _, n := range nums() {
		hasBytes(t, New().Num(n), wide(uint64(n)))
	}
	for _, n := range wides() {
		hasBytes(t, New().Wide(n), wide(n))
	}
	for _, s := range texts() {
		hasBytes(t, New().Text(s), text(s))
	}
}

func TestCallsReturnTheSameWriter(t *testing.T) {
	w := New()
	if w.Num(1) != w || w.Wide(2) != w || w.Text("three") != w || w.Text(strings.Repeat("x", 1<<24+1)) != w {
		t.Error("another Writer")
	}
	hasBytes(t, w, wide(1)+wide(2)+text("three")+text(""))
}

func TestWritersAreApart(t *testing.T) {
	a, b := New(), New()
	a.Num(1)
	b.Num(2)
	hasBytes(t, a, wide(1))
	hasBytes(t, b, wide(2))
}

func TestNilWriter(t *testing.T) {
	var w *Writer
	if w.Num(1) != nil || w.Wide(2) != nil || w.Text("x") != nil || w.Text("") != nil || w.Num(1).Wide(2).Text("x") != nil {
		t.Error("a Writer")
	}
	if got := w.Bytes(); len(got) != 0 {
		t.Errorf("%x", got)
	}
}

func TestTextAtItsLongest(t *testing.T) {
	for _, n := range []int{1<<24 - 1, 1 << 24} {
		s := strings.Repeat("x", n)
		b := New().Text(s).Num(5).Bytes()
		if !bytes.Equal(b, summed(text(s)+wide(5))) {
			t.Errorf("%d bytes: %q", n, shown(b))
		}
		r := Read(b)
		if r.Text() != s || r.Num() != 5 {
			t.Errorf("%d bytes are not read", n)
		}
		ended(t, r, api.OK)
	}
}

func TestLongerTextIsEmpty(t *testing.T) {
	for _, n := range []int{1<<24 + 1, 1 << 25} {
		hasBytes(t, New().Num(4).Text(strings.Repeat("x", n)).Num(5), wide(4)+text("")+wide(5))
	}
}

// Bytes may be asked again, and in between: the checksum does not become a field.
func TestBytesChangesNothing(t *testing.T) {
	w := New().Text("a")
	hasBytes(t, w, text("a"))
	hasBytes(t, w, text("a"))
	hasBytes(t, w.Num(1), text("a")+wide(1))
	hasBytes(t, w.Text("b"), text("a")+wide(1)+text("b"))
}

func TestBytesAnswersNewMemory(t *testing.T) {
	w := New()
	for n := range 40 {
		w.Num(n)
		first := w.Bytes()
		kept := bytes.Clone(first)
		w.Text("more")
		w.Bytes()
		if !bytes.Equal(first, kept) {
			t.Fatal("a later call changed an earlier answer")
		}
		want := w.Bytes()
		second := w.Bytes()
		for _, b := range [][]byte{first[:cap(first)], second[:cap(second)]} {
			for i := range b {
				b[i] = 0xee
			}
		}
		if got := w.Bytes(); !bytes.Equal(got, want) {
			t.Fatal("a change of an answer changed the Writer")
		}
	}
}

func TestReadOfAllValues(t *testing.T) {
	for _, n := range nums() {
		r := Read(summed(wide(uint64(n))))
		if got := r.Num(); got != n {
			t.Errorf("Num() = %d, want %d", got, n)
		}
		ended(t, r, api.OK)
	}
	for _, n := range wides() {
		r := Read(summed(wide(n)))
		if got := r.Wide(); got != n {
			t.Errorf("Wide() = %d, want %d", got, n)
		}
		ended(t, r, api.OK)
	}
	for _, s := range texts() {
		r := Read(summed(text(s)))
		if got := r.Text(); got != s {
			t.Errorf("Text() = %q, want %q", shown([]byte(got)), shown([]byte(s)))
		}
		ended(t, r, api.OK)
	}
}

func TestReadOfNoFields(t *testing.T) {
	r := Read(New().Bytes())
	if r.Left() != 0 {
		t.Error(r.Left())
	}
	ended(t, r, api.OK)
}

func TestReadInOrder(t *testing.T) {
	r := Read(New().Num(-7).Text("abc").Text("").Wide(1 << 63).Num(9).Bytes())
	left := func(want int) {
		t.Helper()
		if got := r.Left(); got != want {
			t.Errorf("Left() = %d, want %d", got, want)
		}
	}
	left(35)
	if got := r.Num(); got != -7 {
		t.Error(got)
	}
	left(27)
	if got := r.Text(); got != "abc" {
		t.Error(got)
	}
	left(20)
	if got := r.Text(); got != "" {
		t.Error(got)
	}
	left(16)
	if got := r.Wide(); got != 1<<63 {
		t.Error(got)
	}
	left(8)
	if got := r.Num(); got != 9 {
		t.Error(got)
	}
	left(0)
	ended(t, r, api.OK)
}

// The bytes do not tell what kind of fields they are.
func TestReadOtherwiseThanWritten(t *testing.T) {
	r := Read(New().Num(-1).Wide(math.MaxUint64).Wide(0).Bytes())
	if r.Wide() != math.MaxUint64 || r.Num() != -1 || r.Text() != "" || r.Text() != "" || r.End() != api.OK {
		t.Error("not read as their bytes")
	}
	if r := Read(summed("\x00\x00\x00\x04\x00\x00\x00\x09")); r.Text() != "\x00\x00\x00\x09" || r.End() != api.OK {
		t.Error("not read as a text")
	}
}

func TestReadOfTooFewBytes(t *testing.T) {
	failed(t, Read(nil), api.ErrShort)
	for n := range 8 {
		failed(t, Read(make([]byte, n)), api.ErrShort)
		failed(t, Read(New().Num(1).Bytes()[:n]), api.ErrShort)
		failed(t, Read(New().Bytes()[:n]), api.ErrShort)
	}
}

func TestReadOfAWrongSum(t *testing.T) {
	for _, good := range [][]byte{New().Bytes(), New().Num(1).Text("abc").Bytes()} {
		for i := range len(good) * 8 {
			bad := bytes.Clone(good)
			bad[i/8] ^= 1 << (i % 8)
			failed(t, Read(bad), api.ErrForm)
		}
		failed(t, Read(append(bytes.Clone(good), 0)), api.ErrForm)
	}
	for n := 8; n < len(New().Num(1).Bytes()); n++ {
		failed(t, Read(New().Num(1).Bytes()[:n]), api.ErrForm)
	}
	failed(t, Read(make([]byte, 8)), api.ErrForm)
	failed(t, Read(make([]byte, 100)), api.ErrForm)
	little := binary.LittleEndian.AppendUint64([]byte("abc"), sumOf([]byte("abc")))
	failed(t, Read(little), api.ErrForm)
}

func TestIncompleteNumbers(t *testing.T) {
	for n := range 8 {
		part := strings.Repeat("\xff", n)
		r := Read(summed(part))
		if got := r.Num(); got != 0 {
			t.Errorf("Num() of %d bytes = %d", n, got)
		}
		failed(t, r, api.ErrShort)
		r = Read(summed(wide(3) + part))
		if got := []uint64{r.Wide(), r.Wide()}; got[0] != 3 || got[1] != 0 {
			t.Errorf("Wide() of %d bytes: %d", n, got)
		}
		failed(t, r, api.ErrShort)
	}
}

func TestIncompleteTexts(t *testing.T) {
	whole := text("abcdef")
	for n := range len(whole) {
		r := Read(summed(whole[:n]))
		if got := r.Text(); got != "" {
			t.Errorf("Text() of %d bytes = %q", n, got)
		}
		failed(t, r, api.ErrShort)
	}
	for _, length := range []string{"\x00\x00\x00\x09", "\x00\x00\x01\x00", "\x01\x00\x00\x00", "\x01\x00\x00\x08", "\x7f\xff\xff\xff", "\x80\x00\x00\x00", "\xff\xff\xff\xff"} {
		r := Read(summed(length + "abcdefgh"))
		if got := r.Text(); got != "" {
			t.Errorf("Text() of length %x = %q", length, got)
		}
		failed(t, r, api.ErrShort)
	}
}

// The checksum is no part of the last field.
func TestTextDoesNotReachIntoTheSum(t *testing.T) {
	for n := 1; n <= 8; n++ {
		r := Read(summed(string([]byte{0, 0, 0, byte(n)})))
		if got := r.Text(); got != "" {
			t.Errorf("%q", got)
		}
		failed(t, r, api.ErrShort)
	}
}

// After an incomplete field, the bytes that remain are not read as a shorter one.
func TestErrorsStay(t *testing.T) {
	r := Read(summed(text("ab")))
	if r.Num() != 0 {
		t.Error("six bytes are a number")
	}
	failed(t, r, api.ErrShort)
	r = Read(summed("\x00\x00\x00\x0d" + wide(5) + text("")))
	if r.Text() != "" {
		t.Error("a text of 13 bytes in 12")
	}
	failed(t, r, api.ErrShort)
}

// Where the checksum is wrong, that stays the error: it came first.
func TestFirstErrorStays(t *testing.T) {
	b := summed(wide(5))
	b[0] ^= 1
	r := Read(b)
	for range 3 {
		r.Num()
		r.Text()
	}
	ended(t, r, api.ErrForm)
}

func TestReadPastTheEnd(t *testing.T) {
	for name, read := range map[string]func(*Reader){
		"Num":  func(r *Reader) { r.Num() },
		"Wide": func(r *Reader) { r.Wide() },
		"Text": func(r *Reader) { r.Text() },
	} {
		r := Read(New().Num(1).Bytes())
		r.Num()
		ended(t, r, api.OK)
		read(r)
		if got := r.End(); got != api.ErrShort {
			t.Errorf("%s past the end: %d", name, got)
		}
		failed(t, r, api.ErrShort)
	}
}

// Bytes that remain are told by End, and can still be read.
func TestEndWithBytesLeft(t *testing.T) {
	r := Read(New().Num(1).Text("a").Bytes())
	ended(t, r, api.ErrForm)
	if r.Left() != 13 || r.Num() != 1 {
		t.Error("the number is gone")
	}
	ended(t, r, api.ErrForm)
	if r.Left() != 5 || r.Text() != "a" {
		t.Error("the text is gone")
	}
	ended(t, r, api.OK)
	ended(t, Read(summed("\x00")), api.ErrForm)
}

func TestNilReader(t *testing.T) {
	var r *Reader
	failed(t, r, api.ErrArg)
}

func TestReadersAreApart(t *testing.T) {
	b := New().Num(1).Num(2).Bytes()
	x, y := Read(b), Read(b)
	if x.Num() != 1 || x.Num() != 2 || x.Num() != 0 || x.End() != api.ErrShort {
		t.Error("the first")
	}
	if y.Left() != 16 || y.Num() != 1 || y.Num() != 2 || y.End() != api.OK {
		t.Error("the second")
	}
}

func TestReadKeepsNothing(t *testing.T) {
	b := New().Text("abc").Num(7).Bytes()
	r := Read(b)
	clear(b)
	if s := r.Text(); s != "abc" {
		t.Errorf("%q", s)
	}
	if n := r.Num(); n != 7 {
		t.Error(n)
	}
	ended(t, r, api.OK)
}

func TestArgumentsStayAsTheyAre(t *testing.T) {
	long := append(New().Text("abc").Num(7).Bytes(), "spare"...)
	kept := bytes.Clone(long)
	b := long[:len(long)-5]
	r := Read(b)
	r.Text()
	r.Num()
	r.Num()
	Read(b[:3])
	Sum(b)
	if !bytes.Equal(long, kept) {
		t.Errorf("%q, want %q", long, kept)
	}
}

func FuzzReadWhatIsWritten(f *testing.F) {
	f.Add(5, uint64(6), "seven")
	f.Add(math.MinInt, uint64(math.MaxUint64), "")
	f.Fuzz(func(t *testing.T, n int, w uint64, s string) {
		b := New().Num(n).Wide(w).Text(s).Bytes()
		if !bytes.Equal(b, summed(wide(uint64(n))+wide(w)+text(s))) {
			t.Errorf("%x", b)
		}
		r := Read(b)
		if r.Num() != n || r.Wide() != w || r.Text() != s || r.End() != api.OK {
			t.Errorf("%d, %d, %q are not read as they were written", n, w, s)
		}
	})
}
