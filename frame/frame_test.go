package frame

import (
	"bytes"
	"encoding/binary"
	"hash/crc32"
	"math"
	"math/rand"
	"slices"
	"strings"
	"testing"

	"tocsin/api"
)

// summed ends bytes with their sum, whatever they are.
func summed(b []byte) []byte {
	return binary.BigEndian.AppendUint32(slices.Clone(b), crc32.ChecksumIEEE(b))
}

// controlBytes lays out a control frame, right or not, apart from the package's own ways.
func controlBytes(c api.Control) []byte {
	b := []byte{0x89, 0x1D, byte(c.Kind), byte(c.From)}
	b = binary.BigEndian.AppendUint64(b, uint64(c.Cycle))
	b = binary.BigEndian.AppendUint32(b, c.Crew)
	b = binary.BigEndian.AppendUint64(b, uint64(c.Clear))
	return summed(append(b, make([]byte, 6)...))
}

// dataBytes lays out a data frame, right or not, whose payload has room.
func dataBytes(d api.Data) []byte {
	b := make([]byte, d.Size-4)
	copy(b, []byte{0x08, 0x00, byte(d.Class), byte(d.Link)})
	binary.BigEndian.PutUint32(b[4:], uint32(d.Number))
	binary.BigEndian.PutUint16(b[8:], uint16(len(d.Payload)))
	copy(b[10:], d.Payload)
	return summed(b)
}

func anyBytes(r *rand.Rand, n int) []byte {
	b := make([]byte, n)
	r.Read(b)
	return b
}

func anyControl(r *rand.Rand) api.Control {
	return api.Control{
		Kind:  1 + r.Intn(2),
		From:  r.Intn(8),
		Cycle: r.Int63n(1<<50 + 1),
		Crew:  uint32(r.Intn(64)),
		Clear: r.Int63n(1<<20 + 1),
	}
}

func anyData(r *rand.Rand) api.Data {
	size := 64 + r.Intn(1455)
	if r.Intn(2) == 0 {
		size = 64 + r.Intn(4)
	}
	return api.Data{
		Class:   1 + r.Intn(3),
		Link:    r.Intn(256),
		Number:  int(r.Int31()),
		Payload: string(anyBytes(r, r.Intn(size-13))),
		Size:    size,
	}
}

// control changes a right control frame in one field.
func control(change func(*api.Control)) api.Control {
	c := api.Control{Kind: 1, From: 2, Cycle: 7, Crew: 5, Clear: 9}
	change(&c)
	return c
}

// data changes a right data frame in one field.
func data(change func(*api.Data)) api.Data {
	d := api.Data{Class: 2, Link: 3, Number: 4, Payload: "ab", Size: 64}
	change(&d)
	return d
}

// rightControls are right ones at the edges of each field.
func rightControls() []api.Control {
	return []api.Control{
		{Kind: 1}, {Kind: 2},
		{Kind: 1, From: 5}, {Kind: 1, From: 6}, {Kind: 2, From: 7},
		{Kind: 1, Cycle: 1}, {Kind: 1, Cycle: 255}, {Kind: 1, Cycle: 256}, {Kind: 1, Cycle: 1 << 32}, {Kind: 2, Cycle: 1<<50 - 1}, {Kind: 1, Cycle: 1 << 50},
		{Kind: 1, Crew: 1}, {Kind: 1, Crew: 32}, {Kind: 2, Crew: 63},
		{Kind: 1, Clear: 1}, {Kind: 1, Clear: 1<<20 - 1}, {Kind: 2, Clear: 1 << 20},
		{Kind: 1, From: 2, Cycle: 7, Crew: 5},
		{Kind: 2, From: 7, Cycle: 1 << 50, Crew: 63, Clear: 1 << 20},
	}
}

// wrongControls have one field out of its range each; what of it goes into the frame's bytes is out of it too.
func wrongControls() []api.Control {
	var l []api.Control
	for _, kind := range []int{0, 3, 4, 127, 128, 255, -1} {
		l = append(l, control(func(c *api.Control) { c.Kind = kind }))
	}
	for _, from := range []int{8, 9, 127, 128, 255, -1} {
		l = append(l, control(func(c *api.Control) { c.From = from }))
	}
	for _, cycle := range []int64{1<<50 + 1, 1 << 51, math.MaxInt64, math.MinInt64, -1, -7} {
		l = append(l, control(func(c *api.Control) { c.Cycle = cycle }))
	}
	for _, crew := range []uint32{64, 65, 128, 256, 1 << 31, math.MaxUint32} {
		l = append(l, control(func(c *api.Control) { c.Crew = crew }))
	}
	for _, wait := range []int64{1<<20 + 1, 1 << 21, 1 << 32, math.MaxInt64, math.MinInt64, -1} {
		l = append(l, control(func(c *api.Control) { c.Clear = wait }))
	}
	return l
}

// rightDatas are right ones at the edges of each field.
func rightDatas() []api.Data {
	return []api.Data{
		{Class: 1, Size: 64}, {Class: 2, Size: 64}, {Class: 3, Size: 64},
		{Class: 1, Size: 65}, {Class: 1, Size: 1517}, {Class: 1, Size: 1518},
		{Class: 1, Link: 1, Size: 64}, {Class: 1, Link: 254, Size: 64}, {Class: 1, Link: 255, Size: 64},
		{Class: 1, Number: 1, Size: 64}, {Class: 1, Number: 256, Size: 64}, {Class: 1, Number: 1<<31 - 2, Size: 64}, {Class: 1, Number: 1<<31 - 1, Size: 64},
		{Class: 3, Payload: "a", Size: 64}, {Class: 3, Payload: "\x00", Size: 64}, {Class: 3, Payload: "a\x00", Size: 64}, {Class: 3, Payload: "\xff\x80", Size: 64},
		{Class: 2, Payload: strings.Repeat("p", 49), Size: 64}, {Class: 2, Payload: strings.Repeat("p", 50), Size: 64},
		{Class: 2, Payload: strings.Repeat("\x00", 50), Size: 64}, {Class: 2, Payload: strings.Repeat("\xff", 51), Size: 65},
		{Class: 2, Payload: strings.Repeat("q", 255), Size: 300}, {Class: 2, Payload: strings.Repeat("q", 256), Size: 300}, {Class: 2, Payload: strings.Repeat("q", 1503), Size: 1518},
		{Class: 3, Link: 255, Number: 1<<31 - 1, Payload: strings.Repeat("z", 1504), Size: 1518},
	}
}

func TestSumP61(t *testing.T) {
	for _, c := range []struct {
		text string
		sum  uint32
	}{
		{"", 0}, {"123456789", 0xCBF43926}, {"\x00", 0xD202EF8D}, {"\xff", 0xFF000000}, {"a", 0xE8B7BE43},
	} {
		if s := Sum([]byte(c.text)); s != c.sum {
			t.Errorf("Sum(%q) = %08X, want %08X", c.text, s, c.sum)
		}
	}
	if s := Sum(nil); s != 0 {
		t.Errorf("Sum(nil) = %08X", s)
	}
	for i := range 256 {
		if b := []byte{byte(i)}; Sum(b) != crc32.ChecksumIEEE(b) {
			t.Errorf("Sum(%x) = %08X", b, Sum(b))
		}
	}
	r := rand.New(rand.NewSource(61))
	for range 2000 {
		if b := anyBytes(r, r.Intn(2000)); Sum(b) != crc32.ChecksumIEEE(b) {
			t.Fatalf("Sum(%x) = %08X", b, Sum(b))
		}
	}
}

func TestWhichP61(t *testing.T) {
	for _, c := range []struct {
		text string
		kind int
	}{
		{"", 0}, {"\x89", 0}, {"\x08", 0}, {"\x1d\x89", 0}, {"\x00\x08", 0}, {"\x89\x1c", 0}, {"\x88\x1d", 0}, {"\x08\x01", 0}, {"\x09\x00", 0}, {"\x00\x00", 0},
		{"\x89\x1d", 1}, {"\x89\x1d\x00", 1}, {"\x89\x1d\x08\x00", 1}, {"\x08\x00", 2}, {"\x08\x00\x89\x1d", 2}, {"\x00\x89\x1d", 0},
	} {
		if k := Which([]byte(c.text)); k != c.kind {
			t.Errorf("Which(%q) = %d, want %d", c.text, k, c.kind)
		}
	}
	if k := Which(nil); k != 0 {
		t.Errorf("Which(nil) = %d", k)
	}
	for i := range 1 << 16 {
		want := 0
		if i == 0x891D {
			want = 1
		} else if i == 0x0800 {
			want = 2
		}
		if k := Which([]byte{byte(i >> 8), byte(i)}); k != want {
			t.Errorf("Which(%04x) = %d", i, k)
		}
	}
	for _, c := range rightControls() {
		if b, _ := Control(c); Which(b) != 1 {
			t.Error(c)
		}
	}
	for _, d := range rightDatas() {
		if b, _ := Data(d); Which(b) != 2 {
			t.Error(d)
		}
	}
}

func TestTimeP61(t *testing.T) {
	for _, c := range []struct {
		size int
		want int64
	}{
		{math.MinInt, 512}, {-64, 512}, {-1, 512}, {0, 512}, {1, 512}, {10, 512}, {34, 512}, {63, 512}, {64, 512}, {65, 520},
		{1000, 8000}, {1517, 12136}, {1518, 12144}, {1519, 12144}, {9999, 12144}, {math.MaxInt, 12144},
	} {
		if n := Time(c.size); n != c.want {
			t.Errorf("Time(%d) = %d, want %d", c.size, n, c.want)
		}
	}
}

func TestControlP61(t *testing.T) {
	want := "\x89\x1d\x01\x02\x00\x00\x00\x00\x00\x00\x00\x07\x00\x00\x00\x05\x00\x00\x00\x00\x00\x00\x00\x00\x00\x00\x00\x00\x00\x00"
	if b, e := Control(api.Control{Kind: 1, From: 2, Cycle: 7, Crew: 5}); e != api.OK || !bytes.Equal(b, summed([]byte(want))) {
		t.Errorf("%x, %v", b, e)
	}
	c := api.Control{Kind: 2, From: 7, Cycle: 0x0102030405060, Crew: 0x2A, Clear: 0x0F0E0D}
	want = "\x89\x1d\x02\x07\x00\x00\x10\x20\x30\x40\x50\x60\x00\x00\x00\x2a\x00\x00\x00\x00\x00\x0f\x0e\x0d\x00\x00\x00\x00\x00\x00"
	if b, e := Control(c); e != api.OK || !bytes.Equal(b, summed([]byte(want))) {
		t.Errorf("%x, %v", b, e)
	}
	for _, c := range rightControls() {
		if b, e := Control(c); e != api.OK || len(b) != 34 || !bytes.Equal(b, controlBytes(c)) {
			t.Errorf("Control(%+v) = %x, %v", c, b, e)
		}
	}
	far := []api.Control{
		{}, {Kind: 257}, {Kind: math.MinInt}, {Kind: math.MaxInt}, {Kind: 1 + 1<<32},
		{Kind: 1, From: 256}, {Kind: 1, From: math.MinInt}, {Kind: 1, From: math.MaxInt}, {Kind: 1, From: 1 << 32},
	}
	for _, c := range append(far, wrongControls()...) {
		if b, e := Control(c); e != api.ErrArg || b != nil {
			t.Errorf("Control(%+v) = %x, %v", c, b, e)
		}
	}
}

func TestDataP61(t *testing.T) {
	b, e := Data(api.Data{Class: 3, Link: 0xAB, Number: 0x01020304, Payload: "xyz", Size: 64})
	want := "\x08\x00\x03\xab\x01\x02\x03\x04\x00\x03xyz" + strings.Repeat("\x00", 47)
	if e != api.OK || !bytes.Equal(b, summed([]byte(want))) {
		t.Errorf("%x, %v", b, e)
	}
	for _, d := range rightDatas() {
		if b, e := Data(d); e != api.OK || len(b) != d.Size || !bytes.Equal(b, dataBytes(d)) {
			t.Errorf("Data(%+v) = %x, %v", d, b, e)
		}
	}
	var wrong []api.Data
	for _, class := range []int{0, 4, 5, 255, 256, 257, -1, 1 + 1<<32, math.MinInt, math.MaxInt} {
		wrong = append(wrong, data(func(d *api.Data) { d.Class = class }))
	}
	for _, link := range []int{256, 257, 1 << 32, -1, math.MinInt, math.MaxInt} {
		wrong = append(wrong, data(func(d *api.Data) { d.Link = link }))
	}
	for _, number := range []int{1 << 31, 1<<32 - 1, 1 << 32, -1, math.MinInt, math.MaxInt} {
		wrong = append(wrong, data(func(d *api.Data) { d.Number = number }))
	}
	for _, size := range []int{63, 34, 16, 0, -1, 1519, 1 << 16, math.MinInt, math.MaxInt} {
		wrong = append(wrong, data(func(d *api.Data) { d.Size = size }))
	}
	for _, c := range []struct{ length, size int }{{51, 64}, {64, 64}, {52, 65}, {1504, 1517}, {1505, 1518}, {1 << 16, 1518}, {1<<16 + 2, 64}} {
		wrong = append(wrong, data(func(d *api.Data) { d.Payload, d.Size = strings.Repeat("p", c.length), c.size }))
	}
	for _, d := range append(wrong, api.Data{}, api.Data{Class: 1, Size: 63}) {
		if b, e := Data(d); e != api.ErrArg || b != nil {
			t.Errorf("Data(%+v) = %x, %v", d, b, e)
		}
	}
}

// refused holds that bytes are read neither as a control frame nor as a data frame, with the errors said.
func refused(t *testing.T, b []byte, asControl, asData api.Errno) {
	t.Helper()
	if c, e := ReadControl(b); c != (api.Control{}) || e != asControl {
		t.Errorf("ReadControl(%x) = %+v, %v, want %v", b, c, e, asControl)
	}
	if d, e := ReadData(b); d != (api.Data{}) || e != asData {
		t.Errorf("ReadData(%x) = %+v, %v, want %v", b, d, e, asData)
	}
}

func TestReadLengthsP61(t *testing.T) {
	refused(t, nil, api.ErrForm, api.ErrForm)
	for n := range 1600 {
		control, data := make([]byte, n), make([]byte, n)
		copy(control, "\x89\x1d")
		copy(data, "\x08\x00")
		asControl, asData := api.ErrForm, api.ErrForm
		if n == 34 {
			asControl = api.ErrSum
		}
		if n >= 64 && n <= 1518 {
			asData = api.ErrSum
		}
		refused(t, control, asControl, api.ErrForm)
		refused(t, data, api.ErrForm, asData)
	}
	whole := controlBytes(api.Control{Kind: 1})
	for _, n := range []int{0, 1, 2, 4, 30, 33} {
		refused(t, whole[:n], api.ErrForm, api.ErrForm)
	}
	refused(t, append(whole, 0), api.ErrForm, api.ErrForm)
	refused(t, summed(whole), api.ErrForm, api.ErrForm)
	refused(t, summed(whole[:29]), api.ErrForm, api.ErrForm)
	for _, d := range rightDatas()[:6] {
		b := dataBytes(d)
		for _, n := range []int{0, 1, 2, 4, 10, 14, 63} {
			refused(t, b[:n], api.ErrForm, api.ErrForm)
		}
	}
	short := data(func(d *api.Data) { d.Size = 63 })
	long := data(func(d *api.Data) { d.Size = 1519 })
	refused(t, dataBytes(short), api.ErrForm, api.ErrForm)
	refused(t, dataBytes(long), api.ErrForm, api.ErrForm)
}

func TestReadSumsP61(t *testing.T) {
	for _, c := range append(rightControls(), wrongControls()...) {
		b := controlBytes(c)
		for i := 30; i < 34; i++ {
			b[i] ^= 0x5A
			refused(t, b, api.ErrSum, api.ErrForm)
			b[i] ^= 0x5A
		}
		slices.Reverse(b[30:])
		refused(t, b, api.ErrSum, api.ErrForm)
	}
	for _, d := range rightDatas() {
		b := dataBytes(d)
		for i := len(b) - 4; i < len(b); i++ {
			b[i] ^= 0xA5
			refused(t, b, api.ErrForm, api.ErrSum)
			b[i] ^= 0xA5
		}
		slices.Reverse(b[len(b)-4:])
		refused(t, b, api.ErrForm, api.ErrSum)
	}
}

func TestReadMarksP61(t *testing.T) {
	bodies := [][]byte{controlBytes(api.Control{Kind: 1})[:30], dataBytes(api.Data{Class: 1, Size: 64})[:60]}
	for _, body := range bodies {
		for _, mark := range []string{"\x00\x00", "\x89\x1c", "\x88\x1d", "\x1d\x89", "\x09\x00", "\x08\x01", "\x00\x08", "\xff\xff"} {
			copy(body, mark)
			refused(t, summed(body), api.ErrForm, api.ErrForm)
		}
	}
	copy(bodies[0], "\x08\x00")
	refused(t, summed(bodies[0]), api.ErrForm, api.ErrForm)
	copy(bodies[1], "\x89\x1d")
	refused(t, summed(bodies[1]), api.ErrForm, api.ErrForm)
}

func TestReadControlFieldsP61(t *testing.T) {
	for _, c := range rightControls() {
		if got, e := ReadControl(controlBytes(c)); got != c || e != api.OK {
			t.Errorf("ReadControl of %+v = %+v, %v", c, got, e)
		}
		refused(t, controlBytes(c)[:30], api.ErrForm, api.ErrForm)
	}
	for _, c := range wrongControls() {
		refused(t, controlBytes(c), api.ErrForm, api.ErrForm)
	}
	for i := 24; i < 30; i++ {
		b := controlBytes(api.Control{Kind: 1})[:30]
		for _, x := range []byte{1, 0x80, 0xFF} {
			b[i] = x
			refused(t, summed(b), api.ErrForm, api.ErrForm)
		}
	}
}

func TestReadDataFieldsP61(t *testing.T) {
	for _, d := range rightDatas() {
		if got, e := ReadData(dataBytes(d)); got != d || e != api.OK {
			t.Errorf("ReadData of %+v = %+v, %v", d, got, e)
		}
	}
	for _, class := range []int{0, 4, 127, 128, 255} {
		refused(t, dataBytes(data(func(d *api.Data) { d.Class = class })), api.ErrForm, api.ErrForm)
	}
	for _, number := range []int{1 << 31, 1<<31 + 1, 1<<32 - 1} {
		refused(t, dataBytes(data(func(d *api.Data) { d.Number = number })), api.ErrForm, api.ErrForm)
	}
	for _, size := range []int{64, 65, 300, 1517, 1518} {
		for _, length := range []int{size - 13, size - 12, size - 10, size - 4, size, size + 1, 1504, 1505, 1 << 15, 1<<16 - 1} {
			b := make([]byte, size-4)
			copy(b, "\x08\x00\x01")
			binary.BigEndian.PutUint16(b[8:], uint16(length))
			if length > size-14 {
				refused(t, summed(b), api.ErrForm, api.ErrForm)
			}
		}
	}
}

func TestReadDataNoughtsP61(t *testing.T) {
	for _, d := range []api.Data{{Class: 1, Size: 64}, {Class: 2, Payload: "ab", Size: 64}, {Class: 3, Payload: strings.Repeat("p", 49), Size: 64}, {Class: 3, Payload: "pay", Size: 1518}} {
		body := dataBytes(d)[:d.Size-4]
		for i := 10 + len(d.Payload); i < len(body); i++ {
			for _, x := range []byte{1, 0x80} {
				body[i] = x
				refused(t, summed(body), api.ErrForm, api.ErrForm)
			}
			body[i] = 0
		}
	}
}

func TestThereAndBackP62(t *testing.T) {
	r := rand.New(rand.NewSource(62))
	for range 3000 {
		c := anyControl(r)
		b, e := Control(c)
		if e != api.OK || !bytes.Equal(b, controlBytes(c)) {
			t.Fatalf("Control(%+v) = %x, %v", c, b, e)
		}
		if got, e := ReadControl(b); got != c || e != api.OK {
			t.Fatalf("ReadControl(%x) = %+v, %v", b, got, e)
		}
		d := anyData(r)
		b, e = Data(d)
		if e != api.OK || !bytes.Equal(b, dataBytes(d)) {
			t.Fatalf("Data(%+v) = %x, %v", d, b, e)
		}
		if got, e := ReadData(b); got != d || e != api.OK {
			t.Fatalf("ReadData(%x) = %+v, %v", b, got, e)
		}
	}
}

// nearControl is a summed run of 34 bytes that is a right control frame or almost one.
func nearControl(r *rand.Rand) []byte {
	b := controlBytes(anyControl(r))[:30]
	for range r.Intn(3) {
		b[r.Intn(30)] = byte(r.Intn(256) >> r.Intn(8))
	}
	return summed(b)
}

// nearData is a summed run of bytes that is a right data frame or almost one.
func nearData(r *rand.Rand) []byte {
	d := anyData(r)
	d.Size = max(64, min(d.Size, 14+len(d.Payload)+r.Intn(3)))
	b := dataBytes(d)[:d.Size-4]
	for range r.Intn(3) {
		b[r.Intn(11)] = byte(r.Intn(256) >> r.Intn(8))
	}
	return summed(b)
}

func TestBackAndThereP62(t *testing.T) {
	r := rand.New(rand.NewSource(63))
	counts := map[api.Errno]int{}
	for range 20000 {
		b := nearControl(r)
		c, e := ReadControl(b)
		counts[e]++
		if again, _ := Control(c); e == api.OK && !bytes.Equal(again, b) {
			t.Fatalf("ReadControl(%x) = %+v, which is written as %x", b, c, again)
		}
		if e != api.OK && (e != api.ErrForm || c != (api.Control{})) {
			t.Fatalf("ReadControl(%x) = %+v, %v", b, c, e)
		}
	}
	for range 3000 {
		b := nearData(r)
		d, e := ReadData(b)
		counts[e]++
		if again, _ := Data(d); e == api.OK && !bytes.Equal(again, b) {
			t.Fatalf("ReadData(%x) = %+v, which is written as %x", b, d, again)
		}
		if e != api.OK && (e != api.ErrForm || d != (api.Data{})) {
			t.Fatalf("ReadData(%x) = %+v, %v", b, d, e)
		}
	}
	if counts[api.OK] < 1000 || counts[api.ErrForm] < 1000 {
		t.Error(counts)
	}
}

func TestOneBitP63(t *testing.T) {
	r := rand.New(rand.NewSource(64))
	controls := rightControls()
	for range 20 {
		controls = append(controls, anyControl(r))
	}
	for _, c := range controls {
		b, _ := Control(c)
		for bit := range 8 * len(b) {
			b[bit/8] ^= 1 << (bit % 8)
			if got, e := ReadControl(b); got != (api.Control{}) || e != oneBit(bit) {
				t.Fatalf("ReadControl(%x) = %+v, %v", b, got, e)
			}
			b[bit/8] ^= 1 << (bit % 8)
		}
	}
	for _, d := range append(rightDatas()[:19], rightDatas()[24]) {
		b, _ := Data(d)
		for bit := range 8 * len(b) {
			b[bit/8] ^= 1 << (bit % 8)
			if got, e := ReadData(b); got != (api.Data{}) || e != oneBit(bit) {
				t.Fatalf("ReadData(%x) = %+v, %v", b, got, e)
			}
			b[bit/8] ^= 1 << (bit % 8)
		}
	}
}

// oneBit is the error of a frame in which that bit is another: with one in the first two bytes it doesn't begin as one.
func oneBit(bit int) api.Errno {
	if bit < 16 {
		return api.ErrForm
	}
	return api.ErrSum
}

func TestAnyBytesR1(t *testing.T) {
	r := rand.New(rand.NewSource(65))
	for range 3000 {
		b := anyBytes(r, r.Intn(1600))
		if r.Intn(2) == 0 {
			b = b[:min(len(b), r.Intn(80))]
		}
		copy(b, []string{"\x89\x1d", "\x08\x00", ""}[r.Intn(3)])
		asControl, asData := api.ErrForm, api.ErrForm
		if len(b) == 34 && Which(b) == 1 {
			asControl = api.ErrSum
		}
		if len(b) >= 64 && len(b) <= 1518 && Which(b) == 2 {
			asData = api.ErrSum
		}
		refused(t, b, asControl, asData)
	}
}

func TestBytesAreLeftR3(t *testing.T) {
	for _, frame := range [][]byte{controlBytes(api.Control{Kind: 1, Clear: 5}), dataBytes(api.Data{Class: 2, Payload: "pay", Size: 64})} {
		room := append(slices.Clone(frame), "spare room beyond the frame"...)
		had := slices.Clone(room)
		b := room[:len(frame)]
		Sum(b)
		Which(b)
		ReadControl(b)
		ReadData(b)
		if !bytes.Equal(room, had) {
			t.Errorf("%x became %x", had, room)
		}
	}
}

func TestAnswersAreNewR3(t *testing.T) {
	c := api.Control{Kind: 1, From: 2, Cycle: 7, Crew: 5}
	d := api.Data{Class: 2, Payload: "pay", Size: 64}
	one, _ := Control(c)
	two, _ := Control(c)
	three, _ := Data(d)
	four, _ := Data(d)
	for _, b := range [][]byte{one, three} {
		b = b[:cap(b)]
		for i := range b {
			b[i] = 0xEE
		}
	}
	if !bytes.Equal(two, controlBytes(c)) || !bytes.Equal(four, dataBytes(d)) {
		t.Error("two answers share memory")
	}
	got, _ := ReadData(four)
	for i := range four {
		four[i] = 0xEE
	}
	if got != d {
		t.Errorf("the payload changed with the bytes that it was read of: %+v", got)
	}
}
