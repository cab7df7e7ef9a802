package message_test

import (
	"strings"
	"testing"

	"embrasure/api"
)

// The chapter's table, told in another way than the program's: texts of 0 and 1, that messages are laid out as and read from.

// part is a field: its name, how many bits it has, whether it is signed, and from where to where it may be, as it stands in the bits.
type part struct {
	name        string
	bits        int
	signed      bool
	least, most int64
}

const far = 1<<31 - 1

func parts(kind int) []part {
	prov, seq := part{"Prov", 16, false, 0, 65535}, part{"Seq", 16, false, 0, 65535}
	id := part{"ID", 31, false, 1, far}
	switch kind {
	case 2:
		return []part{{"Cmd.Seq", 16, false, 0, 65535}, {"Cmd.Buttons", 2, false, 0, 3}, {"Cmd.Dx", 8, true, -128, 127}, {"Cmd.Dy", 8, true, -128, 127}, {"Cmd.Ticks", 3, false, 0, 7}}
	case 3:
		return append([]part{prov, {"Shot", 1, false, 0, 1}}, axes("Dir", 18, 65536, 65536)...)
	case 5:
		return []part{id}
	case 6:
		return append(append([]part{seq}, axes("Pos", 32, far+1, far)...), axes("Vel", 32, far+1, far)...)
	case 7:
		return []part{prov, id}
	case 8:
		return []part{prov, {"Why", 4, false, 1, 10}}
	case 9:
		return []part{{"Tick", 32, false, 0, 1<<32 - 1}, {"Base", 32, false, 0, 1<<32 - 1}, {"Bytes", 10, false, 0, 1023}}
	}
	return nil
}

func axes(name string, bits int, down, up int64) []part {
	return []part{{name + ".X", bits, true, -down, up}, {name + ".Y", bits, true, -down, up}, {name + ".Z", bits, true, -down, up}}
}

// names are all fields there are, but Kind.
func names() []string {
	return strings.Fields("Seq Cmd.Seq Cmd.Buttons Cmd.Dx Cmd.Dy Cmd.Ticks Prov ID Shot Dir.X Dir.Y Dir.Z Why Pos.X Pos.Y Pos.Z Vel.X Vel.Y Vel.Z Tick Base Bytes")
}

// set lays a number into the field of that name, as it stands in the bits: Ticks less one, and of Bytes how many there are.
func set(m *api.Message, name string, n int64) {
	switch name {
	case "Seq":
		m.Seq = uint16(n)
	case "Cmd.Seq":
		m.Cmd.Seq = uint16(n)
	case "Cmd.Buttons":
		m.Cmd.Buttons = uint8(n)
	case "Cmd.Dx":
		m.Cmd.Dx = int8(n)
	case "Cmd.Dy":
		m.Cmd.Dy = int8(n)
	case "Cmd.Ticks":
		m.Cmd.Ticks = int(n + 1)
	case "Prov":
		m.Prov = uint16(n)
	case "ID":
		m.ID = int(n)
	case "Shot":
		m.Shot = int(n)
	case "Why":
		m.Why = api.Errno(n)
	case "Tick":
		m.Tick = uint32(n)
	case "Base":
		m.Base = uint32(n)
	case "Bytes":
		m.Bytes = mixed(int(n), int(n))
	default:
		*axis(m, name) = n
	}
}

// get is what set lays in.
func get(m api.Message, name string) int64 {
	switch name {
	case "Seq":
		return int64(m.Seq)
	case "Cmd.Seq":
		return int64(m.Cmd.Seq)
	case "Cmd.Buttons":
		return int64(m.Cmd.Buttons)
	case "Cmd.Dx":
		return int64(m.Cmd.Dx)
	case "Cmd.Dy":
		return int64(m.Cmd.Dy)
	case "Cmd.Ticks":
		return int64(m.Cmd.Ticks) - 1
	case "Prov":
		return int64(m.Prov)
	case "ID":
		return int64(m.ID)
	case "Shot":
		return int64(m.Shot)
	case "Why":
		return int64(m.Why)
	case "Tick":
		return int64(m.Tick)
	case "Base":
		return int64(m.Base)
	case "Bytes":
		return int64(len(m.Bytes))
	}
	return *axis(&m, name)
}

func axis(m *api.Message, name string) *int64 {
	v := map[string]*api.Vec{"Dir": &m.Dir, "Pos": &m.Pos, "Vel": &m.Vel}[name[:3]]
	return map[string]*int64{".X": &v.X, ".Y": &v.Y, ".Z": &v.Z}[name[3:]]
}

// mixed is so many bytes of all sorts, another row for each seed.
func mixed(size, seed int) []byte {
	b := make([]byte, size)
	n := uint32(seed)*2654435761 + 1
	for i := range b {
		n = n*1664525 + 1013904223
		b[i] = byte(n >> 24)
	}
	return b
}

// digits is the lowest bits of n as a text, the highest first.
func digits(n int64, count int) string {
	var s strings.Builder
	for i := count - 1; i >= 0; i-- {
		s.WriteByte('0' + byte(n>>i&1))
	}
	return s.String()
}

// packed is the bytes of a text, filled up with 0.
func packed(text string) []byte {
	text += strings.Repeat("0", (8-len(text)%8)%8)
	var b []byte
	for ; text != ""; text = text[8:] {
		n := 0
		for _, c := range text[:8] {
			n = 2*n + int(c-'0')
		}
		b = append(b, byte(n))
	}
	return b
}

// laid is the text of messages that are right.
func laid(l []api.Message) string {
	var s strings.Builder
	s.WriteString(digits(int64(len(l)), 5))
	for _, m := range l {
		s.WriteString(digits(int64(m.Kind), 4))
		for _, p := range parts(m.Kind) {
			s.WriteString(digits(get(m, p.name), p.bits))
		}
		for _, x := range m.Bytes {
			s.WriteString(digits(int64(x), 8))
		}
	}
	return s.String()
}

// value is the number that a text of 0 and 1 is.
func value(p part, text string) int64 {
	var n int64
	for _, c := range text {
		n = 2*n + int64(c-'0')
	}
	if p.signed && text[0] == '1' {
		n -= 1 << p.bits
	}
	return n
}

// told is what Decode must answer: it stops at the first number that is wrong, or lacking.
func told(b []byte) ([]api.Message, api.Errno) {
	var all strings.Builder
	for _, x := range b {
		all.WriteString(digits(int64(x), 8))
	}
	text, err := all.String(), api.OK
	next := func(p part) int64 {
		if err != api.OK {
			return 0
		}
		if len(text) < p.bits {
			err = api.ErrShort
			return 0
		}
		n := value(p, text[:p.bits])
		text = text[p.bits:]
		if n < p.least || n > p.most {
			err = api.ErrForm
		}
		return n
	}
	var l []api.Message
	count := next(part{"", 5, false, 0, 16})
	for i := int64(0); i < count && err == api.OK; i++ {
		m := api.Message{Kind: int(next(part{"", 4, false, 1, 9}))}
		for _, p := range parts(m.Kind) {
			set(&m, p.name, next(p))
		}
		for j := range m.Bytes {
			m.Bytes[j] = byte(next(part{"", 8, false, 0, 255}))
		}
		l = append(l, m)
	}
	if err == api.OK && (len(text) >= 8 || strings.Contains(text, "1") || len(b) > 1024) {
		err = api.ErrForm
	}
	if err != api.OK {
		return nil, err
	}
	return l, err
}

// same holds messages against each other field by field; Bytes that are nil and that are empty are the same.
func same(a, b []api.Message) bool {
	if len(a) != len(b) {
		return false
	}
	for i := range a {
		if a[i].Kind != b[i].Kind || string(a[i].Bytes) != string(b[i].Bytes) {
			return false
		}
		for _, name := range names() {
			if get(a[i], name) != get(b[i], name) {
				return false
			}
		}
	}
	return true
}

// plain is one message of a kind, that is right, with all fields of its kind other than nought; each turn has others.
func plain(kind, turn int) api.Message {
	m := api.Message{Kind: kind}
	for i, p := range parts(kind) {
		span := p.most - p.least + 1
		n := p.least + (int64(turn+1)*int64(i+3)*2654435761)%span
		if p.name == "Bytes" {
			n = n%40 + 1
		}
		if n == 0 {
			n = p.most
		}
		set(&m, p.name, n)
	}
	return m
}

// rows are lists of messages of every kind, alone and together.
func rows() [][]api.Message {
	l := [][]api.Message{nil}
	for turn := range 30 {
		var all []api.Message
		for kind := 1; kind <= 9; kind++ {
			all = append(all, plain(kind, turn))
			l = append(l, []api.Message{plain(kind, turn)})
		}
		var many []api.Message
		for i := range turn%16 + 1 {
			many = append(many, plain((i*i+turn)%9+1, i))
		}
		l = append(l, all, many)
	}
	return l
}

// TestModel looks over what the others lean on.
func TestModel(t *testing.T) {
	for _, l := range rows() {
		m, err := told(packed(laid(l)))
		if err != api.OK || !same(m, l) {
			t.Fatalf("%v: %v %v", l, m, err)
		}
	}
	for _, name := range names() {
		var m api.Message
		set(&m, name, 1)
		if get(m, name) != 1 || same([]api.Message{m}, []api.Message{{}}) {
			t.Errorf("%s is not seen", name)
		}
	}
}
