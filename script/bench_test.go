package script_test

import (
	"encoding/hex"
	"fmt"
	"math"
	"math/big"
	"reflect"
	"regexp"
	"slices"
	"strings"
	"testing"

	"parapet/api"
	"parapet/script"
)

const (
	h = api.AtHost
	d = api.AtDevice

	top   = math.MaxInt64
	least = math.MinInt64

	// most is the greatest number of a text.
	most = math.MaxUint32
)

// seven is the chapter's set.
var seven = api.Param{Code: 7, Out: 2, In: 1, Watch: 10, Count: 100}

// spec is the chapter's line of the table of lines: a kind, its first word, and what stands behind it.
type spec struct {
	kind   api.MoveKind
	first  string
	places []string
}

// specs: of the table; hold, which may be missing, stands apart.
var specs = []spec{
	{api.MoveWrite, "write", []string{"Conn", "Side", "Data"}},
	{api.MoveSend, "send", []string{"Conn"}},
	{api.MoveDeliver, "deliver", []string{"Conn", "Side", "Frame"}},
	{api.MoveGarble, "garble", []string{"Conn", "Side", "Frame", "At", "Word"}},
	{api.MoveTick, "tick", []string{"Conn", "Side", "N"}},
	{api.MoveAck, "ack", []string{"Conn", "Side"}},
	{api.MoveReset, "reset", []string{"Conn", "Side", "N"}},
	{api.MoveCut, "cut", []string{"Conn", "N"}},
}

// specOf is that of a kind; of one that is none, what Move looks at nevertheless.
func specOf(k api.MoveKind) (spec, bool) {
	for _, s := range specs {
		if s.kind == k {
			return s, true
		}
	}
	return spec{kind: k, places: []string{"Conn", "Side"}}, false
}

func (s spec) has(place string) bool { return slices.Contains(s.places, place) }

// field is what a move has in a place, as %v writes it.
func field(m api.Move, place string) reflect.Value { return reflect.ValueOf(m).FieldByName(place) }

// wantMove: the chapter's words on Move, the faults in their order.
func wantMove(m api.Move) (string, api.Errno) {
	s, known := specOf(m.Kind)
	for _, place := range s.places {
		if place == "Side" || place == "Data" || place == "Word" {
			continue
		}
		if n := field(m, place).Int(); n < 0 || n > most {
			return "", api.ErrRange
		}
	}
	if s.has("Side") && m.Side != h && m.Side != d {
		return "", api.ErrSide
	}
	if s.has("Data") && len(m.Data) > 8 {
		return "", api.ErrLength
	}
	if !known {
		return "", api.ErrMove
	}
	line := s.first
	for _, place := range s.places {
		switch place {
		case "Side":
			line += map[api.Side]string{h: " h", d: " d"}[m.Side]
		case "Data":
			line += fmt.Sprintf(" x%x", m.Data)
		default:
			line += fmt.Sprintf(" %v", field(m, place))
		}
	}
	if s.has("Data") && m.Hold {
		line += " hold"
	}
	return line, api.OK
}

var (
	numberForm = regexp.MustCompile(`\A(?:0|[1-9][0-9]*)\z`)
	sideForm   = regexp.MustCompile(`\A[hd]\z`)
	dataForm   = regexp.MustCompile(`\Ax(?:[0-9a-f][0-9a-f]){0,8}\z`)
)

// wantNumber: the chapter's words on a number.
func wantNumber(word string) (uint32, bool) {
	if len(word) > 100 || !numberForm.MatchString(word) {
		return 0, false
	}
	n, _ := new(big.Int).SetString(word, 10)
	if n.Cmp(big.NewInt(most)) > 0 {
		return 0, false
	}
	return uint32(n.Uint64()), true
}

// put sets what stands in a place; false: the word isn't what is wanted there.
func put(m *api.Move, place, word string) bool {
	switch place {
	case "Side":
		m.Side = map[string]api.Side{"h": h, "d": d}[word]
		return sideForm.MatchString(word)
	case "Data":
		if !dataForm.MatchString(word) {
			return false
		}
		m.Data, _ = hex.DecodeString(word[1:])
		return true
	}
	n, ok := wantNumber(word)
	if v := reflect.ValueOf(m).Elem().FieldByName(place); v.CanInt() {
		v.SetInt(int64(n))
	} else {
		v.SetUint(uint64(n))
	}
	return ok
}

// wantRead: the chapter's words on Read, the faults in their order.
func wantRead(words []string) (api.Move, api.Errno) {
	if len(words) == 0 {
		return api.Move{}, api.ErrFew
	}
	i := slices.IndexFunc(specs, func(s spec) bool { return s.first == words[0] })
	if i < 0 {
		return api.Move{}, api.ErrWord
	}
	s, words := specs[i], words[1:]
	if len(words) < len(s.places) {
		return api.Move{}, api.ErrFew
	}
	if len(words) > len(s.places)+1 || len(words) > len(s.places) && !s.has("Data") {
		return api.Move{}, api.ErrMany
	}
	m := api.Move{Kind: s.kind}
	for k, place := range s.places {
		if !put(&m, place, words[k]) {
			return api.Move{}, api.ErrValue
		}
	}
	if len(words) > len(s.places) {
		if words[len(s.places)] != "hold" {
			return api.Move{}, api.ErrValue
		}
		m.Hold = true
	}
	return m, api.OK
}

// isNetWord: does a net's line begin with it?
func isNetWord(word string) bool { return word == "net" || word == "host" || word == "device" }

// wantHead: the chapter's words on Head.
func wantHead(n api.Net, words []string) (api.Net, bool, api.Errno) {
	if len(words) == 0 || !isNetWord(words[0]) {
		return n, false, api.OK
	}
	wanted := map[string]int{"net": 1, "host": 5, "device": 5}[words[0]]
	if len(words)-1 < wanted {
		return n, true, api.ErrFew
	}
	if len(words)-1 > wanted {
		return n, true, api.ErrMany
	}
	var v []uint32
	for _, word := range words[1:] {
		x, ok := wantNumber(word)
		if !ok {
			return n, true, api.ErrValue
		}
		v = append(v, x)
	}
	switch words[0] {
	case "net":
		n.MaxSession = v[0]
	case "host":
		n.Hosts = append(slices.Clone(n.Hosts), setOf(v))
	default:
		n.Devices = append(slices.Clone(n.Devices), setOf(v))
	}
	return n, true, api.OK
}

func setOf(v []uint32) api.Param {
	return api.Param{Code: v[0], Out: int(v[1]), In: int(v[2]), Watch: int(v[3]), Count: v[4]}
}

// wantWords: the chapter's words on Words, byte by byte.
func wantWords(line string) []string {
	var words []string
	inside := false
	for i := 0; i < len(line) && line[i] != '#'; i++ {
		if line[i] == 0x20 || line[i] == 0x09 || line[i] == 0x0d {
			inside = false
			continue
		}
		if !inside {
			words = append(words, "")
		}
		inside = true
		words[len(words)-1] += line[i : i+1]
	}
	return words
}

// parsed is what Parse answers.
type parsed struct {
	net   api.Net
	moves []api.Move
	at    int
	e     api.Errno
}

// wantParse: the chapter's words on Parse.
func wantParse(text string) parsed {
	if len(text) > 262144 {
		return parsed{e: api.ErrLines}
	}
	var p parsed
	for i, line := range strings.Split(text, "\n") {
		words := wantWords(line)
		switch {
		case len(line) > 1024:
			p.e = api.ErrLines
		case len(words) == 0:
		case len(p.moves) == 0 && isNetWord(words[0]):
			p.net, _, p.e = wantHead(p.net, words)
		default:
			var m api.Move
			m, p.e = wantRead(words)
			p.moves = append(p.moves, m)
		}
		if p.e != api.OK {
			return parsed{at: i + 1, e: p.e}
		}
	}
	return p
}

func parse(text string) parsed {
	var p parsed
	p.net, p.moves, p.at, p.e = script.Parse(text)
	return p
}

// Nothing and a list without elements are the same (R5).

func sameMove(a, b api.Move) bool {
	if len(a.Data) == 0 && len(b.Data) == 0 {
		a.Data, b.Data = nil, nil
	}
	return reflect.DeepEqual(a, b)
}

func sameMoves(a, b []api.Move) bool { return slices.EqualFunc(a, b, sameMove) }

func sameNet(a, b api.Net) bool {
	return slices.Equal(a.Hosts, b.Hosts) && slices.Equal(a.Devices, b.Devices) && a.MaxSession == b.MaxSession
}

func (p parsed) same(q parsed) bool {
	return sameNet(p.net, q.net) && sameMoves(p.moves, q.moves) && p.at == q.at && p.e == q.e
}

// saysMove: Move, held against the chapter's words.
func saysMove(t *testing.T, m api.Move) {
	t.Helper()
	line, e := script.Move(m)
	if want, wrong := wantMove(m); line != want || e != wrong {
		t.Fatalf("P20.1: Move(%+v): %q, %d, not %q, %d", m, line, e, want, wrong)
	}
}

func saysRead(t *testing.T, words ...string) {
	t.Helper()
	m, e := script.Read(words)
	if want, wrong := wantRead(words); !sameMove(m, want) || e != wrong {
		t.Fatalf("P20.3: Read(%q): %+v, %d, not %+v, %d", words, m, e, want, wrong)
	}
}

func saysHead(t *testing.T, n api.Net, words ...string) {
	t.Helper()
	got, is, e := script.Head(n, words)
	if want, isOne, wrong := wantHead(n, words); !sameNet(got, want) || is != isOne || e != wrong {
		t.Fatalf("P20.3: Head(%+v, %q): %+v, %v, %d, not %+v, %v, %d", n, words, got, is, e, want, isOne, wrong)
	}
}

func saysParse(t *testing.T, text string) {
	t.Helper()
	if got, want := parse(text), wantParse(text); !got.same(want) {
		t.Fatalf("P20.4: Parse(%s): %s, not %s", short(text), short(got), short(want))
	}
}

// short is how a thing is told that may be great.
func short(x any) string {
	text := fmt.Sprintf("%+v", x)
	if s, ok := x.(string); ok {
		text = fmt.Sprintf("%q", s)
	}
	if len(text) > 600 {
		return text[:600] + " .."
	}
	return text
}

// chance gives numbers that look like chance, the same in each run.
type chance struct{ at uint64 }

func (c *chance) next() uint64 {
	c.at += 0x9e3779b97f4a7c15
	x := c.at
	x = (x ^ x>>30) * 0xbf58476d1ce4e5b9
	x = (x ^ x>>27) * 0x94d049bb133111eb
	return x ^ x>>31
}

func (c *chance) below(n int) int { return int(c.next() % uint64(n)) }

// one of a list.
func one[V any](c *chance, list []V) V { return list[c.below(len(list))] }

// number of a text: small ones, the edges, and any.
func (c *chance) number() int {
	switch c.below(4) {
	case 0:
		return c.below(12)
	case 1:
		return one(c, []int{0, 1, most - 1, most, 1 << 31, 1<<31 - 1, 9, 10, 99, 100})
	}
	return c.below(1 << c.below(33))
}

func (c *chance) bytes(n int) []byte {
	b := make([]byte, n)
	for i := range b {
		b[i] = byte(c.next())
	}
	return b
}

// move of a text; what its kind doesn't use is zero.
func (c *chance) move() api.Move {
	s := one(c, specs)
	m := api.Move{Kind: s.kind, Conn: c.number()}
	if s.has("Side") {
		m.Side = one(c, []api.Side{h, d})
	}
	if s.has("Data") {
		m.Data, m.Hold = c.bytes(c.below(9)), c.below(2) == 0
	}
	if s.has("Frame") {
		m.Frame = c.number()
	}
	if s.has("At") {
		m.At = c.number()
	}
	if s.has("N") {
		m.N = c.number()
	}
	if s.has("Word") {
		m.Word = uint32(c.number())
	}
	return m
}

// messed: the same move, with anything in what its kind doesn't use.
func (c *chance) messed(m api.Move) api.Move {
	s, _ := specOf(m.Kind)
	wild := []int{least, -1, 0, 1, most, most + 1, top}
	if !s.has("Side") {
		m.Side = one(c, []api.Side{least, -1, 0, h, d, 3, top})
	}
	if !s.has("Frame") {
		m.Frame = one(c, wild)
	}
	if !s.has("At") {
		m.At = one(c, wild)
	}
	if !s.has("Word") {
		m.Word = uint32(c.next())
	}
	if !s.has("N") {
		m.N = one(c, wild)
	}
	if !s.has("Data") {
		m.Data, m.Hold = c.bytes(c.below(20)), c.below(2) == 0
	}
	return m
}

// set: a lawful one.
func (c *chance) set() api.Param {
	return api.Param{
		Code: max(1, uint32(c.number())), Out: 1 + c.below(8), In: 1 + c.below(8),
		Watch: one(c, []int{1, 2, 10, 1<<20 - 1, 1 << 20, 1 + c.below(1<<20)}), Count: max(2, uint32(c.number())),
	}
}

func (c *chance) sets(n int) []api.Param {
	var list []api.Param
	for range n {
		list = append(list, c.set())
	}
	return list
}

// net of lawful sets, not always one that a world takes.
func (c *chance) net() api.Net {
	return api.Net{Hosts: c.sets(c.below(5)), Devices: c.sets(c.below(5)), MaxSession: uint32(c.number())}
}

func (c *chance) moves(n int) []api.Move {
	var list []api.Move
	for range n {
		list = append(list, c.move())
	}
	return list
}
