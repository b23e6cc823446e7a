package udk_test

import (
	"encoding/hex"
	"fmt"
	"maps"
	"math"
	"math/rand"
	"regexp"
	"slices"
	"strconv"
	"strings"
	"testing"

	"phosphor/api"
	"phosphor/udk"
)

// What follows tells by the document's words, apart from the package, what keys are, and what data define.

// all are the numbers of the keys.
var all = []int{17, 18, 19, 20, 21, 23, 24, 25, 26, 28, 29, 31, 32, 33, 34}

var form = regexp.MustCompile(`^0*([0-9]+)/((?:[0-9A-Fa-f]{2})*)$`)

// model are keys: the texts of those that have one, and whether they are locked.
type model struct {
	texts  map[int]string
	locked bool
}

func (m model) used() int {
	n := 0
	for _, text := range m.texts {
		n += len(text)
	}
	return n
}

// define are the keys behind a call, and what that answers.
func (m model) define(clear, lock bool, data string) (model, api.Errno) {
	next := model{maps.Clone(m.texts), m.locked}
	if clear || next.texts == nil {
		next.texts = map[int]string{}
	}
	for _, one := range strings.Split(data, ";") {
		if one == "" {
			continue
		}
		parts := form.FindStringSubmatch(one)
		if parts == nil {
			return m, api.ErrForm
		}
		key, err := strconv.Atoi(parts[1])
		if err != nil || !slices.Contains(all, key) {
			return m, api.ErrForm
		}
		text, _ := hex.DecodeString(parts[2])
		next.texts[key] = string(text)
		if len(text) == 0 {
			delete(next.texts, key)
		}
	}
	if next.used() > 804 {
		return m, api.ErrFull
	}
	if m.locked {
		return m, api.ErrLocked
	}
	next.locked = lock
	return next, api.OK
}

// asked are all numbers that a test asks keys for.
var asked = append([]int{math.MinInt, -1 << 32, -17, -1, math.MaxInt, 256 + 17, 1<<32 + 17, -1<<32 + 18, 1<<16 + 20, 1<<63 - 256 + 34}, upTo(64)...)

func upTo(n int) []int {
	var list []int
	for i := range n {
		list = append(list, i)
	}
	return list
}

// check holds keys against the model.
func check(t *testing.T, promise, when string, k *udk.Keys, m model) {
	t.Helper()
	for _, key := range asked {
		want, has := m.texts[key]
		if got, ok := k.Get(key); got != want || ok != has {
			t.Fatalf("%s: %s: Get(%d) = %q, %v, not %q, %v", promise, when, key, got, ok, want, has)
		}
	}
	if ids := k.Ids(); !slices.Equal(ids, slices.Sorted(maps.Keys(m.texts))) {
		t.Fatalf("%s: %s: Ids = %v, not those of %v", promise, when, ids, m.texts)
	}
	if space := k.Space(); space != 804-m.used() || space < 0 {
		t.Fatalf("P21.3: %s: Space = %d, not %d", when, space, 804-m.used())
	}
	if k.Locked() != m.locked {
		t.Fatalf("%s: %s: Locked = %v, not %v", promise, when, k.Locked(), m.locked)
	}
}

// short is a text, as it is shown in a test's report.
func short(s string) string {
	if len(s) > 80 {
		return fmt.Sprintf("%q .. (%d bytes)", s[:80], len(s))
	}
	return strconv.Quote(s)
}

// define does the same with keys and with the model, and holds them against each other.
func define(t *testing.T, k *udk.Keys, m model, clear, lock bool, data string) model {
	t.Helper()
	next, errno := m.define(clear, lock, data)
	when := fmt.Sprintf("Define(%v, %v, %s)", clear, lock, short(data))
	if e := k.Define(clear, lock, data); e != errno {
		t.Fatalf("P21.1: %s of %v = %d, not %d", when, m, e, errno)
	}
	check(t, "P21.1", "behind "+when, k, next)
	return next
}

// begun are some keys, and the same ones as a model.
func begun(data string, lock bool) (*udk.Keys, model) {
	var k udk.Keys
	m, _ := model{}.define(false, lock, data)
	k.Define(false, lock, data)
	return &k, m
}

var starts = []string{"", "17/41", "17/41;18/4243;34/FF00", "17/" + strings.Repeat("78", 804), "20/" + strings.Repeat("78", 400) + ";34/" + strings.Repeat("79", 403)}

// checkData defines some data in all ways, on all starts.
func checkData(t *testing.T, data string) {
	t.Helper()
	for _, start := range starts {
		for way := range 8 {
			k, m := begun(start, way&1 != 0)
			check(t, "P21.2", "at the start", k, m)
			define(t, k, m, way&2 != 0, way&4 != 0, data)
		}
	}
}

func TestZero(t *testing.T) {
	var k udk.Keys
	check(t, "P21.2", "the zero Keys", &k, model{})
	if !k.Same(&udk.Keys{}) || !k.Same(k.Clone()) {
		t.Errorf("P21.2: the zero Keys aren't like others")
	}
}

func TestEveryNumberIsOneOfAKeyOrNone(t *testing.T) {
	for n := range 1200 {
		decimal := strconv.Itoa(n)
		for _, digits := range []string{decimal, "0" + decimal, strings.Repeat("0", 300) + decimal} {
			k, m := begun("17/41;34/42", false)
			define(t, k, m, n%2 == 0, false, digits+"/61")
		}
	}
	far := []string{"65553", "65536", "4294967313", "18446744073709551633", "18446744073709551634", "9223372036854775807", "9223372036854775808", "340282366920938463463374607431768211473", strings.Repeat("9", 400), "17" + strings.Repeat("0", 400)}
	for _, digits := range far {
		checkData(t, digits+"/61")
	}
}

func TestData(t *testing.T) {
	for _, data := range []string{
		"", ";", ";;;", ";17/41;", ";;17/41;;18/42;;", "17/", "17/;18/", "17/41;17/", "17/;17/41", "17/41;17/42;17/43", "34/61;17/62", "17/00", "17/0a0B", "17/fFFf", "17/3B", "17/2F",
		"17", "17;", "/", "/41", "/;", "17/4", "17/414", "17/4g", "17/41/", "17//41", "17/41/42", "17:41", "17,41", "17 /41", "17/ 41", "17/41 ", " 17/41", "17/41,18/42", "17/4 1",
		"+17/41", "-17/41", "-0/41", "1_7/41", "1e1/41", "0x11/41", "0b10001/41", "0o21/41", "17.0/41", "١٧/41", "１７/41", "17/４１", "17/+1", "17/-1", "17/0x41", "17/4_1",
		"17/41;22/42", "22/42;17/41", "17/41;18", "18;17/41", "17/41;x", "17/41;/", "17/41;18/4", "16/41", "35/41", "22/41", "27/41", "30/41", "0/41", "1/41",
		"17/41\n", "17/41;\n", "\n17/41", "17/41\x00", "17\x00/41", "17/\x00", "é", "17/é",
	} {
		checkData(t, data)
	}
}

func TestShortData(t *testing.T) {
	some := []string{"1", "17", "/", ";", "4", "41", "0", "x", "22"}
	list := []string{""}
	for range 5 {
		var longer []string
		for _, data := range list {
			for _, part := range some {
				longer = append(longer, data+part)
			}
		}
		for _, data := range longer {
			k, m := begun("17/6162;18/63", false)
			define(t, k, m, len(data)%2 == 0, false, data)
		}
		list = longer
	}
}

func TestEveryByteInEveryPlace(t *testing.T) {
	const data = "17/41;018/4243"
	for c := range 256 {
		one := string([]byte{byte(c)})
		for at := range len(data) + 1 {
			k, m := begun("17/61;20/62", false)
			m = define(t, k, m, false, false, data[:at]+one+data[at:])
			if at < len(data) {
				define(t, k, m, true, true, data[:at]+one+data[at+1:])
			}
		}
	}
}

func TestSpace(t *testing.T) {
	for _, n := range []int{0, 1, 401, 402, 403, 404, 803, 804, 805, 806, 1608, 5000} {
		text := strings.Repeat("5a", n)
		for _, data := range []string{
			"17/" + text, "18/" + text, "34/" + text, "17/" + text + ";18/41", "18/41;17/" + text, "17/" + text + ";17/41", "17/" + text + ";17/", "17/" + text + ";18/" + text, "17/" + text + ";18/" + text + ";17/", "17/" + text + ";22/41", "17/" + text + ";18/4", "22/" + text, "17/" + text + ";34/", "20/;34/;17/" + text,
		} {
			checkData(t, data)
		}
	}
	k, m := begun("17/"+strings.Repeat("41", 800), false)
	m = define(t, k, m, false, false, "18/42424242")
	m = define(t, k, m, false, false, "19/43")
	m = define(t, k, m, false, false, "18/424242;19/43")
	m = define(t, k, m, false, false, "19/;20/44")
	m = define(t, k, m, true, false, "21/"+strings.Repeat("45", 805))
	m = define(t, k, m, true, false, "21/"+strings.Repeat("45", 804))
	define(t, k, m, true, false, "")
}

func TestAllKeysAtOnce(t *testing.T) {
	var parts []string
	for i, key := range all {
		parts = append(parts, strconv.Itoa(key)+"/"+strings.Repeat(fmt.Sprintf("%02x", key), 53+i/14))
	}
	k, m := begun(strings.Join(parts, ";"), false)
	check(t, "P21.1", "all keys", k, m)
	if k.Space() != 8 || !slices.Equal(k.Ids(), all) {
		t.Errorf("P21.3: of all keys Space = %d, Ids = %v", k.Space(), k.Ids())
	}
	slices.Reverse(parts)
	l, n := begun(strings.Join(parts, ";"), false)
	check(t, "P21.1", "all keys, from the last one on", l, n)
	if !k.Same(l) {
		t.Errorf("P21.2: the order of definitions shows")
	}
}

func TestTheLeastErrorIsTold(t *testing.T) {
	full := "18/" + strings.Repeat("41", 805)
	for _, x := range []struct {
		locked bool
		data   string
		want   api.Errno
	}{
		{false, "17/4;" + full, api.ErrForm}, {false, full + ";17/4", api.ErrForm}, {true, "17/4;" + full, api.ErrForm}, {true, full + ";22/", api.ErrForm}, {true, "x", api.ErrForm},
		{false, full, api.ErrFull}, {true, full, api.ErrFull}, {true, "17/41", api.ErrLocked}, {true, "", api.ErrLocked}, {true, ";", api.ErrLocked}, {true, "17/", api.ErrLocked}, {false, "17/41", api.OK}, {false, "", api.OK},
	} {
		for way := range 4 {
			k, m := begun("17/61", x.locked)
			if e := k.Define(way&1 != 0, way&2 != 0, x.data); e != x.want {
				t.Errorf("P21.1: Define(%s) = %d, not %d (locked: %v)", short(x.data), e, x.want, x.locked)
			} else if e != api.OK {
				check(t, "P21.1", "behind an error", k, m)
			}
		}
	}
}

func TestTheLock(t *testing.T) {
	k, m := begun("17/61", false)
	for _, on := range []bool{true, true, false, false, true} {
		k.Lock(on)
		m.locked = on
		check(t, "P21.2", "behind Lock", k, m)
		m = define(t, k, m, false, false, "18/62;17/")
		m = define(t, k, m, true, false, "19/63;17/61")
	}
	k.Lock(false)
	m.locked = false
	m = define(t, k, m, false, true, "22/")
	m = define(t, k, m, false, true, "20/"+strings.Repeat("00", 900))
	m = define(t, k, m, false, false, "20/41")
	m = define(t, k, m, false, true, "")
	define(t, k, m, false, false, "20/42")
}

func TestClear(t *testing.T) {
	for _, start := range starts {
		for _, locked := range []bool{false, true} {
			k, _ := begun(start, locked)
			k.Clear()
			check(t, "P21.2", "behind Clear", k, model{nil, locked})
			k.Clear()
			k.Lock(false)
			define(t, k, model{}, false, true, "34/41;17/42")
		}
	}
}

func TestClone(t *testing.T) {
	for _, start := range starts {
		for _, locked := range []bool{false, true} {
			k, m := begun(start, locked)
			l := k.Clone()
			check(t, "P21.2", "a clone", l, m)
			if l == k || !l.Same(k) || !k.Same(l) {
				t.Errorf("P21.2: a clone of %s isn't like it", short(start))
			}
			l.Lock(false)
			l.Define(true, !locked, "25/616263")
			check(t, "P21.2", "behind a change of a clone", k, m)
			k.Clear()
			k.Lock(locked)
			check(t, "P21.2", "a clone behind a change", l, model{map[int]string{25: "abc"}, !locked})
		}
	}
}

func TestSame(t *testing.T) {
	list := []string{"", "17/41", "17/4100", "17/42", "17/00", "18/41", "34/41", "17/41;18/41", "17/41;34/41", "17/41;18/42", "17/4142", "17/;18/41", "17/41;18/"}
	for _, one := range list {
		for _, other := range list {
			for way := range 4 {
				k, m := begun(one, way&1 != 0)
				l, n := begun(other, way&2 != 0)
				want := m.locked == n.locked && maps.Equal(m.texts, n.texts)
				if k.Same(l) != want || l.Same(k) != want {
					t.Errorf("P21.2: Same of %q and %q isn't %v (way %d)", one, other, want, way)
				}
			}
		}
	}
	k, _ := begun("17/41;18/42", false)
	l, _ := begun("17/61", false)
	l.Define(true, false, "18/42")
	l.Define(false, false, "17/41")
	if !k.Same(l) || !k.Same(k) {
		t.Errorf("P21.2: Same hangs on how the texts came")
	}
}

func TestIdsAreNewMemory(t *testing.T) {
	k, m := begun("17/41;18/42;34/43", false)
	one, other := k.Ids(), k.Ids()
	clear(one[:cap(one)])
	if !slices.Equal(other, []int{17, 18, 34}) {
		t.Errorf("rule 5: Ids = %v", other)
	}
	check(t, "P21.2", "behind a change of Ids", k, m)
}

func TestManyCalls(t *testing.T) {
	r := rand.New(rand.NewSource(21))
	sizes := []int{0, 0, 1, 2, 5, 50, 100, 300, 803, 804, 805}
	for range 300 {
		k, m := new(udk.Keys), model{}
		for range 60 {
			switch r.Intn(12) {
			case 0:
				k.Clear()
				m.texts = nil
			case 1, 2, 3:
				m.locked = r.Intn(4) == 0
				k.Lock(m.locked)
			case 4:
				k = k.Clone()
			default:
				var parts []string
				for range r.Intn(5) {
					key := all[r.Intn(len(all))]
					if r.Intn(12) == 0 {
						key = r.Intn(60)
					}
					parts = append(parts, strconv.Itoa(key)+"/"+strings.Repeat(fmt.Sprintf("%02X", r.Intn(256)), sizes[r.Intn(len(sizes))]))
				}
				m = define(t, k, m, r.Intn(3) == 0, r.Intn(8) == 0, strings.Join(parts, ";"))
			}
			check(t, "P21.2", "among many calls", k, m)
		}
	}
}

func TestExample(t *testing.T) {
	var k udk.Keys
	if e := k.Define(false, true, "17/41;18/4243"); e != api.OK {
		t.Errorf("P21.1: Define = %d", e)
	}
	six, _ := k.Get(17)
	seven, _ := k.Get(18)
	if six != "A" || seven != "BC" || k.Space() != 801 || !k.Locked() {
		t.Errorf("P21.1: Get = %q, %q", six, seven)
	}
	if e := k.Define(false, false, "17/44"); e != api.ErrLocked {
		t.Errorf("P21.1: Define = %d, not ErrLocked", e)
	}
	if e := k.Define(true, true, "22/41"); e != api.ErrForm {
		t.Errorf("P21.1: Define = %d, not ErrForm", e)
	}
}
