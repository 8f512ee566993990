package conf_test

import (
	"math"
	"strings"
	"testing"

	"sheetpile/api"
	"sheetpile/conf"
)

// may is P12.1's words.
func may(c api.Conf) bool {
	switch {
	case c.K < 1 || c.K > 254:
		return false
	case c.M < 1 || c.M > 254 || c.K+c.M > 255:
		return false
	case c.Shard < 8 || c.Shard > 1024:
		return false
	case c.Stripes < 1 || c.Stripes > 1000:
		return false
	case c.Slots < 1 || c.Slots > 16:
		return false
	}
	return c.K*c.Shard <= 4000
}

// edges are layouts whose numbers stand at their bounds, just outside, and
// far outside.
func edges() []api.Conf {
	var all []api.Conf
	for _, k := range []int{math.MinInt, -1, 0, 1, 2, 3, 4, 5, 16, 128, 250, 251, 254, 255, 256, 65537, 1 << 62, math.MaxInt} {
		for _, m := range []int{math.MinInt, -1, 0, 1, 2, 4, 5, 127, 128, 253, 254, 255, 256, 65537, math.MaxInt} {
			for _, shard := range []int{-8, 0, 7, 8, 9, 15, 16, 800, 801, 1000, 1001, 1023, 1024, 1025, 65544, math.MaxInt} {
				for _, stripes := range []int{-1, 0, 1, 2, 999, 1000, 1001, 65537} {
					for _, slots := range []int{-1, 0, 1, 2, 15, 16, 17, 65537} {
						all = append(all, api.Conf{K: k, M: m, Shard: shard, Stripes: stripes, Slots: slots})
					}
				}
			}
		}
	}
	return all
}

// some are layouts that may be.
func some() []api.Conf {
	return []api.Conf{
		{K: 2, M: 1, Shard: 8, Stripes: 4, Slots: 2},
		{K: 1, M: 1, Shard: 8, Stripes: 1, Slots: 1},
		{K: 1, M: 254, Shard: 1024, Stripes: 1000, Slots: 16},
		{K: 254, M: 1, Shard: 15, Stripes: 1000, Slots: 1},
		{K: 254, M: 1, Shard: 8, Stripes: 1, Slots: 16},
		{K: 4, M: 251, Shard: 1000, Stripes: 999, Slots: 15},
		{K: 3, M: 2, Shard: 1024, Stripes: 256, Slots: 3},
		{K: 250, M: 5, Shard: 16, Stripes: 257, Slots: 7},
		{K: 128, M: 127, Shard: 31, Stripes: 17, Slots: 5},
	}
}

func TestCheckOfEachBound(t *testing.T) { // P12.1
	c := api.Conf{K: 2, M: 3, Shard: 8, Stripes: 4, Slots: 2}
	for _, x := range []struct {
		name        string
		least, most int
		with        func(n int) api.Conf
	}{
		{"K", 1, 252, func(n int) api.Conf { d := c; d.K = n; return d }},
		{"M", 1, 253, func(n int) api.Conf { d := c; d.M = n; return d }},
		{"Shard", 8, 1024, func(n int) api.Conf { d := c; d.Shard = n; return d }},
		{"Stripes", 1, 1000, func(n int) api.Conf { d := c; d.Stripes = n; return d }},
		{"Slots", 1, 16, func(n int) api.Conf { d := c; d.Slots = n; return d }},
	} {
		for _, n := range []int{x.least, x.least + 1, (x.least + x.most) / 2, x.most - 1, x.most} {
			if err := conf.Check(x.with(n)); err != api.OK {
				t.Errorf("%s %d: %d", x.name, n, err)
			}
		}
		for _, n := range []int{x.least - 1, x.most + 1, 0, -1, -x.most, 65536 + x.least, 1<<32 + x.least, math.MinInt, math.MaxInt} {
			if err := conf.Check(x.with(n)); err != api.ErrArg {
				t.Errorf("%s %d: %d", x.name, n, err)
			}
		}
	}
}

func TestCheckOfKTimesShard(t *testing.T) { // P12.1
	for _, c := range []struct {
		k, shard int
		want     api.Errno
	}{
		{1, 1024, api.OK}, {2, 1024, api.OK}, {3, 1024, api.OK}, {4, 1024, api.ErrArg},
		{4, 1000, api.OK}, {4, 999, api.OK}, {4, 1001, api.ErrArg}, {5, 800, api.OK}, {5, 801, api.ErrArg},
		{16, 250, api.OK}, {16, 251, api.ErrArg}, {17, 250, api.ErrArg}, {125, 32, api.OK}, {126, 32, api.ErrArg}, {125, 33, api.ErrArg},
		{250, 16, api.OK}, {251, 16, api.ErrArg}, {250, 17, api.ErrArg}, {254, 15, api.OK}, {254, 16, api.ErrArg},
		{254, 8, api.OK}, {254, 1024, api.ErrArg}, {31, 129, api.OK}, {129, 31, api.OK}, {3, 1023, api.OK}, {4001, 1, api.ErrArg}, {1, 4000, api.ErrArg},
	} {
		if err := conf.Check(api.Conf{K: c.k, M: 1, Shard: c.shard, Stripes: 1, Slots: 1}); err != c.want {
			t.Errorf("%d times %d: %d", c.k, c.shard, err)
		}
	}
	for k := 1; k <= 254; k++ {
		for shard := 8; shard <= 1024; shard++ {
			if err := conf.Check(api.Conf{K: k, M: 1, Shard: shard, Stripes: 1, Slots: 1}); (err == api.OK) != (k*shard <= 4000) {
				t.Errorf("%d times %d: %d", k, shard, err)
			}
		}
	}
}

func TestCheckOfKAndM(t *testing.T) { // P12.1
	for k := -2; k < 260; k++ {
		for m := -2; m < 260; m++ {
			want := api.ErrArg
			if k >= 1 && m >= 1 && k+m <= 255 {
				want = api.OK
			}
			if err := conf.Check(api.Conf{K: k, M: m, Shard: 8, Stripes: 1, Slots: 1}); err != want {
				t.Errorf("K %d, M %d: %d", k, m, err)
			}
		}
	}
}

// isNothing asks for 0 and ErrArg of a layout that may not be.
func isNothing(t *testing.T, c api.Conf) {
	t.Helper()
	if err := conf.Check(c); err != api.ErrArg {
		t.Errorf("Check(%v): %d", c, err)
	}
	if conf.Disks(c) != 0 || conf.Sectors(c) != 0 || conf.Size(c) != 0 || conf.Capacity(c) != 0 {
		t.Errorf("%v: %d, %d, %d, %d", c, conf.Disks(c), conf.Sectors(c), conf.Size(c), conf.Capacity(c))
	}
	for _, n := range []int{-1, 0, 1, 5000, math.MinInt, math.MaxInt} {
		if conf.Slot(c, n) != 0 || conf.Stripe(c, n) != 0 {
			t.Errorf("%v: Slot and Stripe of %d: %d, %d", c, n, conf.Slot(c, n), conf.Stripe(c, n))
		}
	}
	if s, err := conf.Write(c); s != "" || err != api.ErrArg {
		t.Errorf("Write(%v): %q, %d", c, s, err)
	}
}

// isRight asks for the chapter's words of a layout that may be.
func isRight(t *testing.T, c api.Conf) {
	t.Helper()
	if err := conf.Check(c); err != api.OK {
		t.Errorf("Check(%v): %d", c, err)
	}
	if n := conf.Disks(c); n != c.K+c.M {
		t.Errorf("Disks(%v): %d", c, n)
	}
	if n := conf.Sectors(c); n != 1+c.Slots+c.Stripes {
		t.Errorf("Sectors(%v): %d", c, n)
	}
	if n := conf.Size(c); n != c.K*c.Shard+42 {
		t.Errorf("Size(%v): %d", c, n)
	}
	if n := conf.Capacity(c); n != c.K*c.Shard-4 {
		t.Errorf("Capacity(%v): %d", c, n)
	}
	if s, err := conf.Write(c); s != written(c) || err != api.OK {
		t.Errorf("Write(%v): %q, %d", c, s, err)
	}
	if d, err := conf.Read(written(c)); d != c || err != api.OK {
		t.Errorf("Read of %v: %v, %d", c, d, err)
	}
}

// written is P12.4's words, of any layout whose numbers go into 2 bytes.
func written(c api.Conf) string {
	s := "CONF"
	for _, n := range []int{c.K, c.M, c.Shard, c.Stripes, c.Slots} {
		s += string([]byte{byte(n % 256), byte(n / 256)})
	}
	return s
}

func TestEdges(t *testing.T) { // P12.1, P12.2, P12.4, R2, R3
	right := 0
	for _, c := range edges() {
		if may(c) {
			isRight(t, c)
			right++
		} else {
			isNothing(t, c)
		}
	}
	if right == 0 {
		t.Error("none of the edges may be")
	}
	isNothing(t, api.Conf{})
}

func TestSome(t *testing.T) { // P12.2, P12.4, R6
	for _, c := range some() {
		isRight(t, c)
		isRight(t, c)
	}
}

func TestByHand(t *testing.T) { // P12.2, P12.4
	c := api.Conf{K: 2, M: 1, Shard: 8, Stripes: 4, Slots: 2}
	if conf.Disks(c) != 3 || conf.Sectors(c) != 7 || conf.Size(c) != 58 || conf.Capacity(c) != 12 {
		t.Errorf("the chapter's example: %d, %d, %d, %d", conf.Disks(c), conf.Sectors(c), conf.Size(c), conf.Capacity(c))
	}
	c = api.Conf{K: 3, M: 252, Shard: 1024, Stripes: 999, Slots: 16}
	if conf.Disks(c) != 255 || conf.Sectors(c) != 1016 || conf.Size(c) != 3114 || conf.Capacity(c) != 3068 {
		t.Errorf("a great one: %d, %d, %d, %d", conf.Disks(c), conf.Sectors(c), conf.Size(c), conf.Capacity(c))
	}
	if s, err := conf.Write(c); s != "CONF\x03\x00\xFC\x00\x00\x04\xE7\x03\x10\x00" || err != api.OK {
		t.Errorf("Write of a great one: %q, %d", s, err)
	}
}

func TestSlot(t *testing.T) { // P12.3
	for _, c := range some() {
		for seq := range 50 {
			if n := conf.Slot(c, seq); n != 1+seq%c.Slots {
				t.Errorf("Slot(%v, %d): %d", c, seq, n)
			}
		}
		last := c.Slots - 1
		for seq, want := range map[int]int{
			0: 1, last: 1 + last, c.Slots: 1, c.Slots + last: 1 + last, 1000 * c.Slots: 1,
			c.Slots << 40: 1, c.Slots<<40 + last: 1 + last, math.MaxInt: 1 + math.MaxInt%c.Slots, math.MaxInt - 1: 1 + (math.MaxInt-1)%c.Slots, 1<<56 - 1: 1 + (1<<56-1)%c.Slots,
			-1: -1, -2: -1, -c.Slots: -1, -1000 * c.Slots: -1, math.MinInt: -1, math.MinInt + 1: -1,
		} {
			if n := conf.Slot(c, seq); n != want {
				t.Errorf("Slot(%v, %d): %d instead of %d", c, seq, n, want)
			}
		}
	}
}

func TestStripe(t *testing.T) { // P12.3
	for _, c := range some() {
		for n := range c.Stripes {
			if s := conf.Stripe(c, n); s != 1+c.Slots+n {
				t.Errorf("Stripe(%v, %d): %d", c, n, s)
			}
		}
		for _, n := range []int{-1, -2, -c.Slots - 1, -c.Stripes, c.Stripes, c.Stripes + 1, 2 * c.Stripes, 1 << 32, math.MinInt, math.MaxInt} {
			if s := conf.Stripe(c, n); s != -1 {
				t.Errorf("Stripe(%v, %d): %d", c, n, s)
			}
		}
	}
}

func TestSectorsAreOfOneEach(t *testing.T) { // P12.5
	for _, c := range some() {
		owners := make([]int, conf.Sectors(c))
		owners[0]++ // the layout's own
		own := func(sector int) {
			if sector < 1 || sector >= len(owners) {
				t.Errorf("%v: sector %d of %d", c, sector, len(owners))
				return
			}
			owners[sector]++
		}
		for seq := range c.Slots {
			own(conf.Slot(c, seq))
		}
		for n := range c.Stripes {
			own(conf.Stripe(c, n))
		}
		for sector, many := range owners {
			if many != 1 {
				t.Errorf("%v: sector %d is of %d", c, sector, many)
			}
		}
	}
}

// refuses asks for ErrForm.
func refuses(t *testing.T, s string) {
	t.Helper()
	if c, err := conf.Read(s); c != (api.Conf{}) || err != api.ErrForm {
		t.Errorf("Read(%.60q): %v, %d", s, c, err)
	}
}

func TestReadOfACutOrLongerText(t *testing.T) { // P12.4, R3
	for _, c := range some() {
		s := written(c)
		for i := range s {
			refuses(t, s[:i])
			refuses(t, s[i+1:])
			refuses(t, s[:i]+s[i+1:])
		}
		for _, more := range []string{"\x00", "a", "\x00\x00", "\x01\x00", "\xFF", s, strings.Repeat("\x00", 99)} {
			refuses(t, s+more)
			refuses(t, more+s)
			refuses(t, s[:4]+more+s[4:])
		}
	}
}

func TestReadOfAnotherBeginning(t *testing.T) { // P12.4, R3
	s := written(some()[0])
	for i := range 4 {
		for bits := 1; bits < 256; bits++ {
			x := []byte(s)
			x[i] ^= byte(bits)
			refuses(t, string(x))
		}
	}
	for _, begin := range []string{"", "conf", "CON", "CONFCONF", "FNOC", "\x00\x00\x00\x00", "SPL\x00", "CONG", " CONF"} {
		refuses(t, begin+s[4:])
	}
	// A layout's numbers that look like its beginning, and are no beginning.
	refuses(t, "CONF")
	refuses(t, "CONFCONF")
	refuses(t, "CONFCONFCONFCO")
}

func TestReadOfALayoutThatMayNotBe(t *testing.T) { // P12.4, R3
	for _, c := range edges() {
		goes := true
		for _, n := range []int{c.K, c.M, c.Shard, c.Stripes, c.Slots} {
			goes = goes && n >= 0 && n < 65536
		}
		if goes && !may(c) {
			refuses(t, written(c))
		}
	}
	refuses(t, written(api.Conf{}))
	refuses(t, "CONF"+strings.Repeat("\xFF", 10))
	refuses(t, "CONF\x00\x02\x00\x01\x00\x08\x00\x04\x00\x02") // the highest byte first
}

func TestReadOfATurnedBit(t *testing.T) { // P12.4
	for _, c := range some() {
		s := written(c)
		for i := range 8 * len(s) {
			x := []byte(s)
			x[i/8] ^= 1 << (i % 8)
			at := func(i int) int { return int(x[i]) + 256*int(x[i+1]) }
			d := api.Conf{K: at(4), M: at(6), Shard: at(8), Stripes: at(10), Slots: at(12)}
			if i/8 < 4 || !may(d) {
				refuses(t, string(x))
				continue
			}
			if got, err := conf.Read(string(x)); got != d || err != api.OK {
				t.Errorf("Read(%q): %v, %d", x, got, err)
			}
		}
	}
}
