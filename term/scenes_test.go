package term_test

import (
	"fmt"
	"strings"
	"testing"

	"phosphor/rend"
	"phosphor/term"
)

// A scene is what comes to a new terminal of 3 rows, 8 columns, 2 pages; what one looks at then, with the cursor's place (and w, if its Wrap is true; o, if it counts from the margins); and what was answered. An escape is written ␛.
type scene struct {
	in, shown, answers string
}

func raw(s string) string {
	return strings.ReplaceAll(s, "␛", "\x1b")
}

func shown(u *term.Terminal) string {
	c := u.Core().Cursor
	s := fmt.Sprintf("%s @%d,%d", glyphsOf(u.Book().Sheet()), c.Row, c.Col)
	if c.Wrap {
		s += "w"
	}
	if c.Origin {
		s += "o"
	}
	return s
}

func play(t *testing.T, scenes []scene) {
	t.Helper()
	for _, s := range scenes {
		u := fresh(t, 3, 8, 2)
		answers := string(u.Feed([]byte(raw(s.in))))
		if got := shown(u); got != s.shown {
			t.Errorf("%q: %q, not %q", s.in, got, s.shown)
		}
		if answers != raw(s.answers) {
			t.Errorf("%q: answered %q, not %q", s.in, answers, raw(s.answers))
		}
	}
}

// margins are rows 2 and 3, and columns 3 to 6.
const margins = "␛[?69h␛[2;3r␛[3;6s"

// status has one look at the status line.
const status = "␛[2$~␛[1$}"

func TestExamplesOfTheWhole(t *testing.T) {
	play(t, []scene{
		{"abcdefghij", "abcdefgh/ij/ @1,2", ""},
		{"␛[2;3Hx␛[6n", "/  x/ @1,3", "␛[2;4R"},
		{"␛(0lqk", "┌─┐// @0,3", ""},
		{"␛[2;3r␛[?6h␛[9;9Hx", "//       x @2,7wo", ""},
		{"ab␛[1Dc", "ac// @0,2", ""},
		{"␛[1\"qkeep␛[0\"q lose␛[?2J", "keep// @1,1", ""},
		{"␛P1;1;1!z6162!3;63;␛\\␛[1*z", "abccc// @0,5", ""},
		{"␛[65;1;1;1;3$x␛[7;1;1;1;1;3*y", "AAA// @0,0", "␛P7!~FF3D␛\\"},
		{"␛[61\"p␛[65;1;1;1;3$x", "// @0,0", ""},
		{"␛[2$~␛[1$}up␛[0$}x", "x// @0,1", ""},
		{"ab␛[6n", "ab// @0,2", "␛[1;3R"},
		{"␛[?6h␛[?6$p", "// @0,0o", "␛[?6;1$y"},
	})
}

func TestWriting(t *testing.T) {
	play(t, []scene{
		{"", "// @0,0", ""},
		{"a\x07\x05b", "ab// @0,2", ""},
		{"abcdefgh", "abcdefgh// @0,7w", ""},
		{"␛[?7labcdefghij", "abcdefgj// @0,7", ""},
		{"abcd\r␛[4hxy␛[4lz", "xyzbcd// @0,3", ""}, // pushed on twice, then written over
		{"1\r\n2\r\n3\r\nabcdefghi", "3/abcdefgh/i @2,1", ""},
		{"\xe9\xff\xa0x", "é x// @0,3", ""},
		{"\xa6x", "�x// @0,2", ""},
		{"\x18\x01x\x7f", "x// @0,1", ""},
		{"a\x1ab", "a⸮b// @0,3", ""},
		{"␛[?7labcdefgh\x1a", "abcdefg⸮// @0,7", ""},
		{"ab\r␛[4h\x1a", "⸮ab// @0,1", ""},
		{"abcdefgh\x1a", "abcdefgh/⸮/ @1,1", ""},
		{"a␛]x\x07␛_y␛\\␛^z␛\\␛Xz␛\\", "a// @0,1", ""},
		{"␛[?z␛#9␛!q␛Pq␛\\␛[99$q", "// @0,0", ""},
	})
}

func TestRepeated(t *testing.T) {
	play(t, []scene{
		{"␛[b", "// @0,0", ""},
		{"ab␛[b", "abb// @0,3", ""},
		{"ab␛[0b", "abb// @0,3", ""},
		{"ab␛[3b", "abbbb// @0,5", ""},
		{"a␛[99b", "aaaaaaaa/a/ @1,1", ""}, // as often as there are columns
		{"␛[?7lab␛[99b", "abbbbbbb// @0,7", ""},
		{"abcd\r␛[4h␛[2b", "ddabcd// @0,2", ""},
		{"a\x1a␛[b", "a⸮a// @0,3", ""},
		{"a\r\n␛[2J␛[b", "/a/ @1,1", ""},
		{"␛(0q␛(B␛[2b", "───// @0,3", ""},
		{"a␛[!p␛[b", "aa// @0,2", ""},
		{"a␛c␛[b", "// @0,0", ""},
		{"a␛[64\"p␛[b", "a// @0,1", ""},
		{"a" + status + "␛[9b", "aaaaaaaa @0,7w", ""},
	})
}

func TestSets(t *testing.T) {
	play(t, []scene{
		{"␛)0\x0eq\x0fq", "─q// @0,2", ""},
		{"␛*0␛nq\x0fq", "─q// @0,2", ""},
		{"␛+0␛oq\x0fq", "─q// @0,2", ""},
		{"␛)0␛~\xf1␛}\xf1␛+>␛|\xe1", "─ñα// @0,3", ""},
		{"␛NAA␛OAA", "ÁAÁA// @0,4", ""},
		{"␛*0␛+>␛Nqq␛Oaa", "─qαa// @0,4", ""},
		{"␛N\x1aq", "⸮ñ// @0,2", ""},               // SUB doesn't use up what is single
		{"␛*0␛N\x7f\x1f\x18q", "─// @0,1", ""},     // nor do a control, or what is nothing
		{"␛*0␛Nq␛N ␛N\xffq", "─ q// @0,3", ""},     // a code without a glyph does
		{"␛-A\x0ea", "á// @0,1", ""},               // a set of 96
		{"␛.A␛NA␛/A␛OB", "ÁÂ// @0,2", ""},          // as G2 and G3
		{"␛(K~␛(B~", "ß~// @0,2", ""},              // as G0
		{"␛(0␛(!qq", "─// @0,1", ""},               // an id of no set
		{"␛(0␛(%6q[␛(B[", "qÃ[// @0,3", ""},        // an id of two bytes
		{"␛[61\"p␛*0␛-0␛+0␛nq", "q// @0,1", ""},    // no such functions at level 1
		{"␛[62\"p␛*0␛-A␛nq\x0eA", "─A// @0,2", ""}, // nor all of them at 2
	})
}

func TestFeeding(t *testing.T) {
	play(t, []scene{
		{"ab\ncd", "ab/  cd/ @1,4", ""},
		{"ab\x0bcd", "ab/  cd/ @1,4", ""},
		{"ab\x0ccd", "ab/  cd/ @1,4", ""},
		{"␛[20hab\ncd\x0be\x0cf", "cd/e/f @2,1", ""},
		{"a\r\nb\r\nc\r\nd", "b/c/d @2,1", ""},
		{"ab␛Dc", "ab/  c/ @1,3", ""},
		{"␛[20hab␛Dc", "ab/  c/ @1,3", ""},
		{"ab␛Ec", "ab/c/ @1,1", ""},
		{"ab␛Mc", "  c/ab/ @0,3", ""},
		{"ab\r\n␛Mc", "cb// @0,1", ""},
		{"abcdefgh\nx", "abcdefgh/       x/ @1,7w", ""},
		{"abcdefgh\rx", "xbcdefgh// @0,1", ""},
		{"abcd\r␛6x", "xabcd// @0,1", ""},
		{"abcd␛6x", "abcx// @0,4", ""},
		{"abcd␛9x", "abcd x// @0,6", ""},
		{"abcdefgh␛9x", "bcdefghx// @0,7w", ""},
		{"␛[63\"pab␛6␛9c", "abc// @0,3", ""},
		{"a\r\nb\r\nc␛[2;3r␛[3;1H\nx", "a/c/x @2,1", ""},
		{margins + "␛[2;3Hab␛[3;3Hcd\nx", "/  cd/    x @2,5", ""},
		{margins + "␛[3;3Hcd␛Ex", "/  cd/  x @2,3", ""},
		{margins + "␛[2;3Hab␛Mx", "/    x/  ab @1,5", ""},
		{margins + "␛[2;3Hab\r␛6x", "/  xab/ @1,3", ""},
		{margins + "␛[2;6Ha␛[2;6H␛9x", "/    ax/ @1,5w", ""},
		{margins + "␛[2;3Habcdefg", "/  abcd/  efg @2,5", ""},
	})
}

func TestStops(t *testing.T) {
	const two = "␛[3G␛H␛[5G␛H\r"
	play(t, []scene{
		{"a\tb", "a      b// @0,7w", ""},
		{two + "a\tb\tc", "a b c// @0,5", ""},
		{two + "\t\t\t\tx", "       x// @0,7w", ""},
		{two + "␛[2Ix", "    x// @0,5", ""},
		{two + "␛[Ix", "  x// @0,3", ""},
		{two + "␛[0Ix", "  x// @0,3", ""},
		{two + "␛[99Ix", "       x// @0,7w", ""},
		{two + "␛[8G␛[Zx", "    x// @0,5", ""},
		{two + "␛[8G␛[2Zx", "  x// @0,3", ""},
		{two + "␛[8G␛[9Zx", "x// @0,1", ""},
		{two + "abcdefgh\tx", "abcdefgx// @0,7w", ""},
		{two + "abcdefgh␛[Zx", "abcdxfgh// @0,5", ""},
		{two + "␛[3G␛[g\r\tx", "    x// @0,5", ""},
		{two + "␛[3G␛[0g␛[5G␛[2g␛[1g\r\tx", "    x// @0,5", ""},
		{two + "␛[3g\r\tx", "       x// @0,7w", ""},
		{two + "␛c\tx", "       x// @0,7w", ""},
		{two + "␛[!p\tx", "  x// @0,3", ""},
		{two + status + "\tx", "  x @0,3", ""},
		{margins + "\t␛[6n\t␛[6n", "// @0,5", "␛[1;6R␛[1;6R"},
		{margins + "␛[1;7H\t", "// @0,7", ""},
		{margins + "␛[1;6H\t", "// @0,5", ""},
		{margins + "␛[1;8H␛[9Z", "// @0,2", ""},
		{margins + "␛[1;3H␛[Z", "// @0,2", ""},
		{margins + "␛[1;2H␛[Z", "// @0,0", ""},
		{"␛#6\t", "// @0,3", ""},
		{"␛[64\"pab␛[I␛[Zc", "abc// @0,3", ""},
	})
	u := fresh(t, 1, 20, 1)
	u.Feed([]byte("\x1b[6G\x1bH\x1b[17G\x1b[g"))
	if got := fmt.Sprint(u.Tabs()); got != "[5 8]" {
		t.Errorf("stops %s", got)
	}
}

func TestMoves(t *testing.T) {
	play(t, []scene{
		{"abc\b\bx", "axc// @0,2", ""},
		{"\b\bx", "x// @0,1", ""},
		{"abcdefgh\bx", "abcdefxh// @0,7", ""},
		{"␛[3;5H␛[A", "// @1,4", ""},
		{"␛[3;5H␛[2A", "// @0,4", ""},
		{"␛[3;5H␛[99A", "// @0,4", ""},
		{"␛[3;5H␛[0A", "// @1,4", ""},
		{"␛[B", "// @1,0", ""},
		{"␛[2B", "// @2,0", ""},
		{"␛[99B", "// @2,0", ""},
		{"␛[e", "// @1,0", ""},
		{"␛[2e", "// @2,0", ""},
		{"␛[C", "// @0,1", ""},
		{"␛[5C", "// @0,5", ""},
		{"␛[99C", "// @0,7", ""},
		{"␛[a", "// @0,1", ""},
		{"␛[6a", "// @0,6", ""},
		{"␛[8G␛[D", "// @0,6", ""},
		{"␛[8G␛[3D", "// @0,4", ""},
		{"abcdefgh␛[C", "abcdefgh// @0,7", ""},
		{"ab␛[E", "ab// @1,0", ""},
		{"ab␛[2E", "ab// @2,0", ""},
		{"␛[3;4H␛[F", "// @1,0", ""},
		{"␛[3;4H␛[2F", "// @0,0", ""},
		{"␛[2;4H␛[5G", "// @1,4", ""},
		{"␛[2;4H␛[5`", "// @1,4", ""},
		{"␛[2;4H␛[G", "// @1,0", ""},
		{"␛[2;4H␛[99`", "// @1,7", ""},
		{"␛[2;4H␛[3d", "// @2,3", ""},
		{"␛[2;4H␛[d", "// @0,3", ""},
		{"␛[2;4H␛[99d", "// @2,3", ""},
		{"␛[2;4H␛[H", "// @0,0", ""},
		{"␛[2;4H", "// @1,3", ""},
		{"␛[2;4f", "// @1,3", ""},
		{"␛[3f", "// @2,0", ""},
		{"␛[;3H", "// @0,2", ""},
		{"␛[99;99H", "// @2,7", ""},
		{"␛[2;4H\r", "// @1,0", ""},
		{margins + "␛[3;6H␛[9A␛[9D", "// @1,2", ""},
		{margins + "␛[2;3H␛[9B␛[9C", "// @2,5", ""},
		{margins + "␛[2;3H␛[9e␛[9a", "// @2,5", ""},
		{margins + "␛[1;1H␛[9B␛[9C", "// @2,5", ""},
		{margins + "␛[2;8H␛[9C␛[9D", "// @1,2", ""},
		{margins + "␛[2;8H\r", "// @1,2", ""},
		{margins + "␛[2;2H\r", "// @1,0", ""},
		{margins + "␛[2;5H␛[E", "// @2,2", ""},
		{margins + "␛[?6h", "// @1,2o", ""},
		{margins + "␛[?6h␛[2;2H", "// @2,3o", ""},
		{margins + "␛[?6h␛[9;9H", "// @2,5o", ""},
		{margins + "␛[?6h␛[3G␛[2d", "// @2,4o", ""},
		{margins + "␛[?6h␛[?6l", "// @0,0", ""},
		{"␛#6␛[99C", "// @0,3", ""}, // the width of a line that is wide
		{"␛[2;2H␛[64\"p␛[E␛[F␛[3G␛[3`␛[2a␛[2d␛[2e", "// @1,1", ""},
	})
}

func TestSavedCursor(t *testing.T) {
	play(t, []scene{
		{"ab␛7cd␛8x", "abxd// @0,3", ""},
		{"ab␛7cd␛8x␛8y", "abyd// @0,3", ""},
		{"␛[2;3Hab␛8x", "x/  ab/ @0,1", ""},
		{"␛[?6h␛[2;2H␛8", "// @0,0", ""},
		{"␛[?6h␛[2;2H␛7␛[?6l␛8", "// @1,1o", ""},
		{"␛[?6h␛7␛[?6l␛8␛[?6$p", "// @0,0o", "␛[?6;1$y"},
		{"␛7␛[?6h␛8␛[?6$p", "// @0,0", "␛[?6;2$y"},
		{"abcdefgh␛7␛[H␛8x", "abcdefgh/x/ @1,1", ""},
		{"␛)0\x0e␛7\x0fq␛8qq", "──// @0,2", ""},
		{"␛[2;8H␛7␛#6␛[3;1H␛8", "// @1,3", ""}, // it fits its row
		{"ab␛7␛[!p␛[3;3H␛8x", "xb// @0,1", ""},
		{"ab␛7" + status + "cd␛8x", "xd @0,1", ""},
		{"ab␛7" + status + "cd␛7␛[0$}␛[3;3H␛8x", "abx// @0,3", ""},
		{"ab␛7" + status + "cd␛7␛[0$}␛[3;3H␛[1$}e␛8x", "cdx @0,3", ""},
		{"ab␛7" + status + "cd␛7␛[!p␛[0$}␛[3;3H␛8x", "abx// @0,3", ""},
		{"ab␛7" + status + "cd␛7␛[!p␛[1G␛8x", "xd @0,1", ""},
	})
}

func TestErased(t *testing.T) {
	const full = "abcdefgh\r\nijklmnop\r\nqrstuvwx␛[2;4H"
	const kept = "␛[1\"qab␛[0\"qcd␛[1\"qef␛[2\"qgh␛[1;4H"
	play(t, []scene{
		{full + "␛[J", "abcdefgh/ijk/ @1,3", ""},
		{full + "␛[0J", "abcdefgh/ijk/ @1,3", ""},
		{full + "␛[1J", "/    mnop/qrstuvwx @1,3", ""},
		{full + "␛[2J", "// @1,3", ""},
		{full + "␛[3J", "abcdefgh/ijklmnop/qrstuvwx @1,3", ""},
		{full + "␛[K", "abcdefgh/ijk/qrstuvwx @1,3", ""},
		{full + "␛[1K", "abcdefgh/    mnop/qrstuvwx @1,3", ""},
		{full + "␛[2K", "abcdefgh//qrstuvwx @1,3", ""},
		{full + "␛[3K", "abcdefgh/ijklmnop/qrstuvwx @1,3", ""},
		{full + "␛[X", "abcdefgh/ijk mnop/qrstuvwx @1,3", ""},
		{full + "␛[0X", "abcdefgh/ijk mnop/qrstuvwx @1,3", ""},
		{full + "␛[3X", "abcdefgh/ijk   op/qrstuvwx @1,3", ""},
		{full + "␛[99X", "abcdefgh/ijk/qrstuvwx @1,3", ""},
		{full + "␛[?J", "abcdefgh/ijk/ @1,3", ""},
		{kept + "␛[?J", "abc ef// @0,3", ""},
		{kept + "␛[?1J", "ab  efgh// @0,3", ""},
		{kept + "␛[?2J", "ab  ef// @0,3", ""},
		{kept + "␛[?K", "abc ef// @0,3", ""},
		{kept + "␛[?1K", "ab  efgh// @0,3", ""},
		{kept + "␛[?2K", "ab  ef// @0,3", ""},
		{kept + "␛[2K", "// @0,3", ""},
		{kept + "␛[2J", "// @0,3", ""},
		{"␛[1\"qa␛[3\"qb␛[\"qc␛[?2K", "ab// @0,3", ""},
		{"abcdefgh␛[Kx", "abcdefgx// @0,7w", ""},
		{"ab" + status + "cd␛[2J", " @0,2", ""},
		{"ab" + status + "cd␛[2J␛[0$}", "ab// @0,2", ""},
		{"␛[61\"pab␛[?2J␛[1G␛[X", "ab// @0,2", ""},
	})
}

func TestEdited(t *testing.T) {
	const full = "abcdefgh\r\nijklmnop\r\nqrstuvwx␛[2;4H"
	const framed = "abcdefgh\r\nijklmnop\r\nqrstuvwx" + margins + "␛[2;4H"
	play(t, []scene{
		{full + "␛[@", "abcdefgh/ijk lmno/qrstuvwx @1,3", ""},
		{full + "␛[2@", "abcdefgh/ijk  lmn/qrstuvwx @1,3", ""},
		{full + "␛[P", "abcdefgh/ijkmnop/qrstuvwx @1,3", ""},
		{full + "␛[2P", "abcdefgh/ijknop/qrstuvwx @1,3", ""},
		{full + "␛[L", "abcdefgh//ijklmnop @1,3", ""},
		{full + "␛[2L", "abcdefgh// @1,3", ""},
		{full + "␛[M", "abcdefgh/qrstuvwx/ @1,3", ""},
		{full + "␛[2M", "abcdefgh// @1,3", ""},
		{full + "␛['}", "abc defg/ijk lmno/qrs tuvw @1,3", ""},
		{full + "␛[2'}", "abc  def/ijk  lmn/qrs  tuv @1,3", ""},
		{full + "␛['~", "abcefgh/ijkmnop/qrsuvwx @1,3", ""},
		{full + "␛[2'~", "abcfgh/ijknop/qrsvwx @1,3", ""},
		{full + "␛[S", "ijklmnop/qrstuvwx/ @1,3", ""},
		{full + "␛[2S", "qrstuvwx// @1,3", ""},
		{full + "␛[T", "/abcdefgh/ijklmnop @1,3", ""},
		{full + "␛[2T", "//abcdefgh @1,3", ""},
		{full + "␛[ @", "bcdefgh/jklmnop/rstuvwx @1,3", ""},
		{full + "␛[3 @", "defgh/lmnop/tuvwx @1,3", ""},
		{full + "␛[ A", " abcdefg/ ijklmno/ qrstuvw @1,3", ""},
		{full + "␛[3 A", "   abcde/   ijklm/   qrstu @1,3", ""},
		{full + "␛[0S␛[0 @", "jklmnop/rstuvwx/ @1,3", ""},
		{full + "␛[65535S", "// @1,3", ""},
		{full + "␛[65535 A", "// @1,3", ""},
		{framed + "␛[@", "abcdefgh/ijk lmop/qrstuvwx @1,3", ""},
		{framed + "␛[P", "abcdefgh/ijkmn op/qrstuvwx @1,3", ""},
		{framed + "␛[L", "abcdefgh/ij    op/qrklmnwx @1,3", ""},
		{framed + "␛[M", "abcdefgh/ijstuvop/qr    wx @1,3", ""},
		{framed + "␛['}", "abcdefgh/ijk lmop/qrs tuwx @1,3", ""},
		{framed + "␛['~", "abcdefgh/ijkmn op/qrsuv wx @1,3", ""},
		{framed + "␛[S", "abcdefgh/ijstuvop/qr    wx @1,3", ""},
		{framed + "␛[T", "abcdefgh/ij    op/qrklmnwx @1,3", ""},
		{framed + "␛[ @", "abcdefgh/ijlmn op/qrtuv wx @1,3", ""},
		{framed + "␛[ A", "abcdefgh/ij klmop/qr stuwx @1,3", ""},
		{framed + "␛[1;1H␛[L␛[M␛['}␛['~␛[@␛[P", "abcdefgh/ijklmnop/qrstuvwx @0,0", ""},
		{"abcdefgh␛[Sx", "/x/ @1,1", ""},         // Wrap stays behind scrolling
		{"abcdefgh␛[ @x", "bcdefgh/x/ @1,1", ""}, // to a side, too
		{"abcdefgh␛[Px", "abcdefgx// @0,7w", ""}, // but ends behind the others
		{"abcdefgh␛[Lx", "       x/abcdefgh/ @0,7w", ""},
		{"␛[2;5H␛[1;1H␛#6␛[2;8H␛[T", "// @1,3", ""}, // a wide line has come to the cursor
		{"␛[61\"pabc\r␛[@␛[S␛[T␛['}␛[ @x", "xbc// @0,1", ""},
	})
}

func TestSizes(t *testing.T) {
	play(t, []scene{
		{"abcdefgh␛#6", "abcdefgh// @0,3", ""},
		{"␛#6abcde", "abcd/e/ @1,1", ""},
		{"␛#3abcde", "abcd/e/ @1,1", ""},
		{"␛#4abcde", "abcd/e/ @1,1", ""},
		{"␛#6␛#5abcde", "abcde// @0,5", ""},
		{"abcdefgh␛#5x", "abcdefgx// @0,7w", ""},
		{"␛[?69h␛#6abcde", "abcde// @0,5", ""},
		{"␛#6␛[?69habcde", "abcde// @0,5", ""},
		{"␛#6␛[2 P␛#6␛[?69habcde␛[1 P␛[Habcde", "abcde// @0,5", ""},
		{"␛#6␛[?69h␛[?69labcde", "abcde// @0,5", ""},
		{"␛[?69h␛[?69l␛#6abcde", "abcd/e/ @1,1", ""},
		{status + "␛#6abcde", "abcde @0,5", ""},
		{"␛#6␛#8", "EEEEEEEE/EEEEEEEE/EEEEEEEE @0,0", ""},
		{"␛[2;3r␛[3;3H␛#8␛[3;8Hx\n", "EEEEEEEE/EEEEEEEx/ @2,7", ""},
		{"ab␛#8" + status, " @0,0", ""},
		{"ab" + margins + status + "cd␛#8␛[0$}␛[?6h␛[3;9H", "ab// @2,5o", ""},
		{"ab" + status + "cd␛#8", "EEEEEEEE @0,0", ""},
		{margins + "␛[?6h␛#8", "EEEEEEEE/EEEEEEEE/EEEEEEEE @0,0o", ""},
	})
	for in, want := range map[string]int{"␛#3": 2, "␛#4": 3, "␛#5": 0, "␛#6": 1} {
		u := fresh(t, 2, 4, 1)
		u.Feed([]byte(raw("␛#4\r\n␛#6" + in)))
		if b := u.Book(); b.Page(0).Line(1).Size != want || b.Page(0).Line(0).Size != 3 {
			t.Errorf("%s: size %d", in, b.Page(0).Line(1).Size)
		}
	}
}

func TestRectangles(t *testing.T) {
	const full = "abcdefgh\r\nijklmnop\r\nqrstuvwx␛[2;4H"
	play(t, []scene{
		{"␛[35;1;2;2;3$x", " ##/ ##/ @0,0", ""},
		{"␛[35$x", "########/########/######## @0,0", ""},
		{"␛[126;3;8$x", "//       ~ @0,0", ""},
		{"␛[126;3;8$x␛[160;3;8$x", "// @0,0", ""},
		{"␛[233;1;1;1;2$x", "éé// @0,0", ""},
		{full + "␛[32;1;1;1;2$x", "  cdefgh/ijklmnop/qrstuvwx @1,3", ""},
		{"␛[31;1;1;1;2$x␛[127;1;1;1;2$x␛[128;1;1;1;2$x␛[159;1;1;1;2$x␛[256;1;1;1;2$x␛[321;1;1;1;2$x␛[;1;1;1;2$x␛[$x", "// @0,0", ""},
		{"␛-A\x0e␛[127;1;1;1;2$x", "// @0,0", ""},
		{"␛[255;1;1;1;2$x", "// @0,0", ""},                   // a code without a glyph
		{"␛.A␛[255;1;1;1;2$x", "ÿÿ// @0,0", ""},              // and with one
		{"␛(0␛[113;1;1;1;2$x", "──// @0,0", ""},              // of the set at hand
		{"␛*0␛N␛[113;1;1;1;2$xq", "─q// @0,1", ""},           // what is single stays
		{"abcdefgh␛[35;2;1;2;2$xi", "abcdefgh/i#/ @1,1", ""}, // so does Wrap
		{margins + "␛[?6h␛[35;1;1;1;2$x", "/  ##/ @1,2o", ""},
		{margins + "␛[35;1;1;1;2$x", "##// @0,0", ""},
		{margins + "␛[?6h␛[35;1;1;9;9$x", "/  ####/  #### @1,2o", ""},
		{"ab" + status + "␛[35;1;1;9;2$x", "## @0,0", ""},
		{"ab" + status + "␛[35;2;1;9;2$x", " @0,0", ""},
		{"ab" + status + "␛[35;1;1;9;2$x␛[0$}", "ab// @0,2", ""},
		{full + "␛[1;2;2;3$z", "a  defgh/i  lmnop/qrstuvwx @1,3", ""},
		{full + "␛[2$z", "abcdefgh// @1,3", ""},
		{full + "␛[2;2;1;1$z␛[4$z", "abcdefgh/ijklmnop/qrstuvwx @1,3", ""},
		{full + "␛[1;2;2;3${", "a  defgh/i  lmnop/qrstuvwx @1,3", ""},
		{"␛[1\"qab␛[\"qcd␛[1;2;1;3${", "ab d// @0,4", ""},
		{"␛[1\"qab␛[\"qcd␛[1;2;1;3$z", "a  d// @0,4", ""},
		{full + margins + "␛[?6h␛[1;1;1;2$z", "abcdefgh/ij  mnop/qrstuvwx @1,2o", ""},
		{full + margins + "␛[?6h␛[1;1;1;2${", "abcdefgh/ij  mnop/qrstuvwx @1,2o", ""},
		{full + "␛[1;1;2;2;1;2;5;1$v", "abcdabgh/ijklijop/qrstuvwx @1,3"[:0] + "abcdefgh/ijklabop/qrstijwx @1,3", ""},
		{"ab␛[1;1;1;2;1;1;2;2$v", "ab// @0,2", ""},
		{"ab␛[1;1;1;2;1;1;2;2$v␛[2 P", " ab// @0,2", ""},
		{"ab␛[2 P␛[1;1;1;2;1;3;7;2$v", "//      ab @0,2", ""},
		{"ab" + margins + "␛[?6hcd␛[1;1;1;2;1;2;3$v", "ab/  cd/    cd @1,4o", ""},
		{"ab" + margins + "␛[?6hcd␛[1;1;1;2;1;2;4$v", "ab/  cd/     c @1,4o", ""},
		{"ab" + status + "cd␛[1;1;1;2;1;2;1$v␛[0$}", "ab// @0,2", ""},
		{"ab" + status + "cd␛[3;1;1;1;1;2*y", "cd @0,2", "␛P3!~FF3D␛\\"},
		{"ab" + margins + "␛[?6hcd␛[;1;1;1;1;2*y", "ab/  cd/ @1,4o", "␛P0!~FF39␛\\"},
		{"ab" + margins + "␛[?6hcd" + status + "␛[;1;1;1;1;2*y", " @0,0", "␛P0!~FF3D␛\\"},
		{"ab" + margins + "cd" + status + "␛[?6h␛[;1;1;1;1;2*y", " @0,0o", "␛P0!~FFC0␛\\"},
		{"ab␛[2 Pc␛[1;2;1;1;1;3*y", "  c// @0,3", "␛P1!~FF5D␛\\"},
		{"ab␛[2 Pc␛[1;0;1;1;1;3*y", "  c// @0,3", "␛P1!~FE7A␛\\"},
		{"ab␛[*y␛[9;1;2;1;1*y", "ab// @0,2", "␛P0!~F97D␛\\"},
	})
}

// A place is told by the letters of its rendition, and k, if it is kept.
func looks(u *term.Terminal, row int) string {
	var list []string
	for _, c := range u.Book().Sheet().Line(row).Cells {
		s := rend.Letters(c.Rend)
		if c.Kept {
			s += "+"
		}
		list = append(list, s)
	}
	return strings.TrimRight(strings.Join(list, ","), ",")
}

func TestRenditions(t *testing.T) {
	for _, c := range []struct{ in, first, second string }{
		{"a␛[1mb␛[4;5mc␛[22md␛[7;8me␛[0mf␛[1mg␛[mh", ",b,buk,uk,ukrh,,b", ""},
		{"a␛[1\"qb␛[4mc␛[0\"qd␛[1\"qe␛[2\"qf␛[1\"q␛[3\"qg␛[\"qh", ",+,u+,u,u+,u,u+,u", ""},
		{"␛[1;4m␛[1\"q␛[35;1;1;1;2$x", "bu+,bu+", ""},
		{"␛[1;4m␛[1\"qa\x1a", "bu+,bu+", ""},
		{"␛[1;4m␛[1\"qa␛[m␛[\"q␛[b", "bu+", ""},
		{"␛[1;4m␛[1\"qab␛[1;1;1;1$z", ",bu+", ""},
		{"␛[1;4mab␛[1;1;1;1${", "bu,bu", ""},
		{"␛[1;4ma␛[K␛[L", "", "bu"},
		{"␛[1;4ma␛[!pb", "bu", ""},
		{"␛[1;4ma␛7␛[mb␛8c", "bu,bu", ""},
		{"␛[1;4ma␛#8", "", ""},
		{"␛[2*x␛[1;2;2;3;1;4$r", ",bu,bu", ",bu,bu"},
		{"␛[1*x␛[1;7;2;2;1;4$r", ",,,,,,bu,bu", "bu,bu"},
		{"␛[1;7;2;8;1;4$r", ",,,,,,bu,bu", ",,,,,,bu,bu"},
		{"␛[*x␛[1;7;2;2;1;4$r", ",,,,,,bu,bu", "bu,bu"},
		{"␛[1*x␛[3*x␛[1;7;2;2;1;4$r", ",,,,,,bu,bu", "bu,bu"},
		{"␛[1*x␛[2*x␛[1;7;2;2;1;4$r", "", ""},
		{"␛[1*x␛[!p␛[1;7;2;2;1;4$r", ",,,,,,bu,bu", "bu,bu"},
		{"␛[1ma␛[1;1;1;2;0$t", "ukr,bukr", ""},
		{"␛[1ma␛[1;1;1;2$t", "ukr,bukr", ""},
		{"␛[1ma␛[1;1;1;2$r", "", ""},
		{"␛[1ma␛[1;1;1;2;1;5$t", "k,bk", ""},
		{"␛[1*x␛[1;7;2;2;1;4$t␛[2;2;2;2;1$t", ",,,,,,bu,bu", "bu,u"},
		{margins + "␛[?6h␛[1;1;1;2;1$r", "", ",,b,b"},
		{margins + "␛[?6h␛[1*x␛[1;3;2;1;1$t", "", ",,,,b,b"},
		{"␛[61\"p␛[1\"qa␛[1;1;1;2;1$r", "", ""},
	} {
		u := fresh(t, 3, 8, 2)
		u.Feed([]byte(raw(c.in)))
		if first, second := looks(u, 0), looks(u, 1); first != c.first || second != c.second {
			t.Errorf("%q: %q, %q, not %q, %q", c.in, first, second, c.first, c.second)
		}
	}
}

func TestPages(t *testing.T) {
	play(t, []scene{
		{"a␛[Ub␛[1 Pc", "ac// @0,2", ""},
		{"ab␛[U", "// @0,0", ""},
		{"ab␛[2U␛[?6n", "// @0,0", "␛[?1;1;2R"},
		{"ab␛[Uc␛[V", "ab// @0,0", ""},
		{"ab␛[Uc␛[99V", "ab// @0,0", ""},
		{"ab␛[V", "ab// @0,0", ""},
		{"ab␛[2 P␛[?6n", "// @0,2", "␛[?1;3;2R"},
		{"ab␛[99 Pc", "  c// @0,3", ""},
		{"ab␛[99 P␛[ Pc", "abc// @0,3", ""},
		{"ab␛[ Qc", "  c// @0,3", ""},
		{"ab␛[9 Qc", "  c// @0,3", ""},
		{"ab␛[ Qc␛[ Rd", "ab d// @0,4", ""},
		{"ab␛[ R", "ab// @0,2", ""},
		{"abcdefgh␛[ Qx", "       x// @0,7w", ""},
		{"abcdefgh␛[2 P␛[1 P", "abcdefgh// @0,7", ""},
		{"abcdefgh␛[ Rx", "abcdefgx// @0,7w", ""},
		{"␛[2;3r␛[?6h␛[2;2H␛[U", "// @1,0o", ""},
		{"␛[2;3r␛[?6h␛[2;2H␛[V", "// @1,0o", ""},
		{"␛[2 P␛#6␛[1 P␛[8G␛[2 P", "// @0,3", ""},
		{"ab" + status + "cd␛[U␛[2 P␛[ Q␛[?6n", "cd @0,2", "␛[?1;3;1R"},
		{"ab␛[Ucd" + status + "ef␛[V␛[1 P␛[ R␛[0$}", "cd// @0,2", ""},
		{"ab␛[62\"p␛[U␛[2 P␛[ Q", "ab// @0,2", ""},
	})
}

func TestStatusLine(t *testing.T) {
	play(t, []scene{
		{"ab␛[1$}cd", "abcd// @0,4", ""},
		{"ab␛[1$~␛[1$}cd", "abcd// @0,4", ""},
		{"ab" + status + "cd", "cd @0,2", ""},
		{"ab" + status + "cd␛[$}ef", "abef// @0,4", ""},
		{"ab" + status + "cd␛[0$}ef␛[1$}gh", "cdgh @0,4", ""},
		{"ab" + status + "cd␛[2$}␛[3$}ef", "cdef @0,4", ""},
		{"ab" + status + "cd␛[1$}ef", "cdef @0,4", ""},
		{"ab" + status + "cd␛[2$~ef", "cdef @0,4", ""},
		{"ab" + status + "cd␛[3$~ef", "cdef @0,4", ""},
		{"ab" + status + "cd␛[1$~ef", "abef// @0,4", ""},
		{"ab" + status + "cd␛[$~ef", "abef// @0,4", ""},
		{"ab" + status + "cd␛[0$~" + status + "ef", "  ef @0,4", ""},
		{"ab" + status + "cd␛[1$~" + status + "ef", "  ef @0,4", ""},
		{"ab" + status + "cd␛[0$}␛[0$~" + status + "ef", "  ef @0,4", ""},
		{"ab" + status + "cd␛[0$}␛[2$~␛[1$}ef", "cdef @0,4", ""},
		{"ab" + status + "cd\nef␛[5;2Hg␛[9Bh", " ghf @0,3", ""},
		{"ab" + status + "cdefghijk", "k @0,1", ""},
		{"ab" + status + "␛[?7lcdefghijk", "cdefghik @0,7", ""},
		{"ab" + status + "␛[?6h␛[?6$p␛[0$}␛[?6$p␛[1$}␛[?6$p", " @0,0o", "␛[?6;1$y␛[?6;2$y␛[?6;1$y"},
		{"␛[2;3r␛[?6h" + status + "␛[?6$p␛[1;3r␛[3;4s␛[0$}␛[9;9H", "// @2,7o", "␛[?6;2$y"},
		{"␛[?69h␛[2;3r" + status + "␛[1;3r␛[3;4s␛[0$}␛P$qr␛\\␛P$qs␛\\", "// @0,0", "␛P1$r2;3r␛\\␛P1$r1;8s␛\\"},
		{"␛[1m" + status + "a␛[7mb␛[0$}c␛[1$}d", "abd @0,3", ""},
		{status + "a␛[2K␛[62\"p␛[0$}b", " b @0,2", ""},
		{status + "ab␛cc", "c// @0,1", ""},
		{status + "ab␛c" + status, " @0,0", ""},
		{"ab" + status + "cd␛[$|␛[24t", "cd @0,2", ""},
	})
	u := fresh(t, 3, 8, 2)
	u.Feed([]byte(raw("␛[1m" + status + "a␛[7mb␛[0$}c␛[1$}d")))
	if got := looks(u, 0); got != ",r,r" {
		t.Errorf("the status line's rendition is %q", got)
	}
}

func TestModes(t *testing.T) {
	play(t, []scene{
		{"␛[4;20h␛[4$p␛[20$p␛[4l␛[4$p␛[20$p", "// @0,0", "␛[4;1$y␛[20;1$y␛[4;2$y␛[20;1$y"},
		{"␛[?4h␛[7l␛[4$p␛[?7$p", "// @0,0", "␛[4;2$y␛[?7;1$y"},
		{"␛[?1;5;25h␛[?5;25;99;0l␛[?1$p␛[?5$p␛[?25$p␛[?99$p␛[?0$p␛[?$p", "// @0,0", "␛[?1;1$y␛[?5;2$y␛[?25;2$y␛[?99;0$y␛[?0;0$y␛[?0;0$y"},
		{"␛[1h␛[1$p␛[99$p␛[$p␛[2$p␛[12$p", "// @0,0", "␛[1;4$y␛[99;0$y␛[0;0$y␛[2;2$y␛[12;1$y"},
		{"␛[h␛[l␛[?h␛[?lx", "x// @0,1", ""},
		{"␛=␛[?66$p␛>␛[?66$p", "// @0,0", "␛[?66;1$y␛[?66;2$y"},
		{"␛[61\"p␛=␛[65;1\"p␛[?66$p", "// @0,0", "␛[?66;2$y"}, // the soft reset ends it
		{"␛[63\"p␛[?69h␛[?69$p␛[65\"p␛[?69$p", "// @0,0", "\x9b?69;0$y\x9b?69;2$y"},
		{"␛[61\"p␛[?25l␛[?66h␛[?69h␛[?95h␛[65\"p␛[?95$p", "// @0,0", "\x9b?95;2$y"},
		{"ab␛[?6hc␛[1;5H␛[?6h", "cb// @0,0o", ""},
		{"ab␛[?6l", "ab// @0,0", ""},
		{"␛[2;3r␛[?6;7h", "// @1,0o", ""},
		{"␛[?7;6;7h␛[2;2H", "// @1,1o", ""},
		{"␛[2;3r␛[?69h␛[2;4s␛[?6h␛[9;9H", "// @2,3o", ""},
		{"␛[2;3r␛[?69h␛[2;4s␛[?69l␛[?6h␛[9;9H", "// @2,7o", ""},
		{"␛[2;3H␛[?69h", "// @1,2", ""},
		{margins + "␛[2;3H␛[?69l", "// @1,2", ""},
		{margins + "␛[?69h␛P$qs␛\\", "// @0,0", "␛P1$r3;6s␛\\"},
		{margins + status + "␛[?69l␛[?69h␛[0$}␛P$qs␛\\␛P$qr␛\\", "// @0,0", "␛P1$r1;8s␛\\␛P1$r2;3r␛\\"},
		{"␛[2;4H␛[?7h␛[?25l", "// @1,3", ""},
		{"␛[20h␛[!p\r\na\nb", "/a/b @2,1", ""}, // this one stays
	})
}

func TestMargins(t *testing.T) {
	const ask = "␛P$qr␛\\␛P$qs␛\\"
	told := func(rows, cols string) string {
		return "␛P1$r" + rows + "r␛\\␛P1$r" + cols + "s␛\\"
	}
	play(t, []scene{
		{ask, "// @0,0", told("1;3", "1;8")},
		{"ab␛[2;3r" + ask, "ab// @0,0", told("2;3", "1;8")},
		{"ab␛[2r" + ask, "ab// @0,0", told("2;3", "1;8")},
		{"ab␛[;2r" + ask, "ab// @0,0", told("1;2", "1;8")},
		{"ab␛[2;9r" + ask, "ab// @0,0", told("2;3", "1;8")},
		{"ab␛[2;3r␛[2G␛[r" + ask, "ab// @0,0", told("1;3", "1;8")},
		{"ab␛[3;3r␛[3;2r␛[3r␛[9r" + ask, "ab// @0,2", told("1;3", "1;8")},
		{"ab␛[2;3s" + ask, "ab// @0,2", told("1;3", "1;8")},
		{"ab␛[?69h␛[2;3s" + ask, "ab// @0,0", told("1;3", "2;3")},
		{"ab␛[?69h␛[2s" + ask, "ab// @0,0", told("1;3", "2;8")},
		{"ab␛[?69h␛[;3s" + ask, "ab// @0,0", told("1;3", "1;3")},
		{"ab␛[?69h␛[2;9s" + ask, "ab// @0,0", told("1;3", "2;8")},
		{"ab␛[?69h␛[2;3s␛[2G␛[s" + ask, "ab// @0,0", told("1;3", "1;8")},
		{"ab␛[?69h␛[2;2s␛[3;2s␛[8s␛[9s" + ask, "ab// @0,2", told("1;3", "1;8")},
		{margins + ask, "// @0,0", told("2;3", "3;6")},
		{margins + "␛[1;2r" + ask, "// @0,0", told("1;2", "3;6")},
		{margins + "␛#8␛[2J" + ask, "// @0,0", told("1;3", "1;8")},
		{margins + "␛[?6h␛[1;2r" + ask, "// @0,2o", told("1;2", "3;6")},
		{margins + "␛[?6h␛[2;8s" + ask, "// @1,1o", told("2;3", "2;8")},
		{margins + "␛[!p␛[?69$p" + ask, "// @0,0", "␛[?69;1$y" + told("1;3", "1;8")},
		{margins + "␛c␛[?69$p" + ask, "// @0,0", "␛[?69;2$y" + told("1;3", "1;8")},
		{"ab␛[63\"p␛[65;1\"p␛[2;3s" + ask, "ab// @0,2", told("1;3", "1;8")},
	})
}

func TestResets(t *testing.T) {
	const all = "␛[2;4h␛[20h␛[?1;66;5h␛[?25;7l"
	const ask = "␛[2$p␛[4$p␛[20$p␛[?1$p␛[?6$p␛[?66$p␛[?25$p␛[?7$p␛[?5$p␛[12$p"
	after := "␛[2;2$y␛[4;2$y␛[20;1$y␛[?1;2$y␛[?6;2$y␛[?66;2$y␛[?25;1$y␛[?7;1$y␛[?5;1$y␛[12;1$y"
	begun := "␛[2;2$y␛[4;2$y␛[20;2$y␛[?1;2$y␛[?6;2$y␛[?66;2$y␛[?25;1$y␛[?7;1$y␛[?5;2$y␛[12;1$y"
	eight := func(s string) string {
		return strings.NewReplacer("␛[", "\x9b", "␛P", "\x90", "␛\\", "\x9c").Replace(s)
	}
	play(t, []scene{
		{"ab" + all + "␛[?6hc␛[2;3H␛[!p" + ask, "cab// @1,2", after},
		{"ab" + all + "␛[?6hc␛[2;3H␛c" + ask, "// @0,0", begun},
		{all + "␛[65\"p" + ask, "// @0,0", eight(after)},
		{all + "␛[65;1\"p" + ask, "// @0,0", after},
		{"abcdefgh␛[!px", "abcdefgx// @0,7w", ""},
		{"␛)0␛*0\x0e␛|␛N␛[!pqq\xf1", "qqñ// @0,3", ""},
		{"␛[?6h␛[!p␛[?6$p␛P$q\"p␛\\", "// @0,0", "␛[?6;2$y␛P1$r65;1\"p␛\\"},
		{"␛[3;1r␛ G␛[!p␛[5n␛[2*x␛[!p␛P$q*x␛\\", "// @0,0", "\x9b0n\x901$r2*x\x9c"},
		{"ab␛[1$~␛[2 P␛[62\"p␛[!p␛P$qm␛\\", "// @0,2", ""},
		{"ab␛[62\"p␛[!pc␛c␛[?6n", "// @0,0", "␛[?1;1;1R"},
		{"␛[61\"p␛[?6h␛[!p␛[6n", "// @0,0o", "␛[1;1R"},
		{"ab␛[2 P␛P0;0;0!zx␛\\␛P0|17/41␛\\␛c␛[?6n␛[0*z␛[?25n␛[?62n", "// @0,0", "␛[?1;1;1R␛[?20n␛[384*{"},
		{"␛[2*x␛c␛P$q*x␛\\␛[*x␛c␛P$q*x␛\\", "// @0,0", "␛P1$r2*x␛\\␛P1$r2*x␛\\"},
		{"␛[?69h␛[3;5s\x9b4;5H␛[1\"q␛[1m␛ck␛[?2J", "// @0,1", ""},
		{"a␛c\x9b", "// @0,0", ""},
	})
}

func TestLevels(t *testing.T) {
	const ask = "␛P$q\"p␛\\"
	play(t, []scene{
		{ask, "// @0,0", "␛P1$r65;1\"p␛\\"},
		{"␛[64\"p" + ask, "// @0,0", "\x901$r64;0\"p\x9c"},
		{"␛[64;0\"p" + ask, "// @0,0", "\x901$r64;0\"p\x9c"},
		{"␛[64;2\"p" + ask, "// @0,0", "\x901$r64;0\"p\x9c"},
		{"␛[63;1\"p" + ask, "// @0,0", "␛P1$r63;1\"p␛\\"},
		{"␛[63;1\"p␛[64;0\"p" + ask, "// @0,0", "\x901$r64;0\"p\x9c"},
		{"␛[64\"p␛[63;1\"p" + ask, "// @0,0", "␛P1$r63;1\"p␛\\"},
		{"␛[62\"p␛[c␛[>c", "// @0,0", "\x9b?62;1;2;7;8;9c\x9b>64;1;0c"},
		{"␛[61\"p␛[c␛Z␛[>c", "// @0,0", "␛[?1;2c␛[?1;2c"},
		{"␛[62\"p␛[61\"p␛[5n", "// @0,0", "␛[0n"}, // level 1 has controls of seven bits alone
		{"␛[4h␛[60\"p␛[66\"p␛[\"p␛[5\"p␛[65535\"p␛[4$p" + ask, "// @0,0", "␛[4;1$y␛P1$r65;1\"p␛\\"},
		{"␛[61\"p␛ G␛[5n", "// @0,0", "␛[0n"},
		{"␛ G␛[5n␛ F␛[5n", "// @0,0", "\x9b0n␛[0n"},
		{"␛ G␛[6n␛[c␛[>c␛[=c", "// @0,0", "\x9b1;1R\x9b?65;1;2;7;8;9;18;21;28;29;42;44c\x9b>64;1;0c\x90!|00000000\x9c"},
	})
}

func TestAnswers(t *testing.T) {
	play(t, []scene{
		{"␛Z␛[c␛[0c", "// @0,0", strings.Repeat("␛[?65;1;2;7;8;9;18;21;28;29;42;44c", 3)},
		{"␛[>c␛[>0c␛[=c␛[=0c", "// @0,0", strings.Repeat("␛[>64;1;0c", 2) + strings.Repeat("␛P!|00000000␛\\", 2)},
		{"␛[1c␛[>1c␛[=1c␛[?c", "// @0,0", ""},
		{"␛[64;1\"p␛[c␛[63;1\"p␛[c␛[=c␛[62;1\"p␛[c", "// @0,0", "␛[?64;1;2;7;8;9;18;21;28;29c␛[?63;1;2;7;8;9;18;21c␛[?62;1;2;7;8;9c"},
		{"␛[n␛[1n␛[5n␛[7n␛[?n␛[?5n␛[?7n", "// @0,0", "␛[0n"},
		{"␛[2;3H␛[6n␛[?6n", "// @1,2", "␛[2;3R␛[?2;3;1R"},
		{margins + "␛[?6h␛[2;3H␛[6n␛[?6n", "// @2,4o", "␛[2;3R␛[?2;3;1R"},
		{margins + "␛[3;5H␛[6n␛[?6n", "// @2,4", "␛[3;5R␛[?3;5;1R"},
		{"␛[2;3H" + status + "ab␛[6n␛[?6n", "ab @0,2", "␛[1;3R␛[?1;3;1R"},
		{margins + status + "␛[?6hab␛[6n", "ab @0,2o", "␛[1;3R"},
		{"␛[?15n␛[?25n␛[?26n␛[?75n␛[?85n", "// @0,0", "␛[?13n␛[?20n␛[?27;1;0;0n␛[?70n␛[?83n"},
		{"␛P|17/41␛\\␛[?25n", "// @0,0", "␛[?21n"},
		{"␛P0;1|17/41␛\\␛[?25n", "// @0,0", "␛[?20n"},
		{"␛[?62n␛[?63;7n␛P0;0;0!zabc␛\\␛[?62n␛[?63;7n␛[?63n", "// @0,0", "␛[384*{␛P7!~0000␛\\␛[383*{␛P7!~0126␛\\␛P0!~0126␛\\"},
		{"␛[61\"p␛[?6n␛[?15n␛[6n", "// @0,0", "␛[1;1R"},
		{"␛P$qm␛\\␛P$q\"q␛\\␛P$q*x␛\\␛P$qt␛\\␛P$q$|␛\\␛P$q$~␛\\␛P$q$}␛\\", "// @0,0", "␛P1$r0m␛\\␛P1$r0\"q␛\\␛P1$r2*x␛\\␛P1$r3t␛\\␛P1$r8$|␛\\␛P1$r0$~␛\\␛P1$r0$}␛\\"},
		{"␛[1;7m␛[1\"q␛[*x" + status + "␛[4m␛P$qm␛\\␛P$q\"q␛\\␛P$q*x␛\\␛P$q$~␛\\␛P$q$}␛\\", " @0,0", "␛P1$r0;4m␛\\␛P1$r0\"q␛\\␛P1$r1*x␛\\␛P1$r2$~␛\\␛P1$r1$}␛\\"},
		{"␛P$q␛\\␛P$qx␛\\␛P$q m␛\\␛P$qmm␛\\", "// @0,0", strings.Repeat("␛P0$r␛\\", 4)},
		{"␛P9;9$qm␛\\", "// @0,0", "␛P1$r0m␛\\"},
		{"␛[1$w␛[2$w␛[$w␛[3$w", "// @0,0", "␛P1$u1;1;1;@;@;@;0;2;@;BB%5%5␛\\␛P2$u␛\\"},
		{"␛[3G␛H␛[7G␛H␛[2$w", "// @0,6", "␛P2$u3/7␛\\"},
		{"abcdefgh␛[1;5m␛[1\"q␛)0\x0e␛N␛[1$w", "abcdefgh// @0,7w", "␛P1$u1;8;1;E;A;J;1;2;@;B0%5%5␛\\"},
		{"␛[2 P␛[?6h␛[2;3H␛[1$w", "// @1,2o", "␛P1$u2;3;2;@;@;A;0;2;@;BB%5%5␛\\"},
		{"␛[1$u␛[$u␛[2$u", "// @0,0", "␛P1$s5;0;0;2948;0;0;0;0;0;3;8;0␛\\"},
		{margins + "␛[?6h␛[*x␛ G␛[1$u", "// @1,2o", "\x901$s5;1;8;3012;1;0;0;1;2;3;6;1\x9c"},
		{status + "␛[1$u", " @0,0", "␛P1$s5;0;0;2948;0;2;1;0;0;3;8;0␛\\"},
		{"␛[62\"p␛[$p␛[?7$p␛[1$w␛[1$u␛P$qm␛\\", "// @0,0", ""},
	})
}

func TestMacros(t *testing.T) {
	define := func(n int, text string) string {
		return fmt.Sprintf("␛P%d;0;1!z%X␛\\", n, raw(text))
	}
	play(t, []scene{
		{"␛P0;0;0!zab␛\\␛[0*zc␛[*z", "abcab// @0,5", ""},
		{"␛P!zab␛\\␛[*z", "ab// @0,2", ""},
		{"␛P1;0;1!z61!2;62␛\\␛[1*z", "abb// @0,3", ""},
		{"␛P63;0;0!zab␛\\␛[63*z␛[62*z␛[64*z␛[65535*z", "ab// @0,2", ""},
		{"␛P64;0;0!zab␛\\␛[64*z", "// @0,0", ""},
		{"␛P1;0;0!zab␛\\␛P2;1;0!zcd␛\\␛[1*z␛[2*z", "cd// @0,2", ""},
		{"␛P1;0;0!zab␛\\␛P2;0;0!zcd␛\\␛[1*z␛[2*z", "abcd// @0,4", ""},
		{"␛P1;0;0!zab␛\\␛P1;2;0!zcd␛\\␛P1;0;2!zef␛\\␛P1;0;1!z4␛\\␛[1*z", "ab// @0,2", ""},
		{"␛P1;0;0!zab␛\\␛P1;0;0!z␛\\␛[1*z", "// @0,0", ""},
		{define(1, "␛[6nx") + "ab␛[1*zc␛[6n", "abxc// @0,4", "␛[1;3R␛[1;5R"},
		{define(1, "a␛[") + "␛[1*z2Cb", "a2Cb// @0,4", ""}, // what hasn't ended in a macro is nothing
		{define(1, "a\x9b2;2Hb") + "␛[1*z", "a/ b/ @1,2", ""},
		{define(1, "a␛[2*zb") + define(2, "xy") + "␛[1*z", "axyb// @0,4", ""},
		{define(1, "a␛P1;0;0!zc␛\\b") + "␛[1*z␛[1*z", "abc// @0,3", ""},
		{define(1, "a␛cb") + "xy␛[1*z␛[1*z", "b// @0,1", ""},
		{define(1, "a␛[63\"pb␛[5n") + "␛[1*z␛[1*z", "ab// @0,2", "\x9b0n"},
		{define(1, "ab") + "␛[63\"p␛[1*z", "// @0,0", ""},
		{"␛[63\"p" + define(1, "ab") + "␛[64\"p␛[1*z", "// @0,0", ""},
		{define(1, status+"ab␛[0$}") + "x␛[1*zy␛[1$}", "ab @0,2", ""},
		{"\x901!zab\x9c\x9b1*z", "ab// @0,2", ""},
		{define(1, "a") + "␛[!p␛[1*z␛[65\"p␛[1*z", "aa// @0,2", ""},
	})
}

// times tells how often a macro's x was written, on a page of one row that is never full.
func times(t *testing.T, in string) int {
	t.Helper()
	u := fresh(t, 500, 500, 1)
	u.Feed([]byte(in))
	return strings.Count(glyphsOf(u.Book().Page(0)), "x")
}

func macroOf(n int, text string) string {
	return fmt.Sprintf("\x1bP%d;0;1!z%X\x1b\\", n, text)
}

// manyOf is a macro of as many x: more bytes than a string may have digits for.
func manyOf(n, count int) string {
	return fmt.Sprintf("\x1bP%d;0;1!z!%d;78;\x1b\\", n, count)
}

// P24.6: no more than sixteen calls are open at once.
func TestNested(t *testing.T) {
	if n := times(t, macroOf(0, "x\x1b[0*z")+"\x1b[0*z"); n != 16 {
		t.Errorf("written %d times", n)
	}
	// Those that have ended count no more.
	if n := times(t, macroOf(0, "x\x1b[0*z")+"\x1b[0*z\x1b[0*z"); n != 32 {
		t.Errorf("written %d times", n)
	}
	if n := times(t, macroOf(0, "x")+macroOf(1, strings.Repeat("\x1b[*z", 40))+"\x1b[1*z"); n != 40 {
		t.Errorf("written %d times", n)
	}
	var chain string
	for n := range 20 {
		chain += macroOf(n, fmt.Sprintf("x\x1b[%d*z", n+1))
	}
	for from, want := range []int{16, 16, 16, 16, 16, 15, 14, 13} {
		if n := times(t, chain+fmt.Sprintf("\x1b[%d*z", from)); n != want {
			t.Errorf("from %d on written %d times, not %d", from, n, want)
		}
	}
}

// P24.6: all that is called together has no more bytes than may be: what is longer than what is left is nothing.
func TestReplayed(t *testing.T) {
	const first, second, third = "\x1b[1*z", "\x1b[2*z", "\x1b[3*z"
	for _, c := range []struct {
		outer  string
		length int // of the macro that it calls, which is as many x
		want   int // how many of them there are in all
	}{
		{strings.Repeat(first, 4), 4091, 4 * 4091},            // 20 bytes and four times 4091: just as many as may be
		{strings.Repeat(first, 4) + "y", 4091, 3 * 4091},      // one more
		{strings.Repeat(first, 4), 4092, 3 * 4092},            // four more
		{strings.Repeat(first, 9), 4091, 3 * 4091},            // 45 bytes
		{strings.Repeat(first, 9) + second, 4091, 3*4091 + 7}, // behind what was too long comes what isn't
		{second + strings.Repeat(first, 9), 4091, 3*4091 + 7},
		{third, 4091, 3 * 4091}, // and what a macro's macro calls counts, too
	} {
		stored := macroOf(0, c.outer) + manyOf(1, c.length) + macroOf(2, "xxxxxxx") + macroOf(3, strings.Repeat(first, 4))
		if n := times(t, stored+"\x1b[0*z"); n != c.want {
			t.Errorf("%q: %d x, not %d", c.outer, n, c.want)
		}
		// The next call of the host's begins anew.
		if n := times(t, stored+"\x1b[0*z\x1b[0*z"); n != 2*c.want {
			t.Errorf("%q: twice %d x, not %d", c.outer, n, 2*c.want)
		}
	}
	if n := times(t, manyOf(1, 6139)+macroOf(0, first)+strings.Repeat(first, 3)); n != 3*6139 {
		t.Errorf("%d x of the host's own calls", n)
	}
}
