package chunk_test

import (
	"fmt"
	"regexp"
	"strings"
	"testing"

	"engraver/api"
	"engraver/chunk"
)

func wantCritical(t *testing.T, kind string, want bool) {
	t.Helper()
	if got := chunk.Critical(kind); got != want {
		t.Errorf("Critical(%q) = %v, want %v", kind, got, want)
	}
}

// P11.2: each letter first, whatever the other three.
func TestCritical(t *testing.T) {
	for _, rest := range []string{"aaa", "AAA", "zzz", "ZZZ", "DAt", "hdR"} {
		for c := byte('A'); c <= 'Z'; c++ {
			wantCritical(t, string(rune(c))+rest, true)
			wantCritical(t, strings.ToLower(string(rune(c)))+rest, false)
		}
	}
	for _, kind := range []string{"IHDR", "PLTE", "IDAT", "IEND", "ABCD"} {
		wantCritical(t, kind, true)
	}
	for _, kind := range []string{"tRNS", "gAMA", "iDAT", "abcd"} {
		wantCritical(t, kind, false)
	}
}

// P11.2: kinds that are not four letters.
func TestCriticalOfNoKinds(t *testing.T) {
	for _, kind := range []string{"", "I", "ID", "IDA", "IDATA", "IDATIDAT", "IDAT ", " IDAT", "Àbc", "ABÀ", "IÀA", strings.Repeat("A", 1000)} {
		wantCritical(t, kind, false)
	}
	for at := range 4 {
		for _, c := range []byte(notLetters) {
			kind := []byte("IDAT")
			kind[at] = c
			wantCritical(t, string(kind), false)
		}
	}
}

// P11.2: for each part a list that breaks it alone, and one beside it that does not.
func TestOrder(t *testing.T) {
	for _, c := range []struct{ what, well, broken string }{
		{"IHDR first", "IHDR gAMA IDAT IEND", "gAMA IHDR IDAT IEND"},
		{"IHDR first, not PLTE", "IHDR PLTE IDAT IEND", "PLTE IHDR IDAT IEND"},
		{"IHDR not behind IDAT", "IHDR IDAT IEND", "IDAT IHDR IEND"},
		{"IHDR there", "IHDR IDAT IEND", "IDAT IEND"},
		{"iHDR is none", "IHDR iHDR IDAT IEND", "iHDR IDAT IEND"},
		{"one IHDR", "IHDR IDAT IEND", "IHDR IHDR IDAT IEND"},
		{"no IHDR behind", "IHDR IDAT gAMA IEND", "IHDR IDAT IHDR IEND"},
		{"IEND last", "IHDR IDAT gAMA IEND", "IHDR IDAT IEND gAMA"},
		{"IEND last, not IDAT", "IHDR IDAT IEND", "IHDR IEND IDAT"},
		{"IEND there", "IHDR IDAT IEND", "IHDR IDAT"},
		{"iEND is none", "IHDR IDAT iEND IEND", "IHDR IDAT iEND"},
		{"one IEND", "IHDR IDAT IEND", "IHDR IDAT IEND IEND"},
		{"no IEND ahead", "IHDR gAMA IDAT IEND", "IHDR IEND IDAT IEND"},
		{"an IDAT", "IHDR IDAT IEND", "IHDR IEND"},
		{"an IDAT behind the colours", "IHDR PLTE tRNS IDAT IEND", "IHDR PLTE tRNS IEND"},
		{"iDAT is none", "IHDR iDAT IDAT IEND", "IHDR iDAT IEND"},
		{"IDATs together", "IHDR gAMA IDAT IDAT IDAT gAMA IEND", "IHDR IDAT gAMA IDAT IEND"},
		{"IDATs together, all of them", "IHDR IDAT IDAT IDAT IDAT gAMA IEND", "IHDR IDAT IDAT IDAT gAMA IDAT IEND"},
		{"one PLTE", "IHDR PLTE IDAT IEND", "IHDR PLTE PLTE IDAT IEND"},
		{"one PLTE, apart too", "IHDR PLTE gAMA IDAT IEND", "IHDR PLTE gAMA PLTE IDAT IEND"},
		{"one PLTE, round tRNS too", "IHDR PLTE tRNS IDAT IEND", "IHDR PLTE tRNS PLTE IDAT IEND"},
		{"PLTE ahead", "IHDR PLTE IDAT IEND", "IHDR IDAT PLTE IEND"},
		{"PLTE not between", "IHDR PLTE IDAT IDAT IEND", "IHDR IDAT PLTE IDAT IEND"},
		{"no second PLTE behind", "IHDR PLTE IDAT IEND", "IHDR PLTE IDAT PLTE IEND"},
		{"one tRNS", "IHDR tRNS IDAT IEND", "IHDR tRNS tRNS IDAT IEND"},
		{"one tRNS, behind PLTE too", "IHDR PLTE tRNS IDAT IEND", "IHDR PLTE tRNS tRNS IDAT IEND"},
		{"tRNS ahead", "IHDR tRNS IDAT IEND", "IHDR IDAT tRNS IEND"},
		{"tRNS ahead, with PLTE too", "IHDR PLTE tRNS IDAT IEND", "IHDR PLTE IDAT tRNS IEND"},
		{"no second tRNS behind", "IHDR PLTE tRNS IDAT IEND", "IHDR PLTE tRNS IDAT tRNS IEND"},
		{"tRNS behind PLTE", "IHDR PLTE tRNS IDAT IEND", "IHDR tRNS PLTE IDAT IEND"},
		{"tRNS behind PLTE, apart too", "IHDR gAMA PLTE gAMA tRNS gAMA IDAT IEND", "IHDR tRNS gAMA PLTE gAMA IDAT IEND"},
		{"another critical kind", "IHDR aBCD IDAT IEND", "IHDR ABCD IDAT IEND"},
		{"another critical kind behind", "IHDR IDAT aBCD IEND", "IHDR IDAT ABCD IEND"},
		{"almost a known one", "IHDR iDAT pLTE IDAT iEND IEND", "IHDR IDAt IDAT IEND"},
		{"TRNS is not known", "IHDR tRNS IDAT IEND", "IHDR TRNS IDAT IEND"},
		{"three letters", "IHDR abcd IDAT IEND", "IHDR abc IDAT IEND"},
		{"five letters", "IHDR IDAT abcd IEND", "IHDR IDAT abcde IEND"},
		{"three capitals", "IHDR IDAT IEND", "IHDR IDA IDAT IEND"},
		{"a byte beside A", "IHDR aAcd IDAT IEND", "IHDR a@cd IDAT IEND"},
		{"a byte beside Z", "IHDR abcZ IDAT IEND", "IHDR abc[ IDAT IEND"},
		{"a byte beside a", "IHDR aacd IDAT IEND", "IHDR `acd IDAT IEND"},
		{"a byte beside z", "IHDR abzd IDAT IEND", "IHDR ab{d IDAT IEND"},
		{"another alphabet", "IHDR abcd IDAT IEND", "IHDR éé IDAT IEND"},
		{"a chunk at all", "IHDR IDAT IEND", ""},
	} {
		wantOrder(t, c.what, of(c.well), api.OK)
		wantOrder(t, "not: "+c.what, of(c.broken), api.ErrForm)
	}
}

// P11.2: IHDR has 13 bytes, IEND none; the others any.
func TestOrderLengths(t *testing.T) {
	for n := range 30 {
		l := of("IHDR PLTE tRNS IDAT IDAT gAMA IEND")
		l[0].Data = make([]byte, n)
		if n != 13 {
			wantOrder(t, n, l, api.ErrForm)
		}
		l = of("IHDR PLTE tRNS IDAT IDAT gAMA IEND")
		for i := 1; i < len(l)-1; i++ {
			l[i].Data = noise(i, n*i)
		}
		wantOrder(t, n, l, api.OK)
		l[len(l)-1].Data = make([]byte, n)
		if n != 0 {
			wantOrder(t, n, l, api.ErrForm)
		}
	}
}

// P11.2: 13 bytes of another kind are no IHDR, wherever that one stands.
func TestOrderOfAnotherHead(t *testing.T) {
	for _, kind := range []string{"gAMA", "iHDR", "PLTE", "IDAT", "tRNS"} {
		l := of("IHDR PLTE IDAT IEND")
		l[0].Kind = kind
		wantOrder(t, kind, l, api.ErrForm)
		wantOrder(t, kind, append(l[:1:1], of("IHDR IDAT IEND")...), api.ErrForm)
		wantOrder(t, kind, append(l[:1:1], of("IDAT IHDR IEND")...), api.ErrForm)
	}
}

// P11.2: a kind that is no text of letters, at each place.
func TestOrderOfNoKinds(t *testing.T) {
	for _, kind := range []string{"", "a", "abc", "abcde", "a cd", "1bcd", "ab\x00d", "abc\xff"} {
		for at := 1; at < 6; at++ {
			what := fmt.Sprintf("%q at %d", kind, at)
			l := of("IHDR aaaa bbbb cccc dddd eeee IDAT IEND")
			wantOrder(t, what, l, api.OK)
			l[at].Kind = kind
			wantOrder(t, what, l, api.ErrForm)
		}
	}
}

// P11.2: no chunks, and one.
func TestOrderOfFewChunks(t *testing.T) {
	wantOrder(t, "nil", nil, api.ErrForm)
	wantOrder(t, "none", []chunk.Chunk{}, api.ErrForm)
	wantOrder(t, "one of nothing", []chunk.Chunk{{}}, api.ErrForm)
	for _, kind := range []string{"IHDR", "IDAT", "IEND", "PLTE", "tRNS", "gAMA"} {
		wantOrder(t, kind, of(kind), api.ErrForm)
	}
}

// byLetter are chunks that lists are made of, each with a letter of its own.
var byLetter = map[byte]chunk.Chunk{
	'H': {Kind: "IHDR", Data: make([]byte, 13)}, 'h': {Kind: "IHDR", Data: make([]byte, 12)},
	'P': {Kind: "PLTE"}, 'T': {Kind: "tRNS"}, 'D': {Kind: "IDAT"}, 'a': {Kind: "gAMA", Data: make([]byte, 13)},
	'E': {Kind: "IEND"}, 'e': {Kind: "IEND", Data: []byte{0}}, 'X': {Kind: "XXXX"}, '1': {Kind: "abc1"},
}

// everyList hands on each list of at most n of these letters.
func everyList(letters string, n int, ahead string, hand func(string)) {
	hand(ahead)
	if n == 0 {
		return
	}
	for i := range len(letters) {
		everyList(letters, n-1, ahead+letters[i:i+1], hand)
	}
}

// P11.2, held against a pattern that says it in another way.
func TestOrderOfEveryShortList(t *testing.T) {
	pattern := regexp.MustCompile(`^Ha*(Pa*)?(Ta*)?D+a*E$`)
	hold := func(letters string) {
		l := make([]chunk.Chunk, len(letters))
		for i := range l {
			l[i] = byLetter[letters[i]]
		}
		want := api.ErrForm
		if pattern.MatchString(letters) {
			want = api.OK
		}
		wantOrder(t, letters, l, want)
	}
	everyList("HhPTDaEeX1", 4, "", hold)
	everyList("HPTDaE", 6, "", hold)
	everyList("PTDaHE", 5, "H", func(s string) { hold(s + "E") })
}

// R4, R5: the list stays as it is, and tells the same again.
func TestOrderChangesNothing(t *testing.T) {
	for _, kinds := range []string{"", "IHDR PLTE tRNS IDAT gAMA IEND", "IHDR IDAT PLTE IEND", "abc IDAT"} {
		l, whole := spare(of(kinds), chunk.Chunk{Kind: "mark", Data: []byte{1, 2}})
		before := deep(whole)
		e := chunk.Order(l)
		if f := chunk.Order(l); e != f {
			t.Errorf("%q: %v, then %v", kinds, e, f)
		}
		if !alike(whole, before) {
			t.Errorf("%q: the list is changed", kinds)
		}
	}
}
