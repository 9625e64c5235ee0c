package docket_test

import (
	"math/rand"
	"regexp"
	"sort"
	"strings"
	"testing"

	"docket/api"
	"docket/docket"
)

// aText is the document's word TEXT, said once more; N stands for a blank and a number.
var aText = regexp.MustCompile(strings.ReplaceAll(
	`^w(N)+\n(?:c (?:[01]N|[2-8]NN|9NNN|10N|1[12]NN)\n)*(?:r(N)+\n)*$`,
	"N", `(?: (?:0|-?[1-9][0-9]{0,9}))`))

// endings has at least one for each beginning of a text that makes a text of it.
func endings() []string {
	list := []string{"w 1\n"}
	for ones := range 4 {
		end := strings.Repeat(" 1", ones) + "\n"
		list = append(list, end, "1"+end)
	}
	return append(list, "")
}

var ends = endings()

func beginsSomeText(s string) bool {
	for _, end := range ends {
		if aText.MatchString(s + end) {
			return true
		}
	}
	return false
}

// longestBeginning is the length of the longest beginning of s which some text begins with.
func longestBeginning(s string) int {
	return sort.Search(len(s), func(n int) bool { return !beginsSomeText(s[:n+1]) })
}

// sift holds Parse(s) against the word TEXT, and tells whether s is one.
func sift(t *testing.T, s string) bool {
	t.Helper()
	if aText.MatchString(s) {
		if _, wrong, _ := docket.Parse(s); wrong == api.ErrText {
			t.Errorf("P14: Parse(%q) takes it for no text", s)
		}
		return true
	}
	doesNotParse(t, s, api.ErrText, longestBeginning(s))
	return false
}

func TestThePlaceIsTheLongestBeginningOfSomeText(t *testing.T) {
	for s, want := range map[string]int{
		"": 0, "x": 0, "w 031": 3, "w 31\nc 13": 8, "w 31\nc 2 0\n": 10, "w 12345678901": 12, "w 31\nc 9": 8, "w 1\nc 1 0\nr 0 -": 15,
	} {
		if n := longestBeginning(s); n != want {
			t.Errorf("the longest beginning of %q has %d bytes, not %d", s, n, want)
		}
	}
}

// Behind each beginning of a text every byte is tried.
func TestThePlaceAtEveryByte(t *testing.T) {
	text := "w 31 7\nc 0 -5\nc 9 0 1 2\nc 12 10 250\nr 1 1000000000\n"
	for n := range len(text) + 1 {
		for b := range 256 {
			sift(t, text[:n]+string([]byte{byte(b)}))
		}
	}
}

// All short strings of the bytes that texts have, behind some beginnings.
func TestThePlaceInShortStrings(t *testing.T) {
	texts := 0
	for _, head := range []string{"", "w", "w 1\n", "w 1\nc", "w 1\nc 1", "w 1\nc 9 1", "w 1\nc 1 1\n", "w 1\nr", "w 1\nr 0\n", "w 123456789"} {
		strs := []string{head}
		for len(strs) > 0 {
			s := strs[0]
			strs = strs[1:]
			if sift(t, s) {
				texts++
			}
			if len(s) < len(head)+4 {
				for _, b := range "wcr 0129-\n" {
					strs = append(strs, s+string(b))
				}
			}
		}
	}
	if texts < 50 {
		t.Errorf("the short strings prove little: %d texts", texts)
	}
}

// Texts of random forms with some bytes put in, taken out or made others.
func TestThePlaceInSpoiltTexts(t *testing.T) {
	r := rand.New(rand.NewSource(19))
	texts := 0
	for range 2000 {
		s := spelled(anyForm(r))
		s = s[max(0, len(s)-150):]
		if s[0] != 'w' {
			s = "w 1\n" + s[strings.Index(s, "\n")+1:]
		}
		for range 1 + r.Intn(2) {
			at := r.Intn(len(s))
			b := "wcr 0123456789-\n"[r.Intn(16)]
			switch r.Intn(4) {
			case 0:
				s = s[:at] + string(b) + s[at:]
			case 1:
				s = s[:at] + s[at+1:]
			case 2:
				s = s[:at] + string(b) + s[at+1:]
			default:
				s = s[:at] + s[at:at+1] + s[at:]
			}
		}
		if sift(t, s) {
			texts++
		}
	}
	if texts < 200 || texts > 1800 {
		t.Errorf("the spoilt texts prove little: %d are texts", texts)
	}
}

func TestParseOfAnyBytes(t *testing.T) {
	r := rand.New(rand.NewSource(23))
	for range 2000 {
		s := make([]byte, r.Intn(60))
		for i := range s {
			s[i] = byte(r.Intn(256))
		}
		sift(t, string(s))
		sift(t, "w 31\nc 1 1\n"+string(s))
	}
}
