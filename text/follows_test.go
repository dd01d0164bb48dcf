package text

import (
	"slices"
	"strings"
	"testing"

	"chandler/api"
)

// rows tells each row of up to n of these parts.
func rows(n int, parts ...string) []string {
	all, last := []string{""}, []string{""}
	for range n {
		var next []string
		for _, s := range last {
			for _, p := range parts {
				next = append(next, s+p)
			}
		}
		all, last = append(all, next...), next
	}
	return all
}

// slowWords tells words by the document's words: what stands between white space, sign by sign.
func slowWords(s string) []string {
	var words []string
	word := ""
	for _, c := range []byte(s + " ") {
		if c != ' ' && c != '\t' {
			word += string([]byte{c})
		} else if word != "" {
			words, word = append(words, word), ""
		}
	}
	return words
}

// P4.5: lines, each with a line feed, are the text, with one at its end; and have the same lines.
func TestLinesFollow(t *testing.T) {
	for _, s := range rows(6, "\n", "a", " ", "é") {
		lines, at := Lines([]byte(s))
		if at != (api.At{}) {
			t.Fatalf("Lines(%q): %v", s, at)
		}
		text := ""
		for _, line := range lines {
			if strings.Contains(line, "\n") {
				t.Errorf("Lines(%q) = %q", s, lines)
			}
			text += line + "\n"
		}
		want := s
		if s != "" && !strings.HasSuffix(s, "\n") {
			want += "\n"
		}
		if text != want {
			t.Errorf("Lines(%q) = %q: together %q", s, lines, text)
		}
		if again, at := Lines([]byte(text)); at != (api.At{}) || !slices.Equal(again, lines) {
			t.Errorf("Lines(%q) = %q, of them again %q", s, lines, again)
		}
	}
}

// P4.5: words with a space between have the same words, which are not empty and have no white space within.
func TestWordsFollow(t *testing.T) {
	for _, s := range rows(7, " ", "\t", "a", "\xff") {
		words := Words(s)
		if !slices.Equal(words, slowWords(s)) {
			t.Errorf("Words(%q) = %q", s, words)
		}
		if again := Words(strings.Join(words, " ")); !slices.Equal(again, words) {
			t.Errorf("Words(%q) = %q, of them again %q", s, words, again)
		}
		for _, w := range words {
			if got := Words(w); w == "" || Trim(w) != w || len(got) != 1 || got[0] != w {
				t.Errorf("Words(%q) = %q, of which one has %q", s, words, got)
			}
		}
	}
}

// P4.5: Trim of Trim is Trim; it has the same words, and no white space at its ends.
func TestTrimFollow(t *testing.T) {
	for _, s := range rows(7, " ", "\t", "a", "\xe2") {
		got := Trim(s)
		if Trim(got) != got || !strings.Contains(s, got) || !slices.Equal(Words(got), Words(s)) {
			t.Errorf("Trim(%q) = %q", s, got)
		}
		if got != "" && strings.ContainsAny(got[:1]+got[len(got)-1:], " \t") {
			t.Errorf("Trim(%q) = %q: white space at an end", s, got)
		}
	}
}
