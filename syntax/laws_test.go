package syntax_test

import (
	"math/rand"
	"strings"
	"testing"

	"drydock/api"
	"drydock/syntax"
)

// checkWritten checks that a source with a canonical text is read from it, and that the text is written again.
func checkWritten(t *testing.T, s api.Source) bool {
	t.Helper()
	text, err := syntax.Format(s)
	if err != api.OK {
		return false
	}
	back := parse(text)
	if back.err != api.OK || !syntax.Equal(back.source, s) || keyOf(back.source) != keyOf(s) {
		t.Errorf("%.300q is read as %v, and was written for %+v", text, back, s)
	}
	if again, err := syntax.Format(back.source); again != text || err != api.OK {
		t.Errorf("%.300q is written again as %.300q, error %d", text, again, err)
	}
	return true
}

// P9.7: what Format writes is read as an equal source, and written again as the same text.
func TestReadBack(t *testing.T) {
	s, count := sample(t), 0
	eachVariant(&s, func(name string) {
		if checkWritten(t, s) {
			count++
		}
	})
	if count < 800 {
		t.Errorf("%d sources with a text", count)
	}
	checkWritten(t, api.Source{})
	checkWritten(t, long(api.MaxText))
}

// P9.7: what Parse reads has a canonical text, unless that is too long.
func TestWrittenAgain(t *testing.T) {
	r, g := rand.New(rand.NewSource(8)), readGrammar()
	found := map[bool]int{}
	for range 1500 {
		text := spread(r, randomTokens(r, g, 1+r.Intn(5), 0))
		got := parse(text)
		if got.err != api.OK {
			continue
		}
		written := checkWritten(t, got.source)
		found[written]++
		if model, err := canonical(got.source); written != (err == api.OK) || !written && len(model) > 0 {
			t.Errorf("%.300q: error %d", text, err)
		}
	}
	if found[true] < 1000 {
		t.Errorf("texts with and without a canonical text: %v", found)
	}
}

// P9.7: texts that are short enough, whose canonical texts are not.
func TestTooLongWhenWritten(t *testing.T) {
	for _, c := range []struct {
		text string
		err  api.Errno
	}{
		{"extent 1;" + strings.Repeat("volume a b;", 726), api.ErrSize},
		{"extent 1;" + strings.Repeat("volume a b;", 665), api.OK},
		{"extent 1;\n" + strings.Repeat("volume aaaa b;\n", 100) + strings.Repeat("volume a b;", 539) + "volume aaaaaaaaaaa b;", api.OK},
		{"extent 1;\n" + strings.Repeat("volume aaaa b;\n", 100) + strings.Repeat("volume a b;", 539) + "volume aaaaaaaaaaaa b;", api.ErrSize},
		{"extent 1;" + strings.Repeat("site s uplink 9{}", 470), api.ErrSize},
	} {
		got := parse(c.text)
		if got.err != api.OK {
			t.Errorf("%.60q: %d", c.text, got.err)
			continue
		}
		text, err := syntax.Format(got.source)
		if err != c.err || (text == "") != (err != api.OK) {
			t.Errorf("%.60q, %d bytes: %d bytes, error %d", c.text, len(c.text), len(text), err)
		}
		checkFormat(t, c.text, got.source)
	}
}

// P9.7: canonical texts stay as they are, and their positions are those of the text.
func TestCanonicalTexts(t *testing.T) {
	text, err := syntax.Format(sample(t))
	if err != api.OK {
		t.Fatalf("error %d", err)
	}
	got := readGrammar().check(t, text)
	for _, v := range got.source.Volumes {
		if !strings.HasPrefix(strings.Split(text, "\n")[v.Pos.Line-1], "volume "+v.Name+" ") || v.Pos.Col != 8 {
			t.Errorf("volume %+v", v)
		}
	}
	checkWritten(t, got.source)
}
