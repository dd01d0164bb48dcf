package value

import (
	"errors"
	"runtime"
	"testing"
)

// caught tells what f panics with; nil, if it does not.
func caught(f func()) (x any) {
	defer func() { x = recover() }()
	f()
	return nil
}

// wantWrong fails, if f does not panic with a Wrong of these kinds; without a kind that is wanted, if it panics.
func wantWrong(t *testing.T, f func(), want, got string) {
	t.Helper()
	x := caught(f)
	if want == "" {
		if x != nil {
			t.Errorf("of %s: %v", got, x)
		}
		return
	}
	w, ok := x.(*Wrong)
	if !ok || w == nil || *w != (Wrong{Want: want, Got: got}) {
		t.Errorf("of %s: %v; want a Wrong that wants %s", got, x, want)
	}
}

// unlike tells want, if kind is another one.
func unlike(want, kind string) string {
	if kind == want {
		return ""
	}
	return want
}

// P8.2: what is within is told, if it is of that kind; else there is a panic that says what was wanted and what was got.
func TestMust(t *testing.T) {
	for i, x := range samples() {
		var text string
		var count int
		var yes bool
		wantWrong(t, func() { text = MustText(x.v) }, unlike("text", x.kind), x.kind)
		wantWrong(t, func() { count = MustCount(x.v) }, unlike("count", x.kind), x.kind)
		wantWrong(t, func() { yes = MustYes(x.v) }, unlike("yes", x.kind), x.kind)
		if text != x.text || count != x.count || yes != x.yes {
			t.Errorf("%d: %.100q, %d, %t", i, text, count, yes)
		}
	}
}

// P8.2: each panic's Wrong is a new one.
func TestMustNewMemory(t *testing.T) {
	first := Try(func() { MustText(Value{}) })
	*first = Wrong{Want: "spoilt", Got: "spoilt"}
	wantWrong(t, func() { MustText(Value{}) }, "text", "none")
}

// P8.2: the text of a Wrong, of one of any texts, of one of none, of a nil one.
func TestWrongError(t *testing.T) {
	for want, w := range map[string]*Wrong{
		"want count, got text": {Want: "count", Got: "text"},
		"want text, got none":  {Want: "text", Got: "none"},
		"want a\xff, got b, c": {Want: "a\xff", Got: "b, c"},
		"want , got ":          {},
		"want x, got ":         {Want: "x"},
		"want , got x":         {Got: "x"},
		"":                     nil,
	} {
		if got := w.Error(); got != want {
			t.Errorf("%q, want %q", got, want)
		}
	}
	var e error = Try(func() { MustCount(OfText("a")) })
	if e.Error() != "want count, got text" {
		t.Error(e)
	}
}

// P8.3: of nil, and of a function that does not panic, Try tells nothing; the function is called once.
func TestTryWithoutPanic(t *testing.T) {
	if w := Try(nil); w != nil {
		t.Error(w)
	}
	calls := 0
	if w := Try(func() { calls++ }); w != nil || calls != 1 {
		t.Error(w, calls)
	}
	// What f caught itself goes nowhere.
	if w := Try(func() { caught(func() { MustYes(Value{}) }) }); w != nil {
		t.Error(w)
	}
	if w := Try(func() { Try(func() { MustYes(Value{}) }) }); w != nil {
		t.Error(w)
	}
}

// P8.3: of a Wrong Try tells just that one, also one that Must did not make, and the last one of several.
func TestTryWrong(t *testing.T) {
	for _, mine := range []*Wrong{{}, {Want: "a", Got: "b"}, {Want: "text", Got: "text"}} {
		done := false
		w := Try(func() {
			panic(mine)
		})
		if w != mine {
			t.Errorf("%v, want %v", w, mine)
		}
		w = Try(func() {
			defer func() { done = true }()
			func() { panic(mine) }()
		})
		if w != mine || !done {
			t.Errorf("%v, %t, want %v", w, done, mine)
		}
	}
	w := Try(func() {
		defer func() { MustCount(OfYes(true)) }()
		panic("hidden by the one behind it")
	})
	if w == nil || *w != (Wrong{Want: "count", Got: "yes"}) {
		t.Error(w)
	}
}

// wrapped is an error that has a Wrong within, and is none.
type wrapped struct{ *Wrong }

func (w wrapped) Unwrap() error { return w.Wrong }

// P8.3: any other panic goes on, with what it had: a Wrong that is nil, one that is no pointer, one that is wrapped, errors, anything else.
func TestTryOtherPanics(t *testing.T) {
	var none *Wrong
	for i, x := range []any{none, Wrong{Want: "a", Got: "b"}, wrapped{&Wrong{}}, errors.New("e"), error(none), "x", "", 0, false, &i0, struct{}{}, [2]int{1, 2}, Value{}} {
		var w *Wrong
		behind := false
		got := caught(func() {
			w = Try(func() { panic(x) })
			behind = true
		})
		if got != x || w != nil || behind {
			t.Errorf("%d: %v, %v, %t; want %v", i, got, w, behind, x)
		}
	}
}

// i0 is something to point to.
var i0 int

// P8.3: the panics of the language itself go on, too.
func TestTryLanguagePanics(t *testing.T) {
	var l []int
	var e runtime.Error
	got := caught(func() { Try(func() { l[len(l)]++ }) })
	if err, ok := got.(error); !ok || !errors.As(err, &e) {
		t.Error(got)
	}
	got = caught(func() { Try(func() { panic(nil) }) })
	var p *runtime.PanicNilError
	if err, ok := got.(error); !ok || !errors.As(err, &p) {
		t.Error(got)
	}
	var f any = 1
	got = caught(func() { Try(func() { _ = f.(string) }) })
	var a *runtime.TypeAssertionError
	if err, ok := got.(error); !ok || !errors.As(err, &a) {
		t.Error(got)
	}
}

// P8.3: Try within Try: the inner one tells the Wrong, and lets go on what is none.
func TestTryWithinTry(t *testing.T) {
	mine := &Wrong{Want: "a", Got: "b"}
	var inner *Wrong
	if outer := Try(func() { inner = Try(func() { panic(mine) }) }); outer != nil || inner != mine {
		t.Error(outer, inner)
	}
	got := caught(func() { Try(func() { Try(func() { panic("x") }) }) })
	if got != "x" {
		t.Error(got)
	}
}

// P8.3: a goroutine that ends within f does not panic: Try lets it end.
func TestTryEnds(t *testing.T) {
	ended, behind := make(chan bool), false
	go func() {
		defer close(ended)
		Try(runtime.Goexit)
		behind = true
	}()
	<-ended
	if behind {
		t.Error("it went on")
	}
}
