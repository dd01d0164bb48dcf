package value

// Wrong is what a call that must have a kind panics with.
type Wrong struct {
	Want string
	Got  string
}

func (w *Wrong) Error() string {
	if w == nil {
		return ""
	}
	return "want " + w.Want + ", got " + w.Got
}

// MustText tells the text that v is; if it is none, it panics.
func MustText(v Value) string { return v.mustText() }

// MustCount tells the count that v is; if it is none, it panics.
func MustCount(v Value) int { return v.mustCount() }

// MustYes tells the yes, or the no, that v is; if it is none, it panics.
func MustYes(v Value) bool { return v.mustYes() }

// Try calls f, and tells what it panics with, if that is a Wrong.
func Try(f func()) (wrong *Wrong) {
	if f == nil {
		return nil
	}
	defer func() {
		x := recover()
		if w, ok := x.(*Wrong); ok && w != nil {
			wrong = w
			return
		}
		// A nil Wrong in x is not nil: that panic goes on, too.
		if x != nil {
			panic(x)
		}
	}()
	f()
	return nil
}

func (v Value) mustText() string {
	v.demand(kindText)
	return v.within.(string)
}

func (v Value) mustCount() int {
	v.demand(kindCount)
	return v.within.(int)
}

func (v Value) mustYes() bool {
	v.demand(kindYes)
	return v.within.(bool)
}

// demand panics ahead of an assertion that would not hold: the language's own panic says nothing of kinds.
func (v Value) demand(want string) {
	if got := v.kind(); got != want {
		panic(&Wrong{Want: want, Got: got})
	}
}
