package script

import (
	"strconv"
	"strings"

	"debenture/api"
	"debenture/disk"
	"debenture/event"
	"debenture/num"
)

const (
	mostText  = 1 << 20
	storeWord = "store"
	empty     = "-"
	hexDigits = "0123456789abcdef"
)

// whole is a number as a word.
func whole(n int) string {
	return num.Print(int64(n), 0)
}

// hex is a text as a word.
func hex(s string) string {
	if s == "" {
		return empty
	}
	var b strings.Builder
	for i := range len(s) {
		b.WriteByte(hexDigits[s[i]>>4])
		b.WriteByte(hexDigits[s[i]&15])
	}
	return b.String()
}

// storeWords is the words of a script's first line.
func storeWords(s Script) []string {
	c := s.Config
	return []string{storeWord, whole(s.Room), whole(c.Zero), whole(c.Base), whole(c.Times), whole(c.Table)}
}

// words is the words of an act's line.
func words(a Act) []string {
	switch a.Kind {
	case asking:
		return askWords(a)
	case flushing:
		return []string{"flush"}
	case compacting:
		return []string{"compact"}
	case pushing:
		return []string{"push", whole(a.N)}
	case rotating:
		return []string{"rotate"}
	case collecting:
		return []string{"collect"}
	case auditing:
		return []string{"audit"}
	case arming:
		return []string{"arm", whole(a.N)}
	case crashing:
		l := []string{"crash"}
		for _, k := range a.Keep {
			l = append(l, whole(k.Bytes), whole(k.Sector))
		}
		return l
	}
	return []string{"rot", hex(a.Name), whole(a.At), whole(int(a.Bits))}
}

// askWords is the words of the line of an act that asks.
func askWords(act Act) []string {
	a := act.Ask
	switch a.Kind {
	case event.Opened:
		return []string{"opened", a.Req, a.Id, a.A, a.B, hex(a.Text)}
	case event.Ticked:
		return []string{"ticked", a.Req, whole(a.Day)}
	case event.Fixed:
		return []string{"fixed", a.Req, a.A, num.Print(a.N, 0)}
	case event.Chose:
		return []string{"chose", a.Req, a.Id, a.A, whole(a.At), whole(a.Which)}
	case event.Novated:
		return []string{"novated", a.Req, a.Id, a.A, a.B}
	case event.Cancelled:
		return []string{"cancelled", a.Req, a.Id, a.A}
	}
	return []string{"filed", a.Req, a.Id}
}

// line is a line of words.
func line(words []string) string {
	return strings.Join(words, " ") + "\n"
}

// Print is a script's text.
func Print(s Script) (string, api.Errno) {
	if !Right(s) {
		return "", api.ErrArg
	}
	var b strings.Builder
	b.WriteString(line(storeWords(s)))
	for _, a := range s.Acts {
		b.WriteString(line(words(a)))
		if b.Len() > mostText {
			return "", api.ErrLong
		}
	}
	return b.String(), api.OK
}

// taker takes words, one by one; what isn't so is taken as nothing, which is told when the line is printed again.
type taker struct {
	words []string
}

// word takes a word.
func (t *taker) word() string {
	if len(t.words) == 0 {
		return ""
	}
	w := t.words[0]
	t.words = t.words[1:]
	return w
}

// long takes a number of 64 bits.
func (t *taker) long() int64 {
	n, err := strconv.ParseInt(t.word(), 10, 64)
	if err != nil {
		return 0
	}
	return n
}

// number takes a number.
func (t *taker) number() int {
	return int(t.long())
}

// text takes a text.
func (t *taker) text() string {
	w := t.word()
	var b strings.Builder
	for i := 0; i+1 < len(w); i += 2 {
		high, low := strings.IndexByte(hexDigits, w[i]), strings.IndexByte(hexDigits, w[i+1])
		b.WriteByte(byte(high<<4 | low&15))
	}
	return b.String()
}

// takeAct is the act of a line.
func takeAct(s string) (Act, bool) {
	t := &taker{words: strings.Split(s, " ")}
	var a Act
	switch t.word() {
	case "flush":
		a.Kind = flushing
	case "compact":
		a.Kind = compacting
	case "push":
		a.Kind = pushing
		a.N = t.number()
	case "rotate":
		a.Kind = rotating
	case "collect":
		a.Kind = collecting
	case "audit":
		a.Kind = auditing
	case "arm":
		a.Kind = arming
		a.N = t.number()
	case "crash":
		a.Kind = crashing
		for len(t.words) > 0 {
			a.Keep = append(a.Keep, disk.Keep{Bytes: t.number(), Sector: t.number()})
		}
	case "rot":
		a.Kind = rotting
		a.Name, a.At, a.Bits = t.text(), t.number(), uint32(t.long())
	default:
		a = takeAsk(s)
	}
	return a, rightAct(a) && line(words(a)) == s+"\n"
}

// takeAsk is the act of a line that asks.
func takeAsk(s string) Act {
	t := &taker{words: strings.Split(s, " ")}
	var act Act
	a := &act.Ask
	kind := t.word()
	a.Req = t.word()
	switch kind {
	case "opened":
		a.Kind = event.Opened
		a.Id, a.A, a.B, a.Text = t.word(), t.word(), t.word(), t.text()
	case "ticked":
		a.Kind = event.Ticked
		a.Day = t.number()
	case "fixed":
		a.Kind = event.Fixed
		a.A, a.N = t.word(), t.long()
	case "chose":
		a.Kind = event.Chose
		a.Id, a.A, a.At, a.Which = t.word(), t.word(), t.number(), t.number()
	case "novated":
		a.Kind = event.Novated
		a.Id, a.A, a.B = t.word(), t.word(), t.word()
	case "cancelled":
		a.Kind = event.Cancelled
		a.Id, a.A = t.word(), t.word()
	case "filed":
		a.Kind = event.Filed
		a.Id = t.word()
	}
	return act
}

// takeStore is the script of a first line, without acts.
func takeStore(l string) (Script, bool) {
	t := &taker{words: strings.Split(l, " ")}
	var s Script
	t.word()
	s.Room = t.number()
	s.Config.Zero, s.Config.Base = t.number(), t.number()
	s.Config.Times, s.Config.Table = t.number(), t.number()
	return s, rightStore(s) && line(storeWords(s)) == l+"\n"
}

// Parse is a text's script.
func Parse(t string) (Script, int, api.Errno) {
	if len(t) > mostText {
		return Script{}, 0, api.ErrLong
	}
	var s Script
	for n := 1; n == 1 || t != ""; n++ {
		l, rest, ended := strings.Cut(t, "\n")
		var ok bool
		if n == 1 {
			s, ok = takeStore(l)
		} else {
			var a Act
			a, ok = takeAct(l)
			s.Acts = append(s.Acts, a)
		}
		if !ok || !ended || len(s.Acts) > mostActs {
			return Script{}, n, api.ErrForm
		}
		t = rest
	}
	return s, 0, api.OK
}
