package fuse

import "tocsin/api"

// The numbers of a script: what is done behind the fuse, or with it.
const (
	back = iota
	panicText
	panicError
	panicPlace
	panicNumber
	noWork
	mend
	workBehind
)

// Play does a script.
func Play(most int, script []int) (string, []int) {
	f := New(most)
	letters := make([]byte, len(script))
	counts := make([]int, len(script))
	for i, number := range script {
		letters[i] = f.step(number)
		counts[i] = f.Caught()
	}
	return string(letters), counts
}

// step does what one number of a script says, and tells its letter.
func (f *Fuse) step(number int) byte {
	if number == mend {
		f.Mend()
		return '-'
	}
	work, asked := f.work(number)
	switch {
	case !asked:
		return '-'
	case f.Do(work):
		return 'y'
	}
	return 'n'
}

// work is the work of a number, and whether Do is asked for it.
func (f *Fuse) work(number int) (work func(), asked bool) {
	switch number {
	case back:
		return func() {}, true
	case panicText:
		return sayA, true
	case panicError:
		return func() { panic(api.ErrForm) }, true
	case panicPlace:
		return func() { first(nil) }, true
	case panicNumber:
		return func() { panic(number) }, true
	case noWork:
		return nil, true
	case workBehind:
		return func() { f.Do(sayA) }, true
	}
	return nil, false
}

func sayA() { panic("a") }

// first is the first of a list, which must have one.
func first(list []int) int { return list[0] }
