package frame

import "tocsin/api"

// A control frame's size, and where its fields end.
const (
	kindEnd     = markSize + 1
	fromEnd     = kindEnd + 1
	cycleEnd    = fromEnd + 8
	crewEnd     = cycleEnd + 4
	clearEnd    = crewEnd + 8
	noughtsEnd  = clearEnd + 6
	controlSize = noughtsEnd + sumSize
)

// Control is a control frame's bytes.
func Control(c api.Control) ([]byte, api.Errno) {
	if !rightControl(c) {
		return nil, api.ErrArg
	}
	b := put(make([]byte, 0, controlSize), controlMark, markSize)
	b = put(b, uint64(c.Kind), kindEnd-markSize)
	b = put(b, uint64(c.From), fromEnd-kindEnd)
	b = put(b, uint64(c.Cycle), cycleEnd-fromEnd)
	b = put(b, uint64(c.Crew), crewEnd-cycleEnd)
	b = put(b, uint64(c.Clear), clearEnd-crewEnd)
	b = put(b, 0, noughtsEnd-clearEnd)
	return seal(b), api.OK
}

// ReadControl reads a control frame.
func ReadControl(b []byte) (api.Control, api.Errno) {
	if e := check(b, isControl, controlSize, controlSize); e != api.OK {
		return api.Control{}, e
	}
	c := api.Control{
		Kind:  int(number(b[markSize:kindEnd])),
		From:  int(number(b[kindEnd:fromEnd])),
		Cycle: int64(number(b[fromEnd:cycleEnd])),
		Crew:  uint32(number(b[cycleEnd:crewEnd])),
		Clear: int64(number(b[crewEnd:clearEnd])),
	}
	if !rightControl(c) || !blank(b[clearEnd:noughtsEnd]) {
		return api.Control{}, api.ErrForm
	}
	return c, api.OK
}

// rightControl tells whether each field of a control frame is in its range.
func rightControl(c api.Control) bool {
	return (c.Kind == api.Integrate || c.Kind == api.Compress) &&
		c.From >= 0 && c.From <= api.MaxHosts+1 &&
		c.Cycle >= 0 && c.Cycle <= api.MaxTime &&
		c.Crew < 1<<api.MaxHosts &&
		c.Clear >= 0 && c.Clear <= api.MaxDelay
}
