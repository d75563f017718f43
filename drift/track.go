package drift

import "quadrupole/api"

// timesOf returns how many whole times there are from the first Time of valid readings to the last one.
func timesOf(l []api.Reading) int {
	return l[len(l)-1].Time - l[0].Time + 1
}

// Track returns a track that keeps the rate and the readings: the lowest one of those with numbers from -MaxValue on.
func Track(l []api.Reading, rate int) ([]int, bool, api.Errno) {
	if e := validateBy(l, rate); e != api.OK {
		return nil, false, e
	}
	if !agree(l, rate) {
		return nil, false, api.OK
	}
	track := make([]int, timesOf(l))
	for at := range track {
		bounds := boundsAt(l, rate, l[0].Time+at)
		track[at] = max(bounds[0], -api.MaxValue)
	}
	return track, true, api.OK
}

// CheckTrack checks that the track keeps the rate and the readings.
func CheckTrack(l []api.Reading, rate int, track []int) api.Errno {
	if e := validateBy(l, rate); e != api.OK {
		return e
	}
	if len(track) != timesOf(l) {
		return api.ErrArg
	}
	for _, x := range track {
		if !isValue(x) {
			return api.ErrArg
		}
	}
	for at := 1; at < len(track); at++ {
		if distance(track[at-1], track[at]) > rate {
			return api.ErrRule
		}
	}
	for _, r := range l {
		x := track[r.Time-l[0].Time]
		if x < r.Low || x > r.High {
			return api.ErrProof
		}
	}
	return api.OK
}
