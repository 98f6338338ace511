package meter

import (
	"math/big"

	"drover/api"
)

// model is P9.1 word by word, in numbers that have no bound.
type model struct{ rate, burst, left *big.Int }

func newModel(rate, burst int) *model {
	return &model{number(rate), number(burst), number(burst)}
}

func number(n int) *big.Int { return big.NewInt(int64(n)) }

func (m *model) tick(ticks int) api.Errno {
	if ticks < 0 {
		return api.ErrArg
	}
	m.left.Add(m.left, new(big.Int).Mul(m.rate, number(ticks)))
	if m.left.Cmp(m.burst) > 0 {
		m.left.Set(m.burst)
	}
	return api.OK
}

func (m *model) take(bytes int) (bool, api.Errno) {
	if bytes < 0 {
		return false, api.ErrArg
	}
	if m.left.Cmp(number(bytes)) < 0 {
		return false, api.OK
	}
	m.left.Sub(m.left, number(bytes))
	return true, api.OK
}

// bounds is P9.2 word by word: of each run of calls that goes on, how much may still be taken in it.
type bounds struct {
	rate, burst *big.Int
	room        []*big.Int
}

func newBounds(rate, burst int) *bounds {
	return &bounds{number(rate), number(burst), []*big.Int{number(burst)}}
}

// tick lets each run have rate times ticks more, and begins another run, which has not seen them.
func (b *bounds) tick(ticks int) {
	more := new(big.Int).Mul(b.rate, number(ticks))
	for _, room := range b.room {
		room.Add(room, more)
	}
	b.room = append(b.room, new(big.Int).Set(b.burst))
}

func (b *bounds) take(bytes int) {
	for _, room := range b.room {
		room.Sub(room, number(bytes))
	}
}

// least is how much may be taken now, so that it is not too much in any run.
func (b *bounds) least() *big.Int {
	least := b.room[0]
	for _, room := range b.room {
		if room.Cmp(least) < 0 {
			least = room
		}
	}
	return least
}
