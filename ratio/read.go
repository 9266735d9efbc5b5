package ratio

import (
	"optima/api"
	"optima/whole"
)

// figures are the digits of a text that stands as it should, and where those begin that may still be wrong. What is not there is empty.
type figures struct {
	minus, minusExp      bool
	lead, under          string // ahead of `/` or the point; behind `/`
	behind, exp          string // behind the point; behind `e` and its sign
	underStart, expStart int
}

// Read is the number that a text says: a fraction, or a decimal, perhaps with an exponent.
func Read(text string) (R, error) {
	f, err := split(text)
	if err != nil {
		return R{}, err
	}
	size, err := f.size()
	if err != nil {
		return R{}, err
	}
	if f.minus {
		return size.Neg(), nil
	}
	return size, nil
}

// split goes through the text from left to right, up to the first thing that is wrong.
func split(text string) (f figures, err error) {
	c := cursor{text: text}
	f.minus = c.take('-')
	if f.lead, err = c.digits(); err != nil {
		return figures{}, err
	}
	if c.take('/') {
		f.underStart = c.at
		f.under, err = c.digits()
	} else {
		err = f.decimals(&c)
	}
	if err == nil && c.at < len(text) {
		err = c.wrong(api.ErrText)
	}
	return f, err
}

// decimals is what may follow the digits of a text without `/`.
func (f *figures) decimals(c *cursor) (err error) {
	if c.take('.') {
		if f.behind, err = c.digits(); err != nil {
			return err
		}
	}
	if !c.take('e') {
		return nil
	}
	if !c.take('+') {
		f.minusExp = c.take('-')
	}
	f.expStart = c.at
	f.exp, err = c.digits()
	return err
}

// size is the number without its sign.
func (f figures) size() (R, error) {
	num, den := number(f.lead), whole.Of(1)
	if f.under != "" {
		den = number(f.under)
	}
	if f.behind != "" {
		den = tenTo(len(f.behind))
		num = num.Mul(den).Add(number(f.behind))
	}
	exp, small := number(f.exp).Int64()
	if !small || exp > api.MaxExp {
		return R{}, &api.Fault{At: f.expStart, Err: api.ErrBound}
	}
	if f.minusExp {
		den = den.Mul(tenTo(int(exp)))
	} else {
		num = num.Mul(tenTo(int(exp)))
	}
	r, ok := Of(num, den)
	if !ok {
		return R{}, &api.Fault{At: f.underStart, Err: api.ErrZero}
	}
	return r, nil
}

// number is the number of at most MaxDigits digits; of none it is 0.
func number(digits string) whole.Z {
	z, _ := whole.Read(digits)
	return z
}

// tenTo is 10 to the n.
func tenTo(n int) whole.Z {
	power := whole.Of(1)
	for range n {
		power = power.Mul(whole.Of(10))
	}
	return power
}

// cursor is a text, and how far it has been read.
type cursor struct {
	text string
	at   int
}

// take goes past the byte b, if it is the next one.
func (c *cursor) take(b byte) bool {
	if c.at == len(c.text) || c.text[c.at] != b {
		return false
	}
	c.at++
	return true
}

// digits goes past one digit or more, as many as stand there.
func (c *cursor) digits() (string, error) {
	start := c.at
	for range len(c.text) - start {
		if c.text[c.at] < '0' || c.text[c.at] > '9' {
			break
		}
		if c.at-start == api.MaxDigits {
			return "", c.wrong(api.ErrBound)
		}
		c.at++
	}
	if c.at == start {
		return "", c.wrong(api.ErrText)
	}
	return c.text[start:c.at], nil
}

func (c *cursor) wrong(err error) error { return &api.Fault{At: c.at, Err: err} }
