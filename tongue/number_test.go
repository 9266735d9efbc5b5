package tongue

import (
	"strings"
	"testing"

	"optima/api"
	"optima/ratio"
)

func TestNumber(t *testing.T) {
	ahead, behind := strings.Repeat("7", api.MaxDigits), strings.Repeat("3", api.MaxPlaces)
	for _, word := range []string{"0", "1", "-1", "1/2", "-13/8", ahead, "-" + ahead, ahead + behind + "/1" + strings.Repeat("0", api.MaxPlaces), "-" + ahead + behind + "/1" + strings.Repeat("0", api.MaxPlaces)} {
		if value, ok := Number(word); !ok || value.Text() != word {
			t.Errorf("%s: %s, %v", word, value.Text(), ok)
		}
	}
	for _, word := range []string{"", "-", "x", "01", "-0", "1.5", "1e3", "2/4", "1/1", "1/0", "0/0", "1/-2", "-1/-2", "--1", "1/", "/2", "1/2/3", " 1", "1 ", "1" + strings.Repeat("0", 1000)} {
		if value, ok := Number(word); ok || value.Cmp(ratio.R{}) != 0 {
			t.Errorf("%q: %s, %v", word, value.Text(), ok)
		}
	}
}
