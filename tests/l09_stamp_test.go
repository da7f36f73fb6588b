package tests

import (
	"fmt"
	"math"
	"math/rand"
	"testing"
	"time"

	"loop.example/g00038/impl"
)

const allSeconds = 36525 * 86400

// calendar is the library's stamp of a time that begins with the 1st of January 2000.
func calendar(seconds int64) impl.Stamp {
	then := time.Date(2000, 1, 1, 0, 0, 0, 0, time.UTC).Add(time.Duration(seconds) * time.Second)
	second := 3600*then.Hour() + 60*then.Minute() + then.Second()
	return impl.Stamp{Year: int64(then.Year()), Month: int64(then.Month()), Day: int64(then.Day()), Second: int64(second)}
}

func checkStamp(t *testing.T, seconds int64, want impl.Stamp) {
	t.Helper()
	got := impl.StampOf(seconds)
	checkAlike(t, fmt.Sprintf("StampOf(%d)", seconds), got, want)
	checkNumber(t, fmt.Sprintf("SecondsOf(%+v)", want), impl.SecondsOf(want), seconds)
}

func TestP16StampsAreGivenBack(t *testing.T) {
	for day := range int64(36525) {
		for _, second := range []int64{0, 86399} {
			checkStamp(t, 86400*day+second, calendar(86400*day+second))
		}
	}
	rng := rand.New(rand.NewSource(92))
	for range 20000 {
		seconds := rng.Int63n(allSeconds)
		checkStamp(t, seconds, calendar(seconds))
	}
}

func TestStampsByHand(t *testing.T) {
	for seconds, want := range map[int64]impl.Stamp{
		0:                    {Year: 2000, Month: 1, Day: 1},
		1:                    {Year: 2000, Month: 1, Day: 1, Second: 1},
		86399:                {Year: 2000, Month: 1, Day: 1, Second: 86399},
		86400:                {Year: 2000, Month: 1, Day: 2},
		86400 * 30:           {Year: 2000, Month: 1, Day: 31},
		86400 * 31:           {Year: 2000, Month: 2, Day: 1},
		86400 * 59:           {Year: 2000, Month: 2, Day: 29},
		86400*60 - 1:         {Year: 2000, Month: 2, Day: 29, Second: 86399},
		86400 * 60:           {Year: 2000, Month: 3, Day: 1},
		86400 * 365:          {Year: 2000, Month: 12, Day: 31},
		86400 * 366:          {Year: 2001, Month: 1, Day: 1},
		86400 * (366 + 58):   {Year: 2001, Month: 2, Day: 28},
		86400 * (366 + 59):   {Year: 2001, Month: 3, Day: 1},
		86400 * 1461:         {Year: 2004, Month: 1, Day: 1},
		86400 * (1461 + 59):  {Year: 2004, Month: 2, Day: 29},
		86400 * 35064:        {Year: 2096, Month: 1, Day: 1},
		86400 * (35064 + 59): {Year: 2096, Month: 2, Day: 29},
		86400 * 35430:        {Year: 2097, Month: 1, Day: 1},
		86400 * (35430 + 58): {Year: 2097, Month: 2, Day: 28},
		86400 * (35430 + 59): {Year: 2097, Month: 3, Day: 1},
		86400 * 36160:        {Year: 2099, Month: 1, Day: 1},
		86400 * 36524:        {Year: 2099, Month: 12, Day: 31},
		allSeconds - 1:       {Year: 2099, Month: 12, Day: 31, Second: 86399},
	} {
		checkStamp(t, seconds, want)
	}
}

func TestTimesWithoutAStamp(t *testing.T) {
	for _, seconds := range []int64{-1, -86400, allSeconds, allSeconds + 1, mostTime, math.MinInt64, math.MaxInt64} {
		checkAlike(t, fmt.Sprintf("StampOf(%d)", seconds), impl.StampOf(seconds), impl.Stamp{})
	}
}

// Each day of each month of each year is one, and none beside these.
func TestEachDayThatThereIs(t *testing.T) {
	next := int64(0)
	for year := int64(1998); year <= 2102; year++ {
		for month := int64(-1); month <= 14; month++ {
			for day := int64(-1); day <= 33; day++ {
				then := time.Date(int(year), time.Month(month), int(day), 0, 0, 0, 0, time.UTC)
				is := among(year, 2000, 2099) && int64(then.Year()) == year && int64(then.Month()) == month && int64(then.Day()) == day
				want := int64(-1)
				if is {
					want, next = next, next+86400
				}
				checkNumber(t, fmt.Sprintf("%d-%d-%d", year, month, day), impl.SecondsOf(impl.Stamp{Year: year, Month: month, Day: day}), want)
			}
		}
	}
	checkNumber(t, "all of them", next, allSeconds)
}

func TestStampsThatAreNone(t *testing.T) {
	least, most := int64(math.MinInt64), int64(math.MaxInt64)
	for _, stamp := range []impl.Stamp{
		{}, {Year: 2000}, {Year: 2000, Month: 1}, {Year: 2000, Day: 1}, {Month: 1, Day: 1},
		{Year: 1999, Month: 12, Day: 31, Second: 86399}, {Year: 2100, Month: 1, Day: 1}, {Year: -2000, Month: 1, Day: 1}, {Year: least, Month: 1, Day: 1}, {Year: most, Month: 1, Day: 1},
		{Year: 2000, Month: 0, Day: 1}, {Year: 2000, Month: 13, Day: 1}, {Year: 2000, Month: -1, Day: 1}, {Year: 2000, Month: least, Day: 1}, {Year: 2000, Month: most, Day: 1},
		{Year: 2000, Month: 1, Day: 0}, {Year: 2000, Month: 1, Day: 32}, {Year: 2000, Month: 1, Day: -1}, {Year: 2000, Month: 1, Day: least}, {Year: 2000, Month: 1, Day: most},
		{Year: 2000, Month: 2, Day: 30}, {Year: 2001, Month: 2, Day: 29}, {Year: 2096, Month: 2, Day: 30}, {Year: 2097, Month: 2, Day: 29}, {Year: 2099, Month: 2, Day: 29},
		{Year: 2000, Month: 4, Day: 31}, {Year: 2000, Month: 6, Day: 31}, {Year: 2000, Month: 9, Day: 31}, {Year: 2000, Month: 11, Day: 31}, {Year: 2099, Month: 12, Day: 32},
		{Year: 2000, Month: 1, Day: 1, Second: -1}, {Year: 2000, Month: 1, Day: 1, Second: 86400}, {Year: 2000, Month: 1, Day: 1, Second: least}, {Year: 2000, Month: 1, Day: 1, Second: most},
		{Year: 2001, Month: 3, Day: 4, Second: -1}, {Year: 2001, Month: 3, Day: 4, Second: -86400}, {Year: 2001, Month: 3, Day: 4, Second: 86400}, {Year: 2099, Month: 12, Day: 31, Second: 86400},
	} {
		checkNumber(t, fmt.Sprintf("%+v", stamp), impl.SecondsOf(stamp), -1)
	}
}
