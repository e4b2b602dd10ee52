package calendar_test

import (
	"math"
	"slices"
	"testing"
	"time"

	"regulator/api"
	"regulator/calendar"
)

// Days of the week, as the chapter numbers them.
const (
	monday = iota
	tuesday
	wednesday
	thursday
	friday
	saturday
	sunday
)

// afterAll is how many days it is from day 0 to 1 January 2094, before which all dates are.
const afterAll = 34334

// date is a year, a month and a day of the month.
type date struct{ year, month, date int }

// dateOf returns the date of a number of a day, as another program says it, also if this is no day.
func dateOf(n int) date {
	year, month, day := time.Date(2000, time.January, 1+n, 0, 0, 0, 0, time.UTC).Date()
	return date{year, int(month), day}
}

// weekdayOf returns the day of the week of a number of a day, as another program says it.
func weekdayOf(n int) int {
	weekday := time.Date(2000, time.January, 1+n, 0, 0, 0, 0, time.UTC).Weekday()
	return (int(weekday) + 6) % 7 // which begins with Sunday
}

// days returns the numbers of all dates, also of those after MaxDay.
func days() map[date]int {
	all := map[date]int{}
	for n := range afterAll {
		all[dateOf(n)] = n
	}
	return all
}

// months returns the numbers of the days of each month of the years from 2000 to 2093, which may be after MaxDay.
func months() map[date][]int {
	all := map[date][]int{}
	for n := range afterAll {
		month := dateOf(n)
		month.date = 1
		all[month] = append(all[month], n)
	}
	return all
}

// on returns those of some days that are on a day of the week.
func on(l []int, weekday int) []int {
	var found []int
	for _, n := range l {
		if weekdayOf(n) == weekday {
			found = append(found, n)
		}
	}
	return found
}

// checkDate checks the date of a day, and that no other result comes with an error.
func checkDate(t *testing.T, day int, want date, e api.Errno) {
	t.Helper()
	year, month, d, got := calendar.Date(day)
	if (date{year, month, d}) != want || got != e {
		t.Errorf("Date(%d) is %d, %d, %d, %d, not %v, %d", day, year, month, d, got, want, e)
	}
}

func checkDay(t *testing.T, x date, want int, e api.Errno) {
	t.Helper()
	if day, got := calendar.Day(x.year, x.month, x.date); day != want || got != e {
		t.Errorf("Day(%v) is %d, %d, not %d, %d", x, day, got, want, e)
	}
}

func checkWeekday(t *testing.T, day, want int, e api.Errno) {
	t.Helper()
	if weekday, got := calendar.Weekday(day); weekday != want || got != e {
		t.Errorf("Weekday(%d) is %d, %d, not %d, %d", day, weekday, got, want, e)
	}
}

func checkNth(t *testing.T, year, month, weekday, nth, want int, e api.Errno) {
	t.Helper()
	if day, got := calendar.Nth(year, month, weekday, nth); day != want || got != e {
		t.Errorf("Nth(%d, %d, %d, %d) is %d, %d, not %d, %d", year, month, weekday, nth, day, got, want, e)
	}
}

// theDate returns the date of a day.
func theDate(t *testing.T, day int) date {
	t.Helper()
	year, month, d, e := calendar.Date(day)
	if e != api.OK {
		t.Fatalf("Date(%d) is the error %d", day, e)
	}
	return date{year, month, d}
}

// theDay returns the day with a date.
func theDay(t *testing.T, x date) int {
	t.Helper()
	day, e := calendar.Day(x.year, x.month, x.date)
	if e != api.OK {
		t.Fatalf("Day(%v) is the error %d", x, e)
	}
	return day
}

// theWeekday returns the day of the week of a day.
func theWeekday(t *testing.T, day int) int {
	t.Helper()
	weekday, e := calendar.Weekday(day)
	if e != api.OK {
		t.Fatalf("Weekday(%d) is the error %d", day, e)
	}
	return weekday
}

// P5.1: the chapter's examples, and what its words say of days.
func TestExamples(t *testing.T) {
	for _, x := range []struct {
		day     int
		date    date
		weekday int
	}{
		{0, date{2000, 1, 1}, saturday},
		{59, date{2000, 2, 29}, tuesday},
		{366, date{2001, 1, 1}, monday},
		{api.MaxDay, date{2093, 2, 1}, sunday},
	} {
		checkDate(t, x.day, x.date, api.OK)
		checkDay(t, x.date, x.day, api.OK)
		checkWeekday(t, x.day, x.weekday, api.OK)
	}
	checkNth(t, 2000, 3, sunday, 1, 64, api.OK)
	checkNth(t, 2000, 3, sunday, -1, 85, api.OK)
	checkNth(t, 2000, 1, saturday, 5, 28, api.OK)
}

// P5.1: E1 to E3 for dates that are known.
func TestKnown(t *testing.T) {
	for _, x := range []struct {
		day     int
		date    date
		weekday int
	}{
		{1, date{2000, 1, 2}, sunday},
		{2, date{2000, 1, 3}, monday},
		{30, date{2000, 1, 31}, monday},
		{31, date{2000, 2, 1}, tuesday},
		{58, date{2000, 2, 28}, monday},
		{60, date{2000, 3, 1}, wednesday},
		{365, date{2000, 12, 31}, sunday},
		{366 + 58, date{2001, 2, 28}, wednesday},
		{366 + 59, date{2001, 3, 1}, thursday},
		{730, date{2001, 12, 31}, monday},
		{731, date{2002, 1, 1}, tuesday},
		{1460, date{2003, 12, 31}, wednesday},
		{1461, date{2004, 1, 1}, thursday},
		{1461 + 59, date{2004, 2, 29}, sunday},
		{6209, date{2016, 12, 31}, saturday},
		{8825, date{2024, 2, 29}, thursday},
		{9819, date{2026, 11, 19}, thursday},
		{33662, date{2092, 2, 29}, friday},
		{33968, date{2092, 12, 31}, wednesday},
		{33969, date{2093, 1, 1}, thursday},
		{api.MaxDay - 1, date{2093, 1, 31}, saturday},
	} {
		checkDate(t, x.day, x.date, api.OK)
		checkDay(t, x.date, x.day, api.OK)
		checkWeekday(t, x.day, x.weekday, api.OK)
	}
}

// P5.1: E1 and E3 for all days, against another program.
func TestDays(t *testing.T) {
	for day := range api.MaxDay + 1 {
		checkDate(t, day, dateOf(day), api.OK)
		checkWeekday(t, day, weekdayOf(day), api.OK)
	}
}

// P5.1 and P1: E1 and E3 for what is no day.
func TestNoDay(t *testing.T) {
	for _, n := range []int{
		math.MinInt, math.MinInt + 1, -api.MaxDay, -1461, -366, -365, -31, -7, -2, -1,
		api.MaxDay + 1, api.MaxDay + 2, afterAll - 1, afterAll, math.MaxInt - 1, math.MaxInt,
	} {
		checkDate(t, n, date{}, api.ErrArg)
		checkWeekday(t, n, 0, api.ErrArg)
	}
}

// P5.1: E2 for all dates and for all that are nearly dates, against another program.
func TestDates(t *testing.T) {
	numbers := days()
	for year := 1998; year <= 2095; year++ {
		for month := -1; month <= 14; month++ {
			for d := -1; d <= 33; d++ {
				x := date{year, month, d}
				switch n, ok := numbers[x]; {
				case !ok:
					checkDay(t, x, 0, api.ErrArg)
				case n > api.MaxDay:
					checkDay(t, x, 0, api.ErrRange)
				default:
					checkDay(t, x, n, api.OK)
				}
			}
		}
	}
}

// P5.1 and P1: E2 at the edges of years, months and days of the month, and beyond them.
func TestDateEdges(t *testing.T) {
	for _, x := range []struct {
		date date
		e    api.Errno
	}{
		// years
		{date{1999, 12, 31}, api.ErrArg},
		{date{2094, 1, 1}, api.ErrArg},
		{date{1999, 1, 1}, api.ErrArg},
		{date{1996, 2, 29}, api.ErrArg},
		{date{0, 1, 1}, api.ErrArg},
		{date{-2000, 1, 1}, api.ErrArg},
		{date{math.MinInt, 1, 1}, api.ErrArg},
		{date{math.MaxInt, 1, 1}, api.ErrArg},
		// months
		{date{2000, 0, 1}, api.ErrArg},
		{date{2000, 13, 1}, api.ErrArg},
		{date{2000, -1, 1}, api.ErrArg},
		{date{2000, math.MinInt, 1}, api.ErrArg},
		{date{2000, math.MaxInt, 1}, api.ErrArg},
		// days of the month
		{date{2000, 1, 0}, api.ErrArg},
		{date{2000, 1, 32}, api.ErrArg},
		{date{2000, 2, 30}, api.ErrArg},
		{date{2001, 2, 29}, api.ErrArg},
		{date{2002, 2, 29}, api.ErrArg},
		{date{2003, 2, 29}, api.ErrArg},
		{date{2090, 2, 29}, api.ErrArg},
		{date{2092, 2, 30}, api.ErrArg},
		{date{2000, 4, 31}, api.ErrArg},
		{date{2000, 12, 32}, api.ErrArg},
		{date{2000, 1, -1}, api.ErrArg},
		{date{2000, 1, math.MinInt}, api.ErrArg},
		{date{2000, 1, math.MaxInt}, api.ErrArg},
		// after MaxDay
		{date{2093, 2, 2}, api.ErrRange},
		{date{2093, 2, 28}, api.ErrRange},
		{date{2093, 3, 1}, api.ErrRange},
		{date{2093, 12, 31}, api.ErrRange},
		// no dates, though they would be after MaxDay
		{date{2093, 2, 0}, api.ErrArg},
		{date{2093, 2, 29}, api.ErrArg},
		{date{2093, 4, 31}, api.ErrArg},
		{date{2093, 12, 32}, api.ErrArg},
		{date{2093, 13, 1}, api.ErrArg},
		{date{2094, 2, 1}, api.ErrArg},
	} {
		checkDay(t, x.date, 0, x.e)
	}
}

// P5.2: the date of a day is that of this day alone, and the day of a date has this date.
func TestBack(t *testing.T) {
	seen := map[date]int{}
	for day := range api.MaxDay + 1 {
		x := theDate(t, day)
		if other, ok := seen[x]; ok {
			t.Fatalf("%v is the date of %d and of %d", x, other, day)
		}
		seen[x] = day
		checkDay(t, x, day, api.OK)
	}
	for x := range days() {
		if day, e := calendar.Day(x.year, x.month, x.date); e == api.OK {
			checkDate(t, day, x, api.OK)
		}
	}
}

// P5.3: the next day has the next date.
func TestNext(t *testing.T) {
	for day := range api.MaxDay {
		x := theDate(t, day)
		next := date{x.year, x.month, x.date + 1}
		if _, e := calendar.Day(next.year, next.month, next.date); e == api.ErrArg {
			next = date{x.year, x.month + 1, 1}
		}
		if next.month == 13 {
			next = date{x.year + 1, 1, 1}
		}
		checkDate(t, day+1, next, api.OK)
	}
}

// P5.4: years have 365 days, or 366 if 29 February is between, and four of them 1461.
func TestYears(t *testing.T) {
	for day := range api.MaxDay + 1 {
		x := theDate(t, day)
		if later := day + 1461; later <= api.MaxDay {
			checkDate(t, later, date{x.year + 4, x.month, x.date}, api.OK)
		}
		next := date{x.year + 1, x.month, x.date}
		if x.month == 2 && x.date == 29 {
			checkDay(t, next, 0, api.ErrArg)
			continue
		}
		leap := x.year // whose February comes next, or is not over yet
		if x.month > 2 {
			leap++
		}
		length := 365
		if leap%4 == 0 {
			length = 366
		}
		if day+length <= api.MaxDay {
			checkDay(t, next, day+length, api.OK)
		}
	}
}

// P5.4: years with a 29 February, and without one.
func TestLeapYears(t *testing.T) {
	leap := 0
	for year := 2000; year <= 2092; year++ {
		want, e := 0, api.ErrArg
		if year%4 == 0 {
			want, e = theDay(t, date{year, 2, 28})+1, api.OK
			leap++
		}
		checkDay(t, date{year, 2, 29}, want, e)
	}
	if leap != 24 {
		t.Error(leap)
	}
}

// P5.5: seven days later is the same day of the week, and not sooner; they follow one another.
func TestWeeks(t *testing.T) {
	for day := range api.MaxDay + 1 {
		weekday := theWeekday(t, day)
		for later := 1; later <= 7 && day+later <= api.MaxDay; later++ {
			checkWeekday(t, day+later, (weekday+later)%7, api.OK)
			if same := theWeekday(t, day+later) == weekday; same != (later == 7) {
				t.Errorf("%d and %d days later: %v", day, later, same)
			}
		}
	}
}

// P5.1: E4 for all months, against what another program says of the days in them.
func TestNthAll(t *testing.T) {
	for month, l := range months() {
		for weekday := range 7 {
			these := on(l, weekday)
			for _, nth := range []int{1, 2, 3, 4, 5, -1} {
				index := nth - 1
				if nth == -1 {
					index = len(these) - 1
				}
				switch {
				case index >= len(these):
					checkNth(t, month.year, month.month, weekday, nth, 0, api.ErrNone)
				case these[index] > api.MaxDay:
					checkNth(t, month.year, month.month, weekday, nth, 0, api.ErrRange)
				default:
					checkNth(t, month.year, month.month, weekday, nth, these[index], api.OK)
				}
			}
		}
	}
}

// P5.6: the nth day is in its month, on its day of the week, and has nth - 1 before it; the last one has none behind it.
func TestNthPlace(t *testing.T) {
	for day := range api.MaxDay + 1 {
		x, weekday := theDate(t, day), theWeekday(t, day)
		nth := (x.date-1)/7 + 1
		checkNth(t, x.year, x.month, weekday, nth, day, api.OK)
		if _, e := calendar.Day(x.year, x.month, x.date+7); e == api.ErrArg {
			checkNth(t, x.year, x.month, weekday, -1, day, api.OK)
		}
	}
	for month := range months() {
		for weekday := range 7 {
			for _, nth := range []int{1, 2, 3, 4, 5, -1} {
				day, e := calendar.Nth(month.year, month.month, weekday, nth)
				if e != api.OK {
					continue
				}
				x := theDate(t, day)
				if x.year != month.year || x.month != month.month || theWeekday(t, day) != weekday {
					t.Errorf("the %d. %d of %v is %v", nth, weekday, month, x)
				}
				if before := (x.date - 1) / 7; nth != -1 && before != nth-1 {
					t.Errorf("the %d. %d of %v has %d before it", nth, weekday, month, before)
				}
			}
		}
	}
}

// P5.7: the last one is the fifth one, if there is one, and otherwise the fourth one.
func TestLast(t *testing.T) {
	count := map[bool]int{}
	for month := range months() {
		for weekday := range 7 {
			fifth, e := calendar.Nth(month.year, month.month, weekday, 5)
			want, f := fifth, e
			if e == api.ErrNone {
				want, f = calendar.Nth(month.year, month.month, weekday, 4)
			}
			count[e == api.ErrNone]++
			checkNth(t, month.year, month.month, weekday, -1, want, f)
		}
	}
	if count[true] < 1000 || count[false] < 1000 {
		t.Error(count)
	}
}

// P5.6 and P5.7: months with 28 to 31 days, from the days of the week with five of them to those with four.
func TestFifth(t *testing.T) {
	for _, x := range []struct {
		year, month int
		five        []int
	}{
		{2001, 2, nil}, // 28 days
		{2010, 2, nil}, // 28 days, from a Monday on
		{2000, 2, []int{tuesday}},
		{2024, 2, []int{thursday}},
		{2092, 2, []int{friday}},
		{2000, 4, []int{saturday, sunday}},
		{2000, 1, []int{monday, saturday, sunday}},
		{2000, 3, []int{wednesday, thursday, friday}},
		{2093, 1, []int{thursday, friday, saturday}},
	} {
		for weekday := range 7 {
			e := api.ErrNone
			last, _ := calendar.Nth(x.year, x.month, weekday, 4)
			if slices.Contains(x.five, weekday) {
				last, e = last+7, api.OK
			}
			checkNth(t, x.year, x.month, weekday, -1, last, api.OK)
			if e != api.OK {
				last = 0
			}
			checkNth(t, x.year, x.month, weekday, 5, last, e)
		}
	}
}

// P5.1: E4 around MaxDay, which is a Sunday, and the first day of its month.
func TestNthEnd(t *testing.T) {
	for _, x := range []struct {
		year, month, weekday, nth, day int
		e                              api.Errno
	}{
		{2093, 1, saturday, 5, api.MaxDay - 1, api.OK},
		{2093, 1, saturday, -1, api.MaxDay - 1, api.OK},
		{2093, 1, sunday, 4, api.MaxDay - 7, api.OK},
		{2093, 1, sunday, -1, api.MaxDay - 7, api.OK},
		{2093, 1, sunday, 5, 0, api.ErrNone},
		{2093, 2, sunday, 1, api.MaxDay, api.OK},
		{2093, 2, sunday, 2, 0, api.ErrRange},
		{2093, 2, sunday, 4, 0, api.ErrRange},
		{2093, 2, sunday, -1, 0, api.ErrRange},
		{2093, 2, sunday, 5, 0, api.ErrNone},
		{2093, 2, monday, 1, 0, api.ErrRange},
		{2093, 2, monday, 5, 0, api.ErrNone},
		{2093, 3, sunday, 1, 0, api.ErrRange},
		{2093, 3, sunday, 5, 0, api.ErrRange},
		{2093, 3, wednesday, 5, 0, api.ErrNone},
		{2093, 12, thursday, 5, 0, api.ErrRange},
		{2093, 12, thursday, -1, 0, api.ErrRange},
		{2093, 12, friday, 5, 0, api.ErrNone},
		{2093, 12, friday, -1, 0, api.ErrRange},
	} {
		checkNth(t, x.year, x.month, x.weekday, x.nth, x.day, x.e)
	}
}

// P5.1 and P1: arguments of E4 that are wrong, each alone and several together, and in months whose days are after MaxDay or that have four such days.
func TestNthInvalid(t *testing.T) {
	years := []int{2000, 2026, 2093, 1999, 2094, 0, -1, math.MinInt, math.MaxInt}
	parts := []int{1, 2, 12, 0, 13, -1, math.MinInt, math.MaxInt}
	weekdays := []int{monday, sunday, -1, 7, math.MinInt, math.MaxInt}
	places := []int{-1, 1, 4, 5, 0, 6, -2, math.MinInt, math.MaxInt}
	for _, year := range years {
		for _, month := range parts {
			for _, weekday := range weekdays {
				for _, nth := range places {
					right := 2000 <= year && year <= 2093 && 1 <= month && month <= 12
					right = right && 0 <= weekday && weekday <= 6
					right = right && (nth == -1 || 1 <= nth && nth <= 5)
					if !right {
						checkNth(t, year, month, weekday, nth, 0, api.ErrArg)
					} else if _, e := calendar.Nth(year, month, weekday, nth); e == api.ErrArg {
						t.Errorf("Nth(%d, %d, %d, %d) is ErrArg", year, month, weekday, nth)
					}
				}
			}
		}
	}
}
