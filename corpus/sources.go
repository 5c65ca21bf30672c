package corpus

// The sources, byte by byte as the chapter has them: nothing here is laid out anew.
const (
	cellsSource = `\ cells: a row of cells lives on by a rule of eight bits, a row a frame
64 buffer old
64 buffer new
variable row
variable rule
: cell ( n -- b ) 63 and old + c@ ;
: next ( n -- b ) dup 1- cell 2* 2* over cell 2* + swap 1+ cell + rule @ swap rshift 1 and ;
: line 64 0 do i next dup new i + c! i row @ rot 200 * plot loop ;
: copy 64 0 do new i + c@ old i + c! loop ;
: down row @ 1+ 48 umod row ! ;
: choose pad 1 and if 90 rule ! then pad 2 and if 30 rule ! then ;
: main 30 rule ! 1 old 32 + c! begin line copy down choose yield again ;
`

	paintSource = `\ paint: a pen that the gamepad moves; button 16 changes its colour
variable x
variable y
variable colour
: go ( step place many -- ) swap >r r@ @ rot + over + swap umod r> ! ;
: main 32 x ! 24 y ! 7 colour !
begin
pad 1 and if -1 y 48 go then
pad 2 and if 1 y 48 go then
pad 4 and if -1 x 64 go then
pad 8 and if 1 x 64 go then
pad 16 and if colour @ 31 + colour ! then
x @ y @ colour @ plot yield
again ;
`

	pongSource = `\ pong: two bats and a ball; the left bat is the player's
8 constant size
variable bx variable by variable vx variable vy
variable left variable right
variable cx variable cy variable cc
: bat ( x y colour -- ) cc ! cy ! cx ! size 0 do cx @ cy @ i + cc @ plot loop ;
: ball ( colour -- ) bx @ by @ rot plot ;
: clamp ( n -- n ) 0 max 40 min ;
: player left @ pad 1 and if 1- then pad 2 and if 1+ then clamp left ! ;
: machine right @ 4 + by @ < if 1 else right @ 4 + by @ > if -1 else 0 then then
right @ + clamp right ! ;
: walls by @ 1 < if 1 vy ! then by @ 46 > if -1 vy ! then ;
: hit ( top -- flag ) by @ swap - size u< ;
: bats bx @ 3 = if left @ hit if 1 vx ! 660 3 tone then then
bx @ 60 = if right @ hit if -1 vx ! 550 3 tone then then ;
: serve 32 bx ! 24 by ! 1 vx ! 1 vy ! ;
: out bx @ 0= bx @ 63 = or if 220 9 tone serve then ;
: move 0 ball bx @ vx @ + bx ! by @ vy @ + by ! walls bats out 255 ball ;
: draw 2 left @ 200 bat 61 right @ 100 bat ;
: clear 2 left @ 0 bat 61 right @ 0 bat ;
: main 20 left ! 20 right ! serve begin clear player machine draw move yield again ;
`

	snakeSource = `\ snake: it grows by what it eats, and begins anew when it bites itself
128 buffer xs
128 buffer ys
variable head variable len variable dx variable dy
variable fx variable fy variable seed
: slot ( n -- offset ) 63 and 2* ;
: x@ ( n -- x ) slot xs + @ ;
: y@ ( n -- y ) slot ys + @ ;
: put ( x y n -- ) slot >r r@ ys + ! r> xs + ! ;
: random ( n -- m ) seed @ 25173 * 13849 + seed ! seed @ 8 rshift swap umod ;
: food 64 random fx ! 48 random fy ! fx @ fy @ 9 plot ;
: turn pad 1 and if 0 dx ! -1 dy ! then pad 2 and if 0 dx ! 1 dy ! then
pad 4 and if -1 dx ! 0 dy ! then pad 8 and if 1 dx ! 0 dy ! then ;
: wrap ( n m -- r ) swap over + swap umod ;
: next ( -- x y ) head @ x@ dx @ + 64 wrap head @ y@ dy @ + 48 wrap ;
: pixel ( x y -- c ) 6 lshift + $c000 + c@ ;
: paint ( n colour -- ) swap dup x@ swap y@ rot plot ;
: all ( colour -- ) len @ 0 do head @ i - over paint loop drop ;
: start 0 head ! 3 len ! 1 dx ! 0 dy ! 3 0 do 10 i - 24 0 i - put loop 5 all ;
: grow len @ 1+ 60 min len ! ;
: cut head @ len @ - 1+ 0 paint ;
: step next over over pixel dup 5 =
if drop 2drop 0 all 180 9 tone start
else 9 = if grow food 880 4 tone else cut then
over over 5 plot head @ 1+ 63 and head ! head @ put then ;
: main 12345 seed ! start food begin turn step yield again ;
`

	songSource = `\ song: sixteen notes that stand in a bank, and a line that climbs with them
variable time
0 bank { 65 73 82 87 98 110 123 130 123 110 98 87 82 73 65 55 }
1 bank { 98 98 110 98 130 123 98 98 110 98 146 130 98 98 196 164 }
: note ( n -- pitch ) 15 and $4000 + c@ 4 * ;
: tune pad 1 and bank ;
: play time @ 7 and 0= if time @ 3 rshift note 5 tone then ;
: dot time @ 63 and 47 time @ 3 rshift note 4 rshift 47 min - time @ 1 or plot ;
: main begin tune play dot time @ 1+ time ! yield again ;
`
)
