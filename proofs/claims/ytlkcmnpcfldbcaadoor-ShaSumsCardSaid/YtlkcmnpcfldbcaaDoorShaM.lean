/- The mathematics of the digests: numbers of 64 bits, the schedule, the rounds, the padding. -/
import Derived.ProofKit
namespace Arb

/-- x turned right by n bits. -/
def rotr (x n : Nat) : Nat := x / 2 ^ n ||| x * 2 ^ (64 - n) % 18446744073709551616
def sg0 (x : Nat) : Nat := rotr x 1 ^^^ rotr x 8 ^^^ x / 128
def sg1 (x : Nat) : Nat := rotr x 19 ^^^ rotr x 61 ^^^ x / 64
/-- The next number of the schedule. -/
def wnext (w : List Nat) (t : Nat) : Nat := (w.getD (t - 16) 0 + w.getD (t - 7) 0 + sg0 (w.getD (t - 15) 0) + sg1 (w.getD (t - 2) 0)) % 18446744073709551616
/-- The schedule behind k steps from the sixteen numbers w. -/
def sched (w : List Nat) : Nat → List Nat
  | 0 => w
  | k + 1 => sched w k ++ [wnext (sched w k) (16 + k)]
def rx (e f g h k w : Nat) : Nat := (h + (rotr e 14 ^^^ rotr e 18 ^^^ rotr e 41) + ((e &&& f) ^^^ ((18446744073709551615 - e) &&& g)) + k + w) % 18446744073709551616
def ry (a b c : Nat) : Nat := ((rotr a 28 ^^^ rotr a 34 ^^^ rotr a 39) + ((a &&& b) ^^^ (a &&& c) ^^^ (b &&& c))) % 18446744073709551616
/-- One round. -/
def rnd (v : List Nat) (k w : Nat) : List Nat :=
  let x := rx (v.getD 4 0) (v.getD 5 0) (v.getD 6 0) (v.getD 7 0) k w
  let y := ry (v.getD 0 0) (v.getD 1 0) (v.getD 2 0)
  [(x + y) % 18446744073709551616, v.getD 0 0, v.getD 1 0, v.getD 2 0, (v.getD 3 0 + x) % 18446744073709551616, v.getD 4 0, v.getD 5 0, v.getD 6 0]
def shaK : List Nat :=
  [4794697086780616226, 8158064640168781261, 13096744586834688815, 16840607885511220156, 4131703408338449720, 6480981068601479193, 10538285296894168987, 12329834152419229976,
   15566598209576043074, 1334009975649890238, 2608012711638119052, 6128411473006802146, 8268148722764581231, 9286055187155687089, 11230858885718282805, 13951009754708518548,
   16472876342353939154, 17275323862435702243, 1135362057144423861, 2597628984639134821, 3308224258029322869, 5365058923640841347, 6679025012923562964, 8573033837759648693,
   10970295158949994411, 12119686244451234320, 12683024718118986047, 13788192230050041572, 14330467153632333762, 15395433587784984357, 489312712824947311, 1452737877330783856,
   2861767655752347644, 3322285676063803686, 5560940570517711597, 5996557281743188959, 7280758554555802590, 8532644243296465576, 9350256976987008742, 10552545826968843579,
   11727347734174303076, 12113106623233404929, 14000437183269869457, 14369950271660146224, 15101387698204529176, 15463397548674623760, 17586052441742319658, 1182934255886127544,
   1847814050463011016, 2177327727835720531, 2830643537854262169, 3796741975233480872, 4115178125766777443, 5681478168544905931, 6601373596472566643, 7507060721942968483,
   8399075790359081724, 8693463985226723168, 9568029438360202098, 10144078919501101548, 10430055236837252648, 11840083180663258601, 13761210420658862357, 14299343276471374635,
   14566680578165727644, 15097957966210449927, 16922976911328602910, 17689382322260857208, 500013540394364858, 748580250866718886, 1242879168328830382, 1977374033974150939,
   2944078676154940804, 3659926193048069267, 4368137639120453308, 4836135668995329356, 5532061633213252278, 6448918945643986474, 6902733635092675308, 7801388544844847127]
def shaH : List Nat := [7640891576956012808, 13503953896175478587, 4354685564936845355, 11912009170470909681, 5840696475078001361, 11170449401992604703, 2270897969802886507, 6620516959819538809]
/-- The eight numbers behind t rounds. -/
def rounds (w v : List Nat) : Nat → List Nat
  | 0 => v
  | t + 1 => rnd (rounds w v t) (shaK.getD t 0) (w.getD t 0)
def addAll (h v : List Nat) : List Nat := List.zipWith (fun a b => (a + b) % 18446744073709551616) h v
/-- The number of the first k of the bytes l. -/
def val8 (l : List UInt8) : Nat := l.foldl (fun n b => n * 256 + b.toNat) 0
/-- The numbers of a block. -/
def words (l : List UInt8) (n : Nat) : List Nat := (List.range n).map fun t => val8 ((l.drop (8 * t)).take 8)
def compress (h : List Nat) (blk : List UInt8) : List Nat := addAll h (rounds (sched (words blk 16) 64) h 80)
/-- The eight bytes of a number. -/
def be8 (x : Nat) : List UInt8 := (List.range 8).map fun i => UInt8.ofNat (x / 2 ^ (56 - 8 * i))
/-- How many bytes 0 stand behind n bytes and the byte 128. -/
def zerosOf (n : Nat) : Nat := (128 - (n + 17) % 128) % 128
def padded (l : List UInt8) : List UInt8 := l ++ [128] ++ List.replicate (zerosOf l.length) 0 ++ be8 0 ++ be8 (8 * l.length)
def shaRun : Nat → List Nat → List UInt8 → List Nat
  | 0, h, _ => h
  | n + 1, h, s => shaRun n (compress h (s.take 128)) (s.drop 128)
def bytesOf (h : List Nat) : List UInt8 := h.flatMap be8
def sha512 (l : List UInt8) : List UInt8 := bytesOf (shaRun ((padded l).length / 128) shaH (padded l))

theorem abc : (sha512 [97, 98, 99]).take 32 = [221, 175, 53, 161, 147, 97, 122, 186, 204, 65, 115, 73, 174, 32, 65, 49, 18, 230, 250, 78, 137, 169, 126, 162, 10, 158, 238, 230, 75, 85, 211, 154] := by decide +kernel
end Arb
