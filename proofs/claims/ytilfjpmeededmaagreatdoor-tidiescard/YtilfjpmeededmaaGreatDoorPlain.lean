/- Plain functions on lists of bytes: what package expr asks of a byte and of a text. -/
import Derived.Laws.Strings
namespace Go.Proofs.YtilfjpmeededmaaGreatDoor

def blankB (c : Int) : Bool := c == 32 || c == 9 || c == 10
def bracketB (c : Int) : Bool := c == 40 || c == 41
def digitB (c : Int) : Bool := decide (48 ≤ c) && decide (c ≤ 57)
def letterB (c : Int) : Bool := decide (97 ≤ c) && decide (c ≤ 122)

abbrev Bs := List UInt8
def operS (l : Bs) : Bool := l == [43] || l == [45] || l == [42] || l == [47] || l == [61] || l == [60] || l == [60, 61]
def valS (l : Bs) : Bool := l == [116, 114, 117, 101] || l == [102, 97, 108, 115, 101] || l == [117, 115, 101, 114]
def ldB (c : UInt8) : Bool := letterB c.toNat || digitB c.toNat
def wordS (l : Bs) : Bool := decide (0 < l.length) && decide (l.length ≤ 12) && letterB (l.headD 0).toNat && l.all ldB
def parS (l : Bs) : Bool := decide (l.length = 2) && (l.headD 0 == 36) && digitB (l.getD 1 0).toNat && !(l.getD 1 0 == 48)
def numLoop : Bs → Int → Bool
  | [], _ => true
  | c :: r, n => digitB c.toNat && decide (n * 10 + (c.toNat - 48) ≤ 1000000000) && numLoop r (n * 10 + (c.toNat - 48))
def unminus (l : Bs) : Bs := if l.headD 0 == 45 then l.drop 1 else l
def numS (l : Bs) : Bool := l == [48] || (decide (0 < (unminus l).length) && !((unminus l).headD 0 == 48) && numLoop (unminus l) 0)
def quoC (c : UInt8) : Bool := decide (32 ≤ c.toNat) && decide (c.toNat ≤ 126) && !(c == 39)
def quoteS (l : Bs) : Bool := decide (2 ≤ l.length) && decide (l.length ≤ 32) && (l.getD 0 0 == 39) && (l.getD (l.length - 1) 0 == 39) && ((l.take (l.length - 1)).drop 1).all quoC
def colS (l : Bs) : Bool := l.contains 46 && wordS (l.takeWhile (· != 46)) && wordS ((l.dropWhile (· != 46)).drop 1)
def kindS (l : Bs) : Int :=
  if l == [40] then 1 else if l == [41] then 2 else if operS l then 8 else if numS l then 3 else if quoteS l then 4
  else if parS l then 7 else if wordS l then 5 else if colS l then 6 else 0

theorem toList_length (s : ByteArray) : s.toList.length = s.size := by rw [ByteArray.toList_eq]; simp
theorem toList_get (s : ByteArray) (k : Nat) (h : k < s.size) : s.toList[k]'(by rw [toList_length]; exact h) = s[k] := by
  simp only [ByteArray.toList_eq]; rfl
theorem drop_cons (s : ByteArray) (k : Nat) (h : k < s.size) : s.toList.drop k = s[k] :: s.toList.drop (k + 1) := by
  rw [List.drop_eq_getElem_cons (by rw [toList_length]; exact h), toList_get s k h]
theorem isEmpty_t (s : ByteArray) (h : s.size = 0) : s.toList.isEmpty = true := by
  rw [List.isEmpty_iff_length_eq_zero, toList_length, h]
theorem isEmpty_f (s : ByteArray) (h : 0 < s.size) : s.toList.isEmpty = false := by
  rw [Bool.eq_false_iff]; intro e; rw [List.isEmpty_iff_length_eq_zero, toList_length] at e; omega
theorem head_get (s : ByteArray) (h : 0 < s.size) : s.toList.headD 0 = s[0] := by
  have := drop_cons s 0 h; rw [List.drop_zero] at this; rw [this]; rfl
theorem getD_get (s : ByteArray) (k : Nat) (h : k < s.size) : s.toList.getD k 0 = s[k] := by
  rw [List.getD_eq_getElem?_getD, List.getElem?_eq_getElem (by rw [toList_length]; exact h), toList_get s k h]; rfl
theorem all_drop (f : UInt8 → Bool) (s : ByteArray) (k : Nat) (h : k < s.size) : (s.toList.drop k).all f = (f s[k] && (s.toList.drop (k + 1)).all f) := by
  rw [drop_cons s k h]; rfl
theorem all_end (f : UInt8 → Bool) (s : ByteArray) (k : Nat) (h : s.size ≤ k) : (s.toList.drop k).all f = true := by
  rw [List.drop_of_length_le (by rw [toList_length]; exact h)]; rfl
theorem wordS_of (s : ByteArray) (h : 0 < s.size) (h12 : s.size ≤ 12) : wordS s.toList = (letterB s[0].toNat && s.toList.all ldB) := by
  unfold wordS; rw [toList_length, head_get s h]; simp [h, h12]
end Go.Proofs.YtilfjpmeededmaaGreatDoor
