/- Plain facts on texts as rows of bytes; nothing here speaks of the program. -/
import Derived.WalkKit
import Derived.Lib.Strings
namespace Go.Proofs.YtkdinhgflkfbkaaDoor
open Go.RowKit
set_option linter.unusedVariables false

theorem bytes_ext {a b : ByteArray} (h : a.data.toList = b.data.toList) : a = b := by
  cases a; cases b
  simp only at h
  congr
  exact Array.ext' h
theorem isEmpty_true (s : ByteArray) (h : s.size = 0) : s.toList.isEmpty = true := by
  rw [ByteArray.toList_eq]
  have h2 : s.data.toList.length = s.size := by simp
  rw [List.eq_nil_of_length_eq_zero (h2.trans h)]
  rfl
theorem isEmpty_false (s : ByteArray) (h : 0 < s.size) : s.toList.isEmpty = false := by
  rw [ByteArray.toList_eq]
  have h2 : s.data.toList.length = s.size := by simp
  cases h3 : s.data.toList with
  | nil => rw [h3] at h2; simp at h2; omega
  | cons x l => rfl
theorem get!_eq (s : ByteArray) (j : Nat) (h : j < s.size) : s.get! j = s[j] := by
  cases s with | mk d => exact getElem!_pos d j h
theorem getElem_data (s : ByteArray) (j : Nat) (h : j < s.size) : s[j] = s.data.toList[j]'(by simpa using h) := rfl
theorem data_append (a b : ByteArray) : (a ++ b).data.toList = a.data.toList ++ b.data.toList := by simp
theorem data_extract (s : ByteArray) (i j : Nat) : (s.extract i j).data.toList = (s.data.toList.drop i).take (j - i) := Lib.toList_data (s.extract i j) ▸ Lib.extract_toList s i j
theorem append_left (a b : ByteArray) (j : Nat) (h : j < a.size) : ((a ++ b).get! j) = a[j] := by
  have h2 : j < (a ++ b).size := by simp; omega
  rw [get!_eq _ _ h2, getElem_data, getElem_data]
  have e := data_append a b
  have : ((a ++ b).data.toList)[j]? = (a.data.toList ++ b.data.toList)[j]? := by rw [e]
  rw [List.getElem?_eq_getElem (by simpa using h2), List.getElem?_append_left (by simpa using h), List.getElem?_eq_getElem (by simpa using h)] at this
  exact Option.some.inj this
theorem extract_right (a b : ByteArray) : (a ++ b).extract a.size (a ++ b).size = b := by
  apply bytes_ext
  rw [data_extract, data_append, List.drop_append_of_le_length (by simp)]
  have : a.data.toList.drop a.size = [] := List.drop_eq_nil_of_le (by simp)
  rw [this, List.nil_append]
  apply List.take_of_length_le
  simp
end Go.Proofs.YtkdinhgflkfbkaaDoor
