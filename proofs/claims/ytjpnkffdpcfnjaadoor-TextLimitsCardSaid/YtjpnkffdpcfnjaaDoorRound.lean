/-
  Plain mathematics: what is encoded is decoded as it was.
-/
import Derived.Test.YtjpnkffdpcfnjaaDoorRef2
set_option linter.unusedVariables false
namespace Go.Proofs.YtjpnkffdpcfnjaaDoor

theorem byteAt_list (l : List UInt8) (k : Nat) (h : k < l.length) : byteAt ⟨l.toArray⟩ k = l[k].toNat := by
  have h' : k < (⟨l.toArray⟩ : ByteArray).size := by show k < (List.toArray l).size; simpa using h
  rw [← byteAt_eq _ k h']
  congr 1

theorem size_list (l : List UInt8) : (⟨l.toArray⟩ : ByteArray).size = l.length := by
  show (List.toArray l).size = _
  simp

theorem dec_enc (c : Nat) (rest : List UInt8) (hc : c < 1114112 ∧ (c < 55296 ∨ 57343 < c)) : Utf8.decode ⟨(enc c ++ rest).toArray⟩ 0 = (c, (enc c).length) := by
  have hok : okc (c : Int) = true := (okc_iff c).2 (by omega)
  by_cases h1 : c < 128
  · have e : enc c = [UInt8.ofNat c] := by unfold enc; rw [if_pos h1]
    rw [e]
    have b0 : byteAt ⟨([UInt8.ofNat c] ++ rest).toArray⟩ 0 = c := by rw [byteAt_list _ 0 (by simp)]; simp; omega
    rw [dec_one _ (by omega), b0]; rfl
  by_cases h2 : c < 2048
  · have e : enc c = [UInt8.ofNat (192 + c / 64), UInt8.ofNat (128 + c % 64)] := by unfold enc; rw [if_neg h1, if_pos h2]
    rw [e]
    generalize ht : (⟨([UInt8.ofNat (192 + c / 64), UInt8.ofNat (128 + c % 64)] ++ rest).toArray⟩ : ByteArray) = t
    have b0 : byteAt t 0 = 192 + c / 64 := by rw [← ht, byteAt_list _ 0 (by simp)]; simp; omega
    have b1 : byteAt t 1 = 128 + c % 64 := by rw [← ht, byteAt_list _ 1 (by simp)]; simp; omega
    have hs : 1 < t.size := by rw [← ht, size_list]; simp
    rw [dec_two t (by omega) (by omega), (contB_iff t 1).2 ⟨hs, by omega⟩, if_pos rfl, if_pos (by omega)]
    have : byteAt t 0 % 32 * 64 + byteAt t 1 % 64 = c := by omega
    rw [this]; rfl
  by_cases h3 : c < 65536
  · have e : enc c = [UInt8.ofNat (224 + c / 4096), UInt8.ofNat (128 + c / 64 % 64), UInt8.ofNat (128 + c % 64)] := by unfold enc; rw [if_neg h1, if_neg h2, if_pos h3]
    rw [e]
    generalize ht : (⟨([UInt8.ofNat (224 + c / 4096), UInt8.ofNat (128 + c / 64 % 64), UInt8.ofNat (128 + c % 64)] ++ rest).toArray⟩ : ByteArray) = t
    have b0 : byteAt t 0 = 224 + c / 4096 := by rw [← ht, byteAt_list _ 0 (by simp)]; simp; omega
    have b1 : byteAt t 1 = 128 + c / 64 % 64 := by rw [← ht, byteAt_list _ 1 (by simp)]; simp; omega
    have b2 : byteAt t 2 = 128 + c % 64 := by rw [← ht, byteAt_list _ 2 (by simp)]; simp; omega
    have hs : 2 < t.size := by rw [← ht, size_list]; simp
    have hcv : byteAt t 0 % 16 * 4096 + byteAt t 1 % 64 * 64 + byteAt t 2 % 64 = c := by omega
    rw [dec_three t (by omega) (by omega), (contB_iff t 1).2 ⟨by omega, by omega⟩, (contB_iff t 2).2 ⟨hs, by omega⟩, show (true && true) = true from rfl, if_pos rfl, hcv, valid_okc, if_pos ⟨by omega, hok⟩]; rfl
  · have e : enc c = [UInt8.ofNat (240 + c / 262144), UInt8.ofNat (128 + c / 4096 % 64), UInt8.ofNat (128 + c / 64 % 64), UInt8.ofNat (128 + c % 64)] := by unfold enc; rw [if_neg h1, if_neg h2, if_neg h3]
    rw [e]
    generalize ht : (⟨([UInt8.ofNat (240 + c / 262144), UInt8.ofNat (128 + c / 4096 % 64), UInt8.ofNat (128 + c / 64 % 64), UInt8.ofNat (128 + c % 64)] ++ rest).toArray⟩ : ByteArray) = t
    have b0 : byteAt t 0 = 240 + c / 262144 := by rw [← ht, byteAt_list _ 0 (by simp)]; simp; omega
    have b1 : byteAt t 1 = 128 + c / 4096 % 64 := by rw [← ht, byteAt_list _ 1 (by simp)]; simp; omega
    have b2 : byteAt t 2 = 128 + c / 64 % 64 := by rw [← ht, byteAt_list _ 2 (by simp)]; simp; omega
    have b3 : byteAt t 3 = 128 + c % 64 := by rw [← ht, byteAt_list _ 3 (by simp)]; simp; omega
    have hs : 3 < t.size := by rw [← ht, size_list]; simp
    have hcv : byteAt t 0 % 8 * 262144 + byteAt t 1 % 64 * 4096 + byteAt t 2 % 64 * 64 + byteAt t 3 % 64 = c := by omega
    rw [dec_four t (by omega) (by omega), (contB_iff t 1).2 ⟨by omega, by omega⟩, (contB_iff t 2).2 ⟨by omega, by omega⟩, (contB_iff t 3).2 ⟨hs, by omega⟩, show (true && true && true) = true from rfl, if_pos rfl, hcv, valid_okc, if_pos ⟨by omega, hok⟩]; rfl

theorem extract_drop (s : ByteArray) (pos : Nat) : s.extract pos s.size = ⟨(s.data.toList.drop pos).toArray⟩ := by
  apply ByteArray.ext
  simp only [ByteArray.data_extract]
  apply Array.ext'
  rw [Array.toList_extract]
  simp only [List.extract_eq_take_drop]
  rw [List.take_of_length_le]
  rw [List.length_drop]
  exact Nat.le_refl _

theorem decF_textOf (s : ByteArray) (l : List Nat) (hl : Chars l) (f pos : Nat) (hp : pos ≤ s.size) (h : s.data.toList.drop pos = textOf l) (hf : (textOf l).length ≤ f) : decF s f pos = l := by
  induction l generalizing f pos with
  | nil =>
    have e := congrArg List.length h
    rw [List.length_drop] at e
    simp only [textOf, List.flatMap_nil, List.length_nil] at e
    refine decF_end s f pos ?_
    have : s.data.toList.length = s.size := rfl
    omega
  | cons c l ih =>
    have ht : textOf (c :: l) = enc c ++ textOf l := rfl
    rw [ht] at h hf
    have hc := hl c (List.mem_cons_self ..)
    have hd := dec_enc c (textOf l) hc
    rw [← h, ← extract_drop, decode_extract s pos hp] at hd
    have hpos : 1 ≤ (enc c).length := by unfold enc; repeat' split
                                         all_goals simp
    have e := congrArg List.length h
    rw [List.length_drop, List.length_append] at e
    have hss : s.data.toList.length = s.size := rfl
    rw [List.length_append] at hf
    obtain ⟨g, rfl⟩ : ∃ g, f = g + 1 := ⟨f - 1, by omega⟩
    unfold decF
    rw [if_pos (by omega), hd]
    simp only []
    rw [ih (fun x hx => hl x (List.mem_cons_of_mem _ hx)) g (pos + (enc c).length) (by omega) ?_ (by omega)]
    rw [← List.drop_drop, h, List.drop_left]

theorem decs_textOf (l : List Nat) (hl : Chars l) : decs ⟨(textOf l).toArray⟩ = l := by
  unfold decs
  refine decF_textOf _ l hl _ 0 (Nat.zero_le _) ?_ ?_
  · simp
  · rw [size_list]; exact Nat.le_refl _
end Go.Proofs.YtjpnkffdpcfnjaaDoor
