/- Bytes as a string: what the conversion of a slice of bytes makes, and when two such strings are one, or in order. No function of the program is walked here. -/
import Derived.Test.YteknpodofmmklaaDoorRows
import Derived.Test.YteknpodofmmklaaDoorReads
import Derived.Laws.BytesString
import Derived.Lib.SlBytesConst
import Derived.Lib.Strings
namespace Go.Proofs.YteknpodofmmklaaDoor
open Go.RowKit

def str (l : List Int) : ByteArray := l.foldl (fun r n => r.push (UInt8.ofNat n.toNat)) ByteArray.empty
theorem str_data (l : List Int) : (str l).data.toList = l.map (fun n => UInt8.ofNat n.toNat) := by
  have h : ∀ (s : ByteArray), (l.foldl (fun r n => r.push (UInt8.ofNat n.toNat)) s).data.toList = s.data.toList ++ l.map (fun n => UInt8.ofNat n.toNat) := by
    induction l with
    | nil => intro s; simp
    | cons x r ih => intro s; simp [ih]
  have := h ByteArray.empty
  simpa [str] using this
theorem str_list (l : List Int) : (str l).toList = l.map (fun n => UInt8.ofNat n.toNat) := by rw [ByteArray.toList_eq]; exact str_data l
theorem ofNat_inj {x y : Int} (hx : 0 ≤ x ∧ x ≤ 255) (hy : 0 ≤ y ∧ y ≤ 255) (h : UInt8.ofNat x.toNat = UInt8.ofNat y.toNat) : x = y := by
  have := congrArg UInt8.toNat h
  simp [UInt8.toNat_ofNat'] at this
  omega
theorem map_byte_inj {a b : List Int} (ha : ∀ x ∈ a, 0 ≤ x ∧ x ≤ 255) (hb : ∀ x ∈ b, 0 ≤ x ∧ x ≤ 255) (h : a.map (fun n => UInt8.ofNat n.toNat) = b.map (fun n => UInt8.ofNat n.toNat)) : a = b := by
  induction a generalizing b with
  | nil => cases b with
    | nil => rfl
    | cons y s => simp at h
  | cons x r ih => cases b with
    | nil => simp at h
    | cons y s =>
      simp only [List.map_cons, List.cons.injEq] at h
      rw [ofNat_inj (ha x (by simp)) (hb y (by simp)) h.1, ih (fun z hz => ha z (by simp [hz])) (fun z hz => hb z (by simp [hz])) h.2]

theorem run_str (w : World) (B : Nat) (A : Option Addr) (l : List Int) (n cap : Nat) (hn : l.length = n) (hr : RdS .u8 w B A l) : (convert 54 9 (.slice A n cap)).run Tryd.prog w = .ok (.string (str l)) w := by
  subst hn
  rw [run_convert_bytes_string w 54 9 5 A l.length cap Tryd.underlying54 Tryd.underlying5 Tryd.underlying9]
  cases A with
  | none =>
    cases l with
    | nil => rfl
    | cons x r =>
      obtain ⟨ad, h, _⟩ := hr 0 x rfl
      cases h
  | some a =>
    refine run_bytesToString w a l.length cap l ?_
    have := run_loadCells_list (P := Tryd.prog) w a (l.map (Value.int .u8)) (fun j v hv => by
      rw [List.getElem?_map] at hv
      cases hx : l[j]? with
      | none => rw [hx] at hv; cases hv
      | some x =>
        rw [hx] at hv
        obtain ⟨ad, hA, _, hc⟩ := hr j x hx
        obtain rfl : a = ad := by injection hA
        rw [hc]
        exact hv)
    simpa using this
end Go.Proofs.YteknpodofmmklaaDoor
