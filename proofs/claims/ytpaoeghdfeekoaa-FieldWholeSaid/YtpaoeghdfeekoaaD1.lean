/- The examples of the document, at the program. -/
import Derived.Test.YtpaoeghdfeekoaaC9
namespace Go.Proofs.Ytpaoeghdfeekoaa
open Go.RowKit Go.Mem Go.RegInv

def exH : List Bool := [false, false]
theorem exD : driveE 2 exL 1 2 = 0 := by decide
theorem exV : volts 1 exH exL = [⟨-1, 5⟩, ⟨1, 1⟩, ⟨1, 0⟩] := by kernel_rfl
theorem exP1 : powers 1 exH exL = [2, 1] := by kernel_rfl
theorem exP2 : powers 2 exH exL = [5, 1] := by kernel_rfl
theorem exW : wattsL 100 (powers 1 exH exL) 2 = [66, 34] := by rw [exP1]; decide
theorem exI : redV (impN 2 1 exH exL) (curIn 1 exH exL) = #[.int .i64 (-4), .int .i64 20, .int .i64 2, .int .i64 1] := by kernel_rfl
theorem exT : redV (timesG (grounded 1 exH exL (min 0 1 : Int).toNat) (volt 1 exH exL ((max 0 1 : Int).toNat + 1))) (volt 1 exH exL 0) = #[.int .i64 0, .int .i64 (-2), .int .i64 1, .int .i64 (-5)] := by kernel_rfl


theorem depth_eq {l : List Int} {pc : Int} {d e : Nat} (h : IsDepth l pc d) (k : IsDepth l pc e) : d = e := by
  obtain ⟨h1, h2, h3⟩ := h
  obtain ⟨k1, k2, k3⟩ := k
  rcases Nat.lt_trichotomy d e with h' | h' | h'
  · have := k2 d h'
    have := h3 (by omega)
    omega
  · exact h'
  · have := h2 e h'
    have := k3 (by omega)
    omega

theorem exD1 : IsDepth (powers (1 : Int) exH exL) 70 2 := by
  rw [exP1]
  exact ⟨by decide, fun j hj => by match j, hj with | 0, _ => decide | 1, _ => decide, fun h => by simp at h⟩
theorem exD2 : IsDepth (powers (2 : Int) exH exL) 70 1 := by
  rw [exP2]
  exact ⟨by decide, fun j hj => by match j, hj with | 0, _ => decide, fun _ => by decide⟩

theorem exF {f er : Int} (h : FreqIs 2 exL exH 2 70 1 f er) : f = 2 ∧ er = 0 := by
  have h0 : freqE 2 exL 2 70 1 = 0 := by decide
  have key : ∀ k : Nat, Deep exH exL 70 1 k → k ≤ 2 := fun k hk => by
    refine Nat.le_of_not_lt fun h => ?_
    obtain ⟨d, h1, h2⟩ := hk 2 (by omega) h
    have := depth_eq h1 exD2
    omega
  rcases h with ⟨h, _⟩ | ⟨_, rfl, k, rfl, h1, h2, h3, d, h4, h5⟩ | ⟨_, _, _, h⟩
  · exact absurd h0 h
  · have := key k h3
    have : k ≠ 1 := by
      rintro rfl
      have := depth_eq h4 exD1
      omega
    exact ⟨by omega, rfl⟩
  · have := key 9 h
    omega

section
variable {gl gd : Nat} {w : World} (hL : LadAt w (some ⟨gl, 0, none⟩) exL) (hH : RowsAt 1 boolEnc w (some ⟨gd, 0, none⟩) exH)
include hL hH

theorem awV : Calls Try.prog 32 #[.agg #[.int .i64 2, .slice (some ⟨gl, 0, none⟩) 2 2], .agg #[.int .i64 1, .slice (some ⟨gd, 0, none⟩) 2 2]] w fun e w' =>
    ∃ g cap, e = .returned (.tuple #[.slice (some ⟨g, 0, none⟩) 3 cap, .int .i64 0]) ∧ RowsAt 2 G.enc w' (some ⟨g, 0, none⟩) [⟨-1, 5⟩, ⟨1, 1⟩, ⟨1, 0⟩] ∧ Ext w w' := by
  refine (voltagesOf_any 2 (some ⟨gl, 0, none⟩) 2 2 exL rfl 1 (some ⟨gd, 0, none⟩) 2 2 exH rfl w hL.1 hH).mono ?_
  rintro e w' ⟨hx, ⟨h, _⟩ | ⟨_, g, cap, h1, h2⟩⟩
  · exact absurd exD h
  · exact ⟨g, cap, h1, exV ▸ h2, hx⟩

theorem awW : Calls Try.prog 42 #[.agg #[.int .i64 2, .slice (some ⟨gl, 0, none⟩) 2 2], .agg #[.int .i64 1, .slice (some ⟨gd, 0, none⟩) 2 2], .int .i64 100] w fun e w' =>
    ∃ v, e = .returned (.tuple #[v, .int .i64 0]) ∧ IntsAt w' v [66, 34] ∧ Ext w w' := by
  refine (wattsIn_any 2 (some ⟨gl, 0, none⟩) 2 2 exL rfl 1 (some ⟨gd, 0, none⟩) 2 2 exH rfl 100 w hL hH).mono ?_
  rintro e w' ⟨hx, ⟨h, _⟩ | ⟨_, v, h1, h2⟩⟩
  · exact absurd (by decide) h
  · exact ⟨v, h1, exW ▸ h2, hx⟩

theorem awI : Calls Try.prog 53 #[.agg #[.int .i64 2, .slice (some ⟨gl, 0, none⟩) 2 2], .agg #[.int .i64 1, .slice (some ⟨gd, 0, none⟩) 2 2]] w fun e w' =>
    e = .returned (.tuple #[.agg #[.int .i64 (-4), .int .i64 20, .int .i64 2, .int .i64 1], .int .i64 0]) ∧ Ext w w' := by
  refine (impedanceOf_any 2 (some ⟨gl, 0, none⟩) 2 2 exL rfl 1 (some ⟨gd, 0, none⟩) 2 2 exH rfl w hL.1 hH (fun _ => .inl (by decide))).mono ?_
  rintro e w' ⟨hx, ⟨h, _⟩ | ⟨_, h1⟩⟩
  · exact absurd exD h
  · exact ⟨by rw [h1, exI], hx⟩

theorem awT : Calls Try.prog 54 #[.agg #[.int .i64 2, .slice (some ⟨gl, 0, none⟩) 2 2], .agg #[.int .i64 1, .slice (some ⟨gd, 0, none⟩) 2 2], .agg #[.int .i64 0, .int .i64 1]] w fun e w' =>
    e = .returned (.tuple #[.agg #[.int .i64 0, .int .i64 (-2), .int .i64 1, .int .i64 (-5)], .int .i64 0]) ∧ Ext w w' := by
  refine (transferOf_any 2 gl 0 2 2 exL rfl 1 (some ⟨gd, 0, none⟩) 2 2 exH rfl 0 1 w hL.1 hH (fun _ => .inl (by decide))).mono ?_
  rintro e w' ⟨hx, ⟨h, _⟩ | ⟨_, h1⟩⟩
  · exact absurd (by decide) h
  · exact ⟨by rw [h1, exT], hx⟩

theorem awF : Calls Try.prog 59 #[.agg #[.int .i64 2, .slice (some ⟨gl, 0, none⟩) 2 2], .slice (some ⟨gd, 0, none⟩) 2 2, .agg #[.int .i64 70, .int .i64 1]] w fun e w' =>
    e = .returned (.tuple #[.int .i64 2, .int .i64 0]) ∧ Ext w w' := by
  refine (frequencyFor_any 2 (some ⟨gl, 0, none⟩) 2 2 exL rfl (some ⟨gd, 0, none⟩) 2 2 exH rfl 70 1 w hL hH).mono ?_
  rintro e w' ⟨hx, f, er, rfl, h⟩
  obtain ⟨rfl, rfl⟩ := exF h
  exact ⟨rfl, hx⟩
end

end Go.Proofs.Ytpaoeghdfeekoaa
