/-
  What the given reader's Text does: for every sentence that is made as it should be and whose text is no longer than 100,000,000 bytes.
-/
import Derived.Test.YtpbbmagjhkakgaaGreatDoorRTextW
namespace Go.Proofs.YtpbbmagjhkakgaaGreatDoor
open Go.RowKit Go.Deep

theorem rtext_any : ∀ x : BT Pay, TextOK x := by
  intro x
  induction x with
  | nil => intro v B w _ hg _; exact hg.elim
  | node b0 o0 a l r ihl ihr =>
    intro v B w h hg hlen
    obtain ⟨X, pl, pr, rfl, hB, hX, hpn, hl, hr, hcase⟩ := ref_parts h hg
    have hP : printB (.node b0 o0 a l r) = if a.op = 116 then [116, 114, 117, 101]
      else if a.op = 97 then a.name.data.toList
      else if a.op = 8743 ∨ a.op = 8744 ∨ a.op = 83 then [40] ++ printB l ++ [32] ++ opW a ++ [32] ++ printB r ++ [41]
      else opW a ++ printB l := rfl
    rcases hg with ⟨h1, h2, h3, h4, _⟩ | ⟨h1, h2, h3, h4, _⟩ | ⟨h1, h2, h3, h4, gl, gr⟩ | ⟨h1, h2, h3, h4, gl, _⟩
    · have := rtext_leaf X w a pl pr hX (.inl h1) (by omega) (by omega)
      rw [if_pos h1] at this
      rw [hP, if_pos h1]
      exact this
    · have := rtext_leaf X w a pl pr hX (.inr h1) (by omega) (by omega)
      rw [if_neg (by omega)] at this
      rw [hP, if_neg (by omega), if_pos h1]
      exact this
    · rw [if_neg (by omega), if_neg (by omega), if_pos h1] at hP
      rw [hP] at hlen ⊢
      simp only [List.length_append, List.length_cons, List.length_nil] at hlen
      rcases h1 with e | e | e
      · have := rtext_and l r ihl ihr gl gr B X w a pl pr hX hl hr e (by omega) (by omega) (by omega)
        have e2 : opW a = [226, 136, 167] := by unfold opW; rw [e]; rfl
        rw [e2]
        simpa using this
      · have := rtext_or l r ihl ihr gl gr B X w a pl pr hX hl hr e (by omega) (by omega) (by omega)
        have e2 : opW a = [226, 136, 168] := by unfold opW; rw [e]; rfl
        rw [e2]
        simpa using this
      · have := rtext_since l r ihl ihr gl gr B X w a pl pr hX hl hr e (by omega) (by omega) (by omega)
        have e2 : opW a = [83] ++ winD a := by unfold opW winD; rw [e]; rfl
        rw [e2]
        simpa using this
    · rw [if_neg (by omega), if_neg (by omega), if_neg (by omega)] at hP
      rw [hP] at hlen ⊢
      simp only [List.length_append] at hlen
      rcases h1 with e | e | e | e
      · have := rtext_not l ihl gl B X w a pl pr hX hl e (by omega) (by omega) (by omega)
        have e2 : opW a = [194, 172] := by unfold opW; rw [e]; rfl
        rw [e2]
        exact this
      · have := rtext_win 89 (by decide) l ihl gl B X w a pl pr hX hl (by rw [e]; rfl) (by omega) (by omega) (by omega)
        have e2 : opW a = [89] ++ winD a := by unfold opW winD; rw [e]; rfl
        rw [e2]
        exact this
      · have := rtext_win 79 (by decide) l ihl gl B X w a pl pr hX hl (by rw [e]; rfl) (by omega) (by omega) (by omega)
        have e2 : opW a = [79] ++ winD a := by unfold opW winD; rw [e]; rfl
        rw [e2]
        exact this
      · have := rtext_win 72 (by decide) l ihl gl B X w a pl pr hX hl (by rw [e]; rfl) (by omega) (by omega) (by omega)
        have e2 : opW a = [72] ++ winD a := by unfold opW winD; rw [e]; rfl
        rw [e2]
        exact this

end Go.Proofs.YtpbbmagjhkakgaaGreatDoor
