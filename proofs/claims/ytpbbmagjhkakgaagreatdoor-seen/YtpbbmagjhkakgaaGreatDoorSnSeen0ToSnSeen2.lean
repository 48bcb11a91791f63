/-
  What Seen does: where it stands behind its calls of watched.
-/
/-
  What Seen does: the loop that looks back over the events.
-/
/-
  What Seen does: what was told of an event is what was found.
-/
import Derived.Test.YtpbbmagjhkakgaaGreatDoorSnRoundToSnSem
namespace Go.Proofs.YtpbbmagjhkakgaaGreatDoor.Ev
open Go.RowKit Go.Deep Go.Maps Go.Proofs.YtpbbmagjhkakgaaGreatDoor.Lf Go.Conc
set_option maxRecDepth 100000 in
theorem open276 {A : Act} (hsz : A.tmps.size = 276) (hd : A.defers = []) : ∃ u : Nat → Value, (∀ j v, A.tmps[j]? = some v → u j = v) ∧ A = ⟨#[u 0, u 1, u 2, u 3, u 4, u 5, u 6, u 7, u 8, u 9, u 10, u 11, u 12, u 13, u 14, u 15, u 16, u 17, u 18, u 19, u 20, u 21, u 22, u 23, u 24, u 25, u 26, u 27, u 28, u 29, u 30, u 31, u 32, u 33, u 34, u 35, u 36, u 37, u 38, u 39, u 40, u 41, u 42, u 43, u 44, u 45, u 46, u 47, u 48, u 49, u 50, u 51, u 52, u 53, u 54, u 55, u 56, u 57, u 58, u 59, u 60, u 61, u 62, u 63, u 64, u 65, u 66, u 67, u 68, u 69, u 70, u 71, u 72, u 73, u 74, u 75, u 76, u 77, u 78, u 79, u 80, u 81, u 82, u 83, u 84, u 85, u 86, u 87, u 88, u 89, u 90, u 91, u 92, u 93, u 94, u 95, u 96, u 97, u 98, u 99, u 100, u 101, u 102, u 103, u 104, u 105, u 106, u 107, u 108, u 109, u 110, u 111, u 112, u 113, u 114, u 115, u 116, u 117, u 118, u 119, u 120, u 121, u 122, u 123, u 124, u 125, u 126, u 127, u 128, u 129, u 130, u 131, u 132, u 133, u 134, u 135, u 136, u 137, u 138, u 139, u 140, u 141, u 142, u 143, u 144, u 145, u 146, u 147, u 148, u 149, u 150, u 151, u 152, u 153, u 154, u 155, u 156, u 157, u 158, u 159, u 160, u 161, u 162, u 163, u 164, u 165, u 166, u 167, u 168, u 169, u 170, u 171, u 172, u 173, u 174, u 175, u 176, u 177, u 178, u 179, u 180, u 181, u 182, u 183, u 184, u 185, u 186, u 187, u 188, u 189, u 190, u 191, u 192, u 193, u 194, u 195, u 196, u 197, u 198, u 199, u 200, u 201, u 202, u 203, u 204, u 205, u 206, u 207, u 208, u 209, u 210, u 211, u 212, u 213, u 214, u 215, u 216, u 217, u 218, u 219, u 220, u 221, u 222, u 223, u 224, u 225, u 226, u 227, u 228, u 229, u 230, u 231, u 232, u 233, u 234, u 235, u 236, u 237, u 238, u 239, u 240, u 241, u 242, u 243, u 244, u 245, u 246, u 247, u 248, u 249, u 250, u 251, u 252, u 253, u 254, u 255, u 256, u 257, u 258, u 259, u 260, u 261, u 262, u 263, u 264, u 265, u 266, u 267, u 268, u 269, u 270, u 271, u 272, u 273, u 274, u 275], []⟩ := by
  refine ⟨fun j => A.tmps.getD j undef, fun j v h => by show A.tmps.getD j undef = v; rw [Array.getD_eq_getD_getElem?, h]; rfl, ?_⟩
  have e : A.tmps = #[A.tmps.getD 0 undef, A.tmps.getD 1 undef, A.tmps.getD 2 undef, A.tmps.getD 3 undef, A.tmps.getD 4 undef, A.tmps.getD 5 undef, A.tmps.getD 6 undef, A.tmps.getD 7 undef, A.tmps.getD 8 undef, A.tmps.getD 9 undef, A.tmps.getD 10 undef, A.tmps.getD 11 undef, A.tmps.getD 12 undef, A.tmps.getD 13 undef, A.tmps.getD 14 undef, A.tmps.getD 15 undef, A.tmps.getD 16 undef, A.tmps.getD 17 undef, A.tmps.getD 18 undef, A.tmps.getD 19 undef, A.tmps.getD 20 undef, A.tmps.getD 21 undef, A.tmps.getD 22 undef, A.tmps.getD 23 undef, A.tmps.getD 24 undef, A.tmps.getD 25 undef, A.tmps.getD 26 undef, A.tmps.getD 27 undef, A.tmps.getD 28 undef, A.tmps.getD 29 undef, A.tmps.getD 30 undef, A.tmps.getD 31 undef, A.tmps.getD 32 undef, A.tmps.getD 33 undef, A.tmps.getD 34 undef, A.tmps.getD 35 undef, A.tmps.getD 36 undef, A.tmps.getD 37 undef, A.tmps.getD 38 undef, A.tmps.getD 39 undef, A.tmps.getD 40 undef, A.tmps.getD 41 undef, A.tmps.getD 42 undef, A.tmps.getD 43 undef, A.tmps.getD 44 undef, A.tmps.getD 45 undef, A.tmps.getD 46 undef, A.tmps.getD 47 undef, A.tmps.getD 48 undef, A.tmps.getD 49 undef, A.tmps.getD 50 undef, A.tmps.getD 51 undef, A.tmps.getD 52 undef, A.tmps.getD 53 undef, A.tmps.getD 54 undef, A.tmps.getD 55 undef, A.tmps.getD 56 undef, A.tmps.getD 57 undef, A.tmps.getD 58 undef, A.tmps.getD 59 undef, A.tmps.getD 60 undef, A.tmps.getD 61 undef, A.tmps.getD 62 undef, A.tmps.getD 63 undef, A.tmps.getD 64 undef, A.tmps.getD 65 undef, A.tmps.getD 66 undef, A.tmps.getD 67 undef, A.tmps.getD 68 undef, A.tmps.getD 69 undef, A.tmps.getD 70 undef, A.tmps.getD 71 undef, A.tmps.getD 72 undef, A.tmps.getD 73 undef, A.tmps.getD 74 undef, A.tmps.getD 75 undef, A.tmps.getD 76 undef, A.tmps.getD 77 undef, A.tmps.getD 78 undef, A.tmps.getD 79 undef, A.tmps.getD 80 undef, A.tmps.getD 81 undef, A.tmps.getD 82 undef, A.tmps.getD 83 undef, A.tmps.getD 84 undef, A.tmps.getD 85 undef, A.tmps.getD 86 undef, A.tmps.getD 87 undef, A.tmps.getD 88 undef, A.tmps.getD 89 undef, A.tmps.getD 90 undef, A.tmps.getD 91 undef, A.tmps.getD 92 undef, A.tmps.getD 93 undef, A.tmps.getD 94 undef, A.tmps.getD 95 undef, A.tmps.getD 96 undef, A.tmps.getD 97 undef, A.tmps.getD 98 undef, A.tmps.getD 99 undef, A.tmps.getD 100 undef, A.tmps.getD 101 undef, A.tmps.getD 102 undef, A.tmps.getD 103 undef, A.tmps.getD 104 undef, A.tmps.getD 105 undef, A.tmps.getD 106 undef, A.tmps.getD 107 undef, A.tmps.getD 108 undef, A.tmps.getD 109 undef, A.tmps.getD 110 undef, A.tmps.getD 111 undef, A.tmps.getD 112 undef, A.tmps.getD 113 undef, A.tmps.getD 114 undef, A.tmps.getD 115 undef, A.tmps.getD 116 undef, A.tmps.getD 117 undef, A.tmps.getD 118 undef, A.tmps.getD 119 undef, A.tmps.getD 120 undef, A.tmps.getD 121 undef, A.tmps.getD 122 undef, A.tmps.getD 123 undef, A.tmps.getD 124 undef, A.tmps.getD 125 undef, A.tmps.getD 126 undef, A.tmps.getD 127 undef, A.tmps.getD 128 undef, A.tmps.getD 129 undef, A.tmps.getD 130 undef, A.tmps.getD 131 undef, A.tmps.getD 132 undef, A.tmps.getD 133 undef, A.tmps.getD 134 undef, A.tmps.getD 135 undef, A.tmps.getD 136 undef, A.tmps.getD 137 undef, A.tmps.getD 138 undef, A.tmps.getD 139 undef, A.tmps.getD 140 undef, A.tmps.getD 141 undef, A.tmps.getD 142 undef, A.tmps.getD 143 undef, A.tmps.getD 144 undef, A.tmps.getD 145 undef, A.tmps.getD 146 undef, A.tmps.getD 147 undef, A.tmps.getD 148 undef, A.tmps.getD 149 undef, A.tmps.getD 150 undef, A.tmps.getD 151 undef, A.tmps.getD 152 undef, A.tmps.getD 153 undef, A.tmps.getD 154 undef, A.tmps.getD 155 undef, A.tmps.getD 156 undef, A.tmps.getD 157 undef, A.tmps.getD 158 undef, A.tmps.getD 159 undef, A.tmps.getD 160 undef, A.tmps.getD 161 undef, A.tmps.getD 162 undef, A.tmps.getD 163 undef, A.tmps.getD 164 undef, A.tmps.getD 165 undef, A.tmps.getD 166 undef, A.tmps.getD 167 undef, A.tmps.getD 168 undef, A.tmps.getD 169 undef, A.tmps.getD 170 undef, A.tmps.getD 171 undef, A.tmps.getD 172 undef, A.tmps.getD 173 undef, A.tmps.getD 174 undef, A.tmps.getD 175 undef, A.tmps.getD 176 undef, A.tmps.getD 177 undef, A.tmps.getD 178 undef, A.tmps.getD 179 undef, A.tmps.getD 180 undef, A.tmps.getD 181 undef, A.tmps.getD 182 undef, A.tmps.getD 183 undef, A.tmps.getD 184 undef, A.tmps.getD 185 undef, A.tmps.getD 186 undef, A.tmps.getD 187 undef, A.tmps.getD 188 undef, A.tmps.getD 189 undef, A.tmps.getD 190 undef, A.tmps.getD 191 undef, A.tmps.getD 192 undef, A.tmps.getD 193 undef, A.tmps.getD 194 undef, A.tmps.getD 195 undef, A.tmps.getD 196 undef, A.tmps.getD 197 undef, A.tmps.getD 198 undef, A.tmps.getD 199 undef, A.tmps.getD 200 undef, A.tmps.getD 201 undef, A.tmps.getD 202 undef, A.tmps.getD 203 undef, A.tmps.getD 204 undef, A.tmps.getD 205 undef, A.tmps.getD 206 undef, A.tmps.getD 207 undef, A.tmps.getD 208 undef, A.tmps.getD 209 undef, A.tmps.getD 210 undef, A.tmps.getD 211 undef, A.tmps.getD 212 undef, A.tmps.getD 213 undef, A.tmps.getD 214 undef, A.tmps.getD 215 undef, A.tmps.getD 216 undef, A.tmps.getD 217 undef, A.tmps.getD 218 undef, A.tmps.getD 219 undef, A.tmps.getD 220 undef, A.tmps.getD 221 undef, A.tmps.getD 222 undef, A.tmps.getD 223 undef, A.tmps.getD 224 undef, A.tmps.getD 225 undef, A.tmps.getD 226 undef, A.tmps.getD 227 undef, A.tmps.getD 228 undef, A.tmps.getD 229 undef, A.tmps.getD 230 undef, A.tmps.getD 231 undef, A.tmps.getD 232 undef, A.tmps.getD 233 undef, A.tmps.getD 234 undef, A.tmps.getD 235 undef, A.tmps.getD 236 undef, A.tmps.getD 237 undef, A.tmps.getD 238 undef, A.tmps.getD 239 undef, A.tmps.getD 240 undef, A.tmps.getD 241 undef, A.tmps.getD 242 undef, A.tmps.getD 243 undef, A.tmps.getD 244 undef, A.tmps.getD 245 undef, A.tmps.getD 246 undef, A.tmps.getD 247 undef, A.tmps.getD 248 undef, A.tmps.getD 249 undef, A.tmps.getD 250 undef, A.tmps.getD 251 undef, A.tmps.getD 252 undef, A.tmps.getD 253 undef, A.tmps.getD 254 undef, A.tmps.getD 255 undef, A.tmps.getD 256 undef, A.tmps.getD 257 undef, A.tmps.getD 258 undef, A.tmps.getD 259 undef, A.tmps.getD 260 undef, A.tmps.getD 261 undef, A.tmps.getD 262 undef, A.tmps.getD 263 undef, A.tmps.getD 264 undef, A.tmps.getD 265 undef, A.tmps.getD 266 undef, A.tmps.getD 267 undef, A.tmps.getD 268 undef, A.tmps.getD 269 undef, A.tmps.getD 270 undef, A.tmps.getD 271 undef, A.tmps.getD 272 undef, A.tmps.getD 273 undef, A.tmps.getD 274 undef, A.tmps.getD 275 undef] := (arr_get A.tmps 276 hsz).trans rfl
  obtain ⟨t, d⟩ := A
  simp only at *
  subst hd
  rw [Act.mk.injEq]
  exact ⟨e, rfl⟩
def ActS (eo : Option Addr) (ln cap : Nat) (a b : Int) (s1 s2 s3 s4 : ByteArray) (A : Act) : Prop := A.defers = [] ∧ A.tmps.size = 276 ∧ A.tmps[0]? = some (.slice eo ln cap) ∧ A.tmps[1]? = some (.int .i64 a) ∧ A.tmps[2]? = some (.int .i64 b) ∧ A.tmps[7]? = some (.bool true) ∧ A.tmps[9]? = some (.string s1) ∧ A.tmps[10]? = some (.bool true) ∧ A.tmps[11]? = some (.string s2) ∧ A.tmps[12]? = some (.bool true) ∧ A.tmps[13]? = some (.string s3) ∧ A.tmps[14]? = some (.bool true) ∧ A.tmps[15]? = some (.string s4) ∧ A.tmps[16]? = some (.bool true)
set_option maxRecDepth 100000 in
theorem ActS.open {eo : Option Addr} {ln cap : Nat} {a b : Int} {s1 s2 s3 s4 : ByteArray} {A : Act} (h : ActS eo ln cap a b s1 s2 s3 s4 A) : ∃ u : Nat → Value, A = ⟨#[(.slice eo ln cap), (.int .i64 a), (.int .i64 b), u 3, u 4, u 5, u 6, (.bool true), u 8, (.string s1), (.bool true), (.string s2), (.bool true), (.string s3), (.bool true), (.string s4), (.bool true), u 17, u 18, u 19, u 20, u 21, u 22, u 23, u 24, u 25, u 26, u 27, u 28, u 29, u 30, u 31, u 32, u 33, u 34, u 35, u 36, u 37, u 38, u 39, u 40, u 41, u 42, u 43, u 44, u 45, u 46, u 47, u 48, u 49, u 50, u 51, u 52, u 53, u 54, u 55, u 56, u 57, u 58, u 59, u 60, u 61, u 62, u 63, u 64, u 65, u 66, u 67, u 68, u 69, u 70, u 71, u 72, u 73, u 74, u 75, u 76, u 77, u 78, u 79, u 80, u 81, u 82, u 83, u 84, u 85, u 86, u 87, u 88, u 89, u 90, u 91, u 92, u 93, u 94, u 95, u 96, u 97, u 98, u 99, u 100, u 101, u 102, u 103, u 104, u 105, u 106, u 107, u 108, u 109, u 110, u 111, u 112, u 113, u 114, u 115, u 116, u 117, u 118, u 119, u 120, u 121, u 122, u 123, u 124, u 125, u 126, u 127, u 128, u 129, u 130, u 131, u 132, u 133, u 134, u 135, u 136, u 137, u 138, u 139, u 140, u 141, u 142, u 143, u 144, u 145, u 146, u 147, u 148, u 149, u 150, u 151, u 152, u 153, u 154, u 155, u 156, u 157, u 158, u 159, u 160, u 161, u 162, u 163, u 164, u 165, u 166, u 167, u 168, u 169, u 170, u 171, u 172, u 173, u 174, u 175, u 176, u 177, u 178, u 179, u 180, u 181, u 182, u 183, u 184, u 185, u 186, u 187, u 188, u 189, u 190, u 191, u 192, u 193, u 194, u 195, u 196, u 197, u 198, u 199, u 200, u 201, u 202, u 203, u 204, u 205, u 206, u 207, u 208, u 209, u 210, u 211, u 212, u 213, u 214, u 215, u 216, u 217, u 218, u 219, u 220, u 221, u 222, u 223, u 224, u 225, u 226, u 227, u 228, u 229, u 230, u 231, u 232, u 233, u 234, u 235, u 236, u 237, u 238, u 239, u 240, u 241, u 242, u 243, u 244, u 245, u 246, u 247, u 248, u 249, u 250, u 251, u 252, u 253, u 254, u 255, u 256, u 257, u 258, u 259, u 260, u 261, u 262, u 263, u 264, u 265, u 266, u 267, u 268, u 269, u 270, u 271, u 272, u 273, u 274, u 275], []⟩ := by
  obtain ⟨hd, hsz, h0, h1, h2, h7, h9, h10, h11, h12, h13, h14, h15, h16⟩ := h
  obtain ⟨u, hu, e⟩ := open276 hsz hd
  have k0 := hu 0 _ h0
  have k1 := hu 1 _ h1
  have k2 := hu 2 _ h2
  have k7 := hu 7 _ h7
  have k9 := hu 9 _ h9
  have k10 := hu 10 _ h10
  have k11 := hu 11 _ h11
  have k12 := hu 12 _ h12
  have k13 := hu 13 _ h13
  have k14 := hu 14 _ h14
  have k15 := hu 15 _ h15
  have k16 := hu 16 _ h16
  simp only [k0, k1, k2, k7, k9, k10, k11, k12, k13, k14, k15, k16] at e
  exact ⟨u, e⟩
def bitS (x : Bool) : ByteArray := if x then ⟨#[49]⟩ else ⟨#[48]⟩
theorem bitS_size (x : Bool) : (bitS x).size = 1 := by cases x <;> rfl
theorem verS_at (x : BT Pay) (L : List (Int × Int)) : ∀ (n i : Nat), i < n → (verS x L n).extract i (i + 1) = bitS (verZ x L i)
  | 0, _, h => absurd h (Nat.not_lt_zero _)
  | n + 1, i, h => by
    have hs := verS_size x L n
    have e : verS x L (n + 1) = verS x L n ++ bitS (verZ x L n) := rfl
    rw [e]
    by_cases hi : i < n
    · rw [← verS_at x L n i hi]
      apply ByteArray.ext
      simp only [ByteArray.data_extract, ByteArray.data_append]
      rw [Array.extract_append]
      have h1 : i + 1 - (verS x L n).data.size = 0 := by have : (verS x L n).data.size = n := hs; omega
      rw [h1]
      simp
    · obtain rfl : i = n := by omega
      apply ByteArray.ext
      simp only [ByteArray.data_extract, ByteArray.data_append]
      have h2 : (verS x L i).data.size = i := hs
      rw [Array.extract_append, h2]
      have h3 : (bitS (verZ x L i)).data.size = 1 := bitS_size _
      have h4 : (verS x L i).data.extract i (i + 1) = #[] := by
        apply Array.eq_empty_of_size_eq_zero
        simp [h2]
      have h5 : i + 1 - i = 1 := by omega
      rw [h4, Nat.sub_self, h5]
      simp [h3]
def timesV (L : List (Int × Int)) (n : Nat) : List Value := (List.range n).map fun j => Value.int .i64 (timeZ L (j + 1))
def hasV (L : List (Int × Int)) (n : Nat) : List Value := (List.range n).map fun j => Value.int .i64 (rawN L j : Nat)
theorem timesV_get (L : List (Int × Int)) (n j : Nat) (h : j < n) : (timesV L n)[j]? = some (.int .i64 (timeZ L (j + 1))) := by simp [timesV, h]
theorem hasV_get (L : List (Int × Int)) (n j : Nat) (h : j < n) : (hasV L n)[j]? = some (.int .i64 (rawN L j : Nat)) := by simp [hasV, h]
theorem timesV_snoc (L : List (Int × Int)) (n : Nat) : timesV L (n + 1) = timesV L n ++ [.int .i64 (timeZ L (n + 1))] := by simp [timesV, List.range_succ]
theorem hasV_snoc (L : List (Int × Int)) (n : Nat) : hasV L (n + 1) = hasV L n ++ [.int .i64 (rawN L n : Nat)] := by simp [hasV, List.range_succ]
theorem infoInt : (Tryz.prog.info? 3).map (fun i => (i.zero, i.size, i.bytes)) = some (some (.int .i64 0), 1, 8) := by kernel_rfl
theorem bits_one (n : Nat) (h : n < 8) : bits BinOp.and IntKind.i64 (n : Int) 1 = if bitN n 0 then 1 else 0 := by
  have h1 : n = 0 ∨ n = 1 ∨ n = 2 ∨ n = 3 ∨ n = 4 ∨ n = 5 ∨ n = 6 ∨ n = 7 := by omega
  rcases h1 with rfl | rfl | rfl | rfl | rfl | rfl | rfl | rfl <;> decide
theorem bits_two (n : Nat) (h : n < 8) : bits BinOp.and IntKind.i64 (n : Int) 2 = if bitN n 1 then 2 else 0 := by
  have h1 : n = 0 ∨ n = 1 ∨ n = 2 ∨ n = 3 ∨ n = 4 ∨ n = 5 ∨ n = 6 ∨ n = 7 := by omega
  rcases h1 with rfl | rfl | rfl | rfl | rfl | rfl | rfl | rfl <;> decide
noncomputable def body7 : Code := Tryz.f7.body.getD .skip
noncomputable def rest7 : Code := match body7 with
  | .seq _ (.seq _ (.seq _ (.seq _ (.seq _ (.seq _ (.seq _ (.seq _ (.seq _ x)))))))) => x
  | _ => .skip
def LawPost (w0 : World) (e : Ending) (w' : World) : Prop := e = .returned (.bool true) ∧ SpareR (fun _ => False) w0 w'
theorem LawPost.tapeR {w0 : World} : ∀ e w τ d, LawPost w0 e w → LawPost w0 e (re w τ d) := fun _ _ τ d h => ⟨h.1, h.2.tapeR τ d⟩
theorem LawPost.out {w0 : World} : ∀ w, ¬ LawPost w0 .outgrown w := fun _ h => by cases h.1
end Go.Proofs.YtpbbmagjhkakgaaGreatDoor.Ev

namespace Go.Proofs.YtpbbmagjhkakgaaGreatDoor.Ev
open Go.RowKit Go.Deep Go.Maps Go.Proofs.YtpbbmagjhkakgaaGreatDoor.Lf Go.Conc
def ActI (eo : Option Addr) (ln cap : Nat) (a b : Int) (s1 s2 s3 s4 : ByteArray) (g1 g2 m cp1 cp2 : Nat) (now i : Int) (o v s : ByteArray) (r : Bool) (A : Act) : Prop := A.defers = [] ∧ A.tmps.size = 276 ∧ A.tmps[0]? = some (.slice eo ln cap) ∧ A.tmps[1]? = some (.int .i64 a) ∧ A.tmps[2]? = some (.int .i64 b) ∧ A.tmps[9]? = some (.string s1) ∧ A.tmps[11]? = some (.string s2) ∧ A.tmps[13]? = some (.string s3) ∧ A.tmps[15]? = some (.string s4) ∧ A.tmps[17]? = some (.slice (some ⟨g1, 0, none⟩) m cp1) ∧ A.tmps[18]? = some (.slice (some ⟨g2, 0, none⟩) m cp2) ∧ A.tmps[19]? = some (.int .i64 now) ∧ A.tmps[20]? = some (.int .i64 i) ∧ A.tmps[21]? = some (.string o) ∧ A.tmps[22]? = some (.string v) ∧ A.tmps[23]? = some (.string s) ∧ A.tmps[24]? = some (.bool r)
set_option maxRecDepth 100000 in
theorem ActI.open {eo : Option Addr} {ln cap : Nat} {a b : Int} {s1 s2 s3 s4 : ByteArray} {g1 g2 m cp1 cp2 : Nat} {now i : Int} {o v s : ByteArray} {r : Bool} {A : Act} (h : ActI eo ln cap a b s1 s2 s3 s4 g1 g2 m cp1 cp2 now i o v s r A) : ∃ u : Nat → Value, A = ⟨#[(.slice eo ln cap), (.int .i64 a), (.int .i64 b), u 3, u 4, u 5, u 6, u 7, u 8, (.string s1), u 10, (.string s2), u 12, (.string s3), u 14, (.string s4), u 16, (.slice (some ⟨g1, 0, none⟩) m cp1), (.slice (some ⟨g2, 0, none⟩) m cp2), (.int .i64 now), (.int .i64 i), (.string o), (.string v), (.string s), (.bool r), u 25, u 26, u 27, u 28, u 29, u 30, u 31, u 32, u 33, u 34, u 35, u 36, u 37, u 38, u 39, u 40, u 41, u 42, u 43, u 44, u 45, u 46, u 47, u 48, u 49, u 50, u 51, u 52, u 53, u 54, u 55, u 56, u 57, u 58, u 59, u 60, u 61, u 62, u 63, u 64, u 65, u 66, u 67, u 68, u 69, u 70, u 71, u 72, u 73, u 74, u 75, u 76, u 77, u 78, u 79, u 80, u 81, u 82, u 83, u 84, u 85, u 86, u 87, u 88, u 89, u 90, u 91, u 92, u 93, u 94, u 95, u 96, u 97, u 98, u 99, u 100, u 101, u 102, u 103, u 104, u 105, u 106, u 107, u 108, u 109, u 110, u 111, u 112, u 113, u 114, u 115, u 116, u 117, u 118, u 119, u 120, u 121, u 122, u 123, u 124, u 125, u 126, u 127, u 128, u 129, u 130, u 131, u 132, u 133, u 134, u 135, u 136, u 137, u 138, u 139, u 140, u 141, u 142, u 143, u 144, u 145, u 146, u 147, u 148, u 149, u 150, u 151, u 152, u 153, u 154, u 155, u 156, u 157, u 158, u 159, u 160, u 161, u 162, u 163, u 164, u 165, u 166, u 167, u 168, u 169, u 170, u 171, u 172, u 173, u 174, u 175, u 176, u 177, u 178, u 179, u 180, u 181, u 182, u 183, u 184, u 185, u 186, u 187, u 188, u 189, u 190, u 191, u 192, u 193, u 194, u 195, u 196, u 197, u 198, u 199, u 200, u 201, u 202, u 203, u 204, u 205, u 206, u 207, u 208, u 209, u 210, u 211, u 212, u 213, u 214, u 215, u 216, u 217, u 218, u 219, u 220, u 221, u 222, u 223, u 224, u 225, u 226, u 227, u 228, u 229, u 230, u 231, u 232, u 233, u 234, u 235, u 236, u 237, u 238, u 239, u 240, u 241, u 242, u 243, u 244, u 245, u 246, u 247, u 248, u 249, u 250, u 251, u 252, u 253, u 254, u 255, u 256, u 257, u 258, u 259, u 260, u 261, u 262, u 263, u 264, u 265, u 266, u 267, u 268, u 269, u 270, u 271, u 272, u 273, u 274, u 275], []⟩ := by
  obtain ⟨hd, hsz, h0, h1, h2, h9, h11, h13, h15, h17, h18, h19, h20, h21, h22, h23, h24⟩ := h
  obtain ⟨u, hu, e⟩ := open276 hsz hd
  have k0 := hu 0 _ h0
  have k1 := hu 1 _ h1
  have k2 := hu 2 _ h2
  have k9 := hu 9 _ h9
  have k11 := hu 11 _ h11
  have k13 := hu 13 _ h13
  have k15 := hu 15 _ h15
  have k17 := hu 17 _ h17
  have k18 := hu 18 _ h18
  have k19 := hu 19 _ h19
  have k20 := hu 20 _ h20
  have k21 := hu 21 _ h21
  have k22 := hu 22 _ h22
  have k23 := hu 23 _ h23
  have k24 := hu 24 _ h24
  simp only [k0, k1, k2, k9, k11, k13, k15, k17, k18, k19, k20, k21, k22, k23, k24] at e
  exact ⟨u, e⟩
noncomputable def in7 : Code := match rest7 with
  | .seq _ (.seq _ (.seq _ (.seq _ (.seq (.seq _ (.block _ (.loop (.seq _ (.seq (.block _ x) _))))) _)))) => x
  | _ => .skip
noncomputable def inner7 : Code := match in7 with
  | .seq _ (.seq _ (.seq _ (.seq _ (.seq _ (.seq _ (.seq _ (.seq x _))))))) => x
  | _ => .skip
noncomputable def after7 : Code := match in7 with
  | .seq _ (.seq _ (.seq _ (.seq _ (.seq _ (.seq _ (.seq _ (.seq _ x))))))) => x
  | _ => .skip
set_option maxRecDepth 100000 in
set_option maxHeartbeats 16000000 in
theorem inner7_go (L : List (Int × Int)) (eo : Option Addr) (ln cap : Nat) (a b : Int) (s1 s2 s3 s4 : ByteArray) (g1 g2 cp1 cp2 i : Nat) (A : Act) (w : World) (hi : i < 25) (hab : 0 ≤ a ∧ a ≤ b ∧ b ≤ 1000) (hA : ActI eo ln cap a b s1 s2 s3 s4 g1 g2 (i + 1) cp1 cp2 (timeZ L (i + 1)) i ⟨#[48]⟩ ⟨#[49]⟩ ⟨#[48]⟩ true A)
    (ht : ∀ j, j ≤ i → w.cell? ⟨g1, j, none⟩ = some (.int .i64 (timeZ L (j + 1)))) (hh : ∀ j, j ≤ i → w.cell? ⟨g2, j, none⟩ = some (.int .i64 (rawN L j : Nat))) :
    inner7.wp Tryz.prog (fun e A' w' => e = .normal ∧ w' = w ∧ ActI eo ln cap a b s1 s2 s3 s4 g1 g2 (i + 1) cp1 cp2 (timeZ L (i + 1)) i (bitS (oK L i a b (i + 1))) (bitS (vK L i a b (i + 1))) (bitS (sK L i a b (i + 1))) (rK L i (i + 1)) A') A w := by
  obtain ⟨u, rfl⟩ := hA.open
  have Ht : Hid (∀ j, j ≤ i → w.cell? ⟨g1, j, none⟩ = some (.int .i64 (timeZ L (j + 1)))) := ht
  have Hh : Hid (∀ j, j ≤ i → w.cell? ⟨g2, j, none⟩ = some (.int .i64 (rawN L j : Nat))) := hh
  have hTi := timeZ_range L (i + 1)
  clear hA ht hh
  simp only [inner7, in7, rest7, body7, Tryz.f7, Option.getD_some]
  go_wp2_with fail
  go_loopw [25, 21, 22, 23, 24] (fun jv ov vv sv rv wr' => ∃ k : Nat, k ≤ i + 1 ∧ jv = .int .i64 ((i : Int) - k) ∧ ov = .string (bitS (oK L i a b k)) ∧ vv = .string (bitS (vK L i a b k)) ∧ sv = .string (bitS (sK L i a b k)) ∧ rv = .bool (rK L i k) ∧ wr' = w) (fun jv _ _ _ _ _ => ((intOf jv) + 1).toNat)
  case atStart => exact ⟨0, Nat.zero_le _, by simp, rfl, rfl, rfl, rfl, rfl⟩
  case round =>
    obtain ⟨k, hki, rfl, rfl, rfl, rfl, rfl, rfl⟩ := hrel
    by_cases hk : k ≤ i
    · obtain ⟨j, hj⟩ : ∃ j, j = i - k := ⟨_, rfl⟩
      have hjz : (i : Int) - (k : Int) = (j : Int) := by omega
      have hji : j ≤ i := by omega
      have c1 := Ht.out j hji
      have c2 := Hh.out j hji
      have hTj := timeZ_range L (j + 1)
      have hTm : timeZ L (j + 1) ≤ timeZ L (i + 1) := by
        have := timeZ_mono L (j + 1) (i - j)
        have e : j + 1 + (i - j) = i + 1 := by omega
        rw [e] at this; exact this
      have e1 : oK L i a b (k + 1) = (oK L i a b k || (inW L i a b j && bitN (rawN L j) 0)) := by rw [oK, hj]
      have e2 : vK L i a b (k + 1) = (vK L i a b k && !(inW L i a b j && !bitN (rawN L j) 0)) := by rw [vK, hj]
      have e3 : sK L i a b (k + 1) = (sK L i a b k || (inW L i a b j && bitN (rawN L j) 0 && rK L i k)) := by rw [sK, hj]
      have e4 : rK L i (k + 1) = (rK L i k && bitN (rawN L j) 1) := by rw [rK, hj]
      have hW : inW L i a b j = (decide (a ≤ timeZ L (i + 1) - timeZ L (j + 1)) && decide (timeZ L (i + 1) - timeZ L (j + 1) ≤ b)) := rfl
      have hb1 := bits_one (rawN L j) (rawN_lt j)
      have hb2 := bits_two (rawN L j) (rawN_lt j)
      have hfin : Hid (∀ (ov vv sv : ByteArray) (rv : Bool), ov = bitS (oK L i a b (k + 1)) → vv = bitS (vK L i a b (k + 1)) → sv = bitS (sK L i a b (k + 1)) → rv = rK L i (k + 1) → ∃ k' : Nat, k' ≤ i + 1 ∧ Value.int .i64 ((j : Int) - 1) = .int .i64 ((i : Int) - k') ∧ Value.string ov = .string (bitS (oK L i a b k')) ∧ Value.string vv = .string (bitS (vK L i a b k')) ∧ Value.string sv = .string (bitS (sK L i a b k')) ∧ Value.bool rv = .bool (rK L i k')) := by
        rintro ov vv sv rv rfl rfl rfl rfl
        refine ⟨k + 1, by omega, ?_, rfl, rfl, rfl, rfl⟩
        congr 1
        omega
      have Hj : Hid (j = i - k) := hj
      rw [hjz]
      clear hj hjz
      generalize oK L i a b (k + 1) = o' at *
      generalize vK L i a b (k + 1) = v' at *
      generalize sK L i a b (k + 1) = s' at *
      generalize rK L i (k + 1) = r' at *
      generalize oK L i a b k = o at *
      generalize vK L i a b k = v at *
      generalize sK L i a b k = s at *
      generalize hr : rK L i k = r at *
      generalize inW L i a b j = W at *
      generalize bitN (rawN L j) 0 = pa at *
      generalize bitN (rawN L j) 1 = pb at *
      generalize rawN L j = nj at *
      generalize timeZ L (j + 1) = tj at *
      generalize timeZ L (i + 1) = ti at *
      by_cases ha : a ≤ ti - tj
      · by_cases hb : ti - tj ≤ b
        · have hW1 : W = true := by rw [hW]; simp [ha, hb]
          subst hW1
          clear hW
          cases pa
          · cases r
            · simp at e1 e2 e3 e4 hb1 hb2
              subst e1 e2 e3 e4
              go_wp2_with fail
              go_roundw
              case rel =>
                obtain ⟨k', q1, q2, q3, q4, q5, q6⟩ := hfin.out _ _ _ _ rfl rfl rfl rfl
                exact ⟨k', q1, q2, q3, q4, q5, q6, by first | rfl | trivial⟩
              case measure => have := Hj.out; simp only [intOf]; omega
            · cases pb
              · simp at e1 e2 e3 e4 hb1 hb2
                subst e1 e2 e3 e4
                go_wp2_with fail
                go_roundw
                case rel =>
                  obtain ⟨k', q1, q2, q3, q4, q5, q6⟩ := hfin.out _ _ _ _ rfl rfl rfl rfl
                  exact ⟨k', q1, q2, q3, q4, q5, q6, by first | rfl | trivial⟩
                case measure => have := Hj.out; simp only [intOf]; omega
              · simp at e1 e2 e3 e4 hb1 hb2
                subst e1 e2 e3 e4
                go_wp2_with fail
                go_roundw
                case rel =>
                  obtain ⟨k', q1, q2, q3, q4, q5, q6⟩ := hfin.out _ _ _ _ rfl rfl rfl rfl
                  exact ⟨k', q1, q2, q3, q4, q5, q6, by first | rfl | trivial⟩
                case measure => have := Hj.out; simp only [intOf]; omega
          · cases r
            · simp at e1 e2 e3 e4 hb1 hb2
              subst e1 e2 e3 e4
              go_wp2_with fail
              go_roundw
              case rel =>
                obtain ⟨k', q1, q2, q3, q4, q5, q6⟩ := hfin.out _ _ _ _ rfl rfl rfl rfl
                exact ⟨k', q1, q2, q3, q4, q5, q6, by first | rfl | trivial⟩
              case measure => have := Hj.out; simp only [intOf]; omega
            · cases pb
              · simp at e1 e2 e3 e4 hb1 hb2
                subst e1 e2 e3 e4
                go_wp2_with fail
                go_roundw
                case rel =>
                  obtain ⟨k', q1, q2, q3, q4, q5, q6⟩ := hfin.out _ _ _ _ rfl rfl rfl rfl
                  exact ⟨k', q1, q2, q3, q4, q5, q6, by first | rfl | trivial⟩
                case measure => have := Hj.out; simp only [intOf]; omega
              · simp at e1 e2 e3 e4 hb1 hb2
                subst e1 e2 e3 e4
                go_wp2_with fail
                go_roundw
                case rel =>
                  obtain ⟨k', q1, q2, q3, q4, q5, q6⟩ := hfin.out _ _ _ _ rfl rfl rfl rfl
                  exact ⟨k', q1, q2, q3, q4, q5, q6, by first | rfl | trivial⟩
                case measure => have := Hj.out; simp only [intOf]; omega
        · have hW1 : W = false := by rw [hW]; simp [hb]
          subst hW1
          clear hW
          cases r
          · simp at e1 e2 e3 e4 hb1 hb2
            subst e1 e2 e3 e4
            go_wp2_with fail
            go_roundw
            case rel =>
              obtain ⟨k', q1, q2, q3, q4, q5, q6⟩ := hfin.out _ _ _ _ rfl rfl rfl rfl
              exact ⟨k', q1, q2, q3, q4, q5, q6, by first | rfl | trivial⟩
            case measure => have := Hj.out; simp only [intOf]; omega
          · cases pb
            · simp at e1 e2 e3 e4 hb1 hb2
              subst e1 e2 e3 e4
              go_wp2_with fail
              go_roundw
              case rel =>
                obtain ⟨k', q1, q2, q3, q4, q5, q6⟩ := hfin.out _ _ _ _ rfl rfl rfl rfl
                exact ⟨k', q1, q2, q3, q4, q5, q6, by first | rfl | trivial⟩
              case measure => have := Hj.out; simp only [intOf]; omega
            · simp at e1 e2 e3 e4 hb1 hb2
              subst e1 e2 e3 e4
              go_wp2_with fail
              go_roundw
              case rel =>
                obtain ⟨k', q1, q2, q3, q4, q5, q6⟩ := hfin.out _ _ _ _ rfl rfl rfl rfl
                exact ⟨k', q1, q2, q3, q4, q5, q6, by first | rfl | trivial⟩
              case measure => have := Hj.out; simp only [intOf]; omega
      · have hW1 : W = false := by rw [hW]; simp [ha]
        subst hW1
        clear hW
        cases r
        · simp at e1 e2 e3 e4 hb1 hb2
          subst e1 e2 e3 e4
          go_wp2_with fail
          go_roundw
          case rel =>
            obtain ⟨k', q1, q2, q3, q4, q5, q6⟩ := hfin.out _ _ _ _ rfl rfl rfl rfl
            exact ⟨k', q1, q2, q3, q4, q5, q6, by first | rfl | trivial⟩
          case measure => have := Hj.out; simp only [intOf]; omega
        · cases pb
          · simp at e1 e2 e3 e4 hb1 hb2
            subst e1 e2 e3 e4
            go_wp2_with fail
            go_roundw
            case rel =>
              obtain ⟨k', q1, q2, q3, q4, q5, q6⟩ := hfin.out _ _ _ _ rfl rfl rfl rfl
              exact ⟨k', q1, q2, q3, q4, q5, q6, by first | rfl | trivial⟩
            case measure => have := Hj.out; simp only [intOf]; omega
          · simp at e1 e2 e3 e4 hb1 hb2
            subst e1 e2 e3 e4
            go_wp2_with fail
            go_roundw
            case rel =>
              obtain ⟨k', q1, q2, q3, q4, q5, q6⟩ := hfin.out _ _ _ _ rfl rfl rfl rfl
              exact ⟨k', q1, q2, q3, q4, q5, q6, by first | rfl | trivial⟩
            case measure => have := Hj.out; simp only [intOf]; omega
    · obtain rfl : k = i + 1 := by omega
      have hjz : (i : Int) - ((i + 1 : Nat) : Int) = -1 := by omega
      rw [hjz]
      go_wp2_with fail
      first | exact ⟨rfl, rfl, rfl, rfl, rfl, rfl, rfl, rfl, rfl, rfl, rfl, rfl, rfl, rfl, rfl, rfl, rfl⟩ | exact ⟨rfl, ⟨rfl, rfl, rfl, rfl, rfl, rfl, rfl, rfl, rfl, rfl, rfl, rfl, rfl, rfl, rfl, rfl, rfl⟩⟩ | exact ⟨rfl, rfl, ⟨rfl, rfl, rfl, rfl, rfl, rfl, rfl, rfl, rfl, rfl, rfl, rfl, rfl, rfl, rfl, rfl, rfl⟩⟩
end Go.Proofs.YtpbbmagjhkakgaaGreatDoor.Ev

namespace Go.Proofs.YtpbbmagjhkakgaaGreatDoor.Ev
open Go.RowKit Go.Deep Go.Maps Go.Proofs.YtpbbmagjhkakgaaGreatDoor.Lf Go.Conc
def ActJ (eo : Option Addr) (ln cap : Nat) (a b : Int) (s1 s2 s3 s4 : ByteArray) (g1 g2 m cp1 cp2 : Nat) (now i : Int) (o v s : ByteArray) (r : Bool) (y : ByteArray) (A : Act) : Prop := A.defers = [] ∧ A.tmps.size = 276 ∧ A.tmps[0]? = some (.slice eo ln cap) ∧ A.tmps[1]? = some (.int .i64 a) ∧ A.tmps[2]? = some (.int .i64 b) ∧ A.tmps[9]? = some (.string s1) ∧ A.tmps[11]? = some (.string s2) ∧ A.tmps[13]? = some (.string s3) ∧ A.tmps[15]? = some (.string s4) ∧ A.tmps[17]? = some (.slice (some ⟨g1, 0, none⟩) m cp1) ∧ A.tmps[18]? = some (.slice (some ⟨g2, 0, none⟩) m cp2) ∧ A.tmps[19]? = some (.int .i64 now) ∧ A.tmps[20]? = some (.int .i64 i) ∧ A.tmps[21]? = some (.string o) ∧ A.tmps[22]? = some (.string v) ∧ A.tmps[23]? = some (.string s) ∧ A.tmps[24]? = some (.bool r) ∧ A.tmps[27]? = some (.string y)
set_option maxRecDepth 100000 in
theorem ActJ.open {eo : Option Addr} {ln cap : Nat} {a b : Int} {s1 s2 s3 s4 : ByteArray} {g1 g2 m cp1 cp2 : Nat} {now i : Int} {o v s : ByteArray} {r : Bool} {y : ByteArray} {A : Act} (h : ActJ eo ln cap a b s1 s2 s3 s4 g1 g2 m cp1 cp2 now i o v s r y A) : ∃ u : Nat → Value, A = ⟨#[(.slice eo ln cap), (.int .i64 a), (.int .i64 b), u 3, u 4, u 5, u 6, u 7, u 8, (.string s1), u 10, (.string s2), u 12, (.string s3), u 14, (.string s4), u 16, (.slice (some ⟨g1, 0, none⟩) m cp1), (.slice (some ⟨g2, 0, none⟩) m cp2), (.int .i64 now), (.int .i64 i), (.string o), (.string v), (.string s), (.bool r), u 25, u 26, (.string y), u 28, u 29, u 30, u 31, u 32, u 33, u 34, u 35, u 36, u 37, u 38, u 39, u 40, u 41, u 42, u 43, u 44, u 45, u 46, u 47, u 48, u 49, u 50, u 51, u 52, u 53, u 54, u 55, u 56, u 57, u 58, u 59, u 60, u 61, u 62, u 63, u 64, u 65, u 66, u 67, u 68, u 69, u 70, u 71, u 72, u 73, u 74, u 75, u 76, u 77, u 78, u 79, u 80, u 81, u 82, u 83, u 84, u 85, u 86, u 87, u 88, u 89, u 90, u 91, u 92, u 93, u 94, u 95, u 96, u 97, u 98, u 99, u 100, u 101, u 102, u 103, u 104, u 105, u 106, u 107, u 108, u 109, u 110, u 111, u 112, u 113, u 114, u 115, u 116, u 117, u 118, u 119, u 120, u 121, u 122, u 123, u 124, u 125, u 126, u 127, u 128, u 129, u 130, u 131, u 132, u 133, u 134, u 135, u 136, u 137, u 138, u 139, u 140, u 141, u 142, u 143, u 144, u 145, u 146, u 147, u 148, u 149, u 150, u 151, u 152, u 153, u 154, u 155, u 156, u 157, u 158, u 159, u 160, u 161, u 162, u 163, u 164, u 165, u 166, u 167, u 168, u 169, u 170, u 171, u 172, u 173, u 174, u 175, u 176, u 177, u 178, u 179, u 180, u 181, u 182, u 183, u 184, u 185, u 186, u 187, u 188, u 189, u 190, u 191, u 192, u 193, u 194, u 195, u 196, u 197, u 198, u 199, u 200, u 201, u 202, u 203, u 204, u 205, u 206, u 207, u 208, u 209, u 210, u 211, u 212, u 213, u 214, u 215, u 216, u 217, u 218, u 219, u 220, u 221, u 222, u 223, u 224, u 225, u 226, u 227, u 228, u 229, u 230, u 231, u 232, u 233, u 234, u 235, u 236, u 237, u 238, u 239, u 240, u 241, u 242, u 243, u 244, u 245, u 246, u 247, u 248, u 249, u 250, u 251, u 252, u 253, u 254, u 255, u 256, u 257, u 258, u 259, u 260, u 261, u 262, u 263, u 264, u 265, u 266, u 267, u 268, u 269, u 270, u 271, u 272, u 273, u 274, u 275], []⟩ := by
  obtain ⟨hd, hsz, h0, h1, h2, h9, h11, h13, h15, h17, h18, h19, h20, h21, h22, h23, h24, h27⟩ := h
  obtain ⟨u, hu, e⟩ := open276 hsz hd
  have k0 := hu 0 _ h0
  have k1 := hu 1 _ h1
  have k2 := hu 2 _ h2
  have k9 := hu 9 _ h9
  have k11 := hu 11 _ h11
  have k13 := hu 13 _ h13
  have k15 := hu 15 _ h15
  have k17 := hu 17 _ h17
  have k18 := hu 18 _ h18
  have k19 := hu 19 _ h19
  have k20 := hu 20 _ h20
  have k21 := hu 21 _ h21
  have k22 := hu 22 _ h22
  have k23 := hu 23 _ h23
  have k24 := hu 24 _ h24
  have k27 := hu 27 _ h27
  simp only [k0, k1, k2, k9, k11, k13, k15, k17, k18, k19, k20, k21, k22, k23, k24, k27] at e
  exact ⟨u, e⟩
theorem wp_of_wps {P : Program} {Q : Exit → Act → World → Prop} {z : Code} : ∀ (l : List Code) (a : Act) (w : World), wps P l (z.wp P Q) a w → (unseq l z).wp P Q a w
  | [], _, _, h => h
  | _ :: l, _, _, h => wp_seq (wp_mono h fun e a w x => by obtain ⟨rfl, x⟩ := x; exact wp_of_wps l a w x)
theorem wps_mono {P : Program} {J K : Act → World → Prop} : ∀ (l : List Code) (a : Act) (w : World), wps P l J a w → (∀ a w, J a w → K a w) → wps P l K a w
  | [], _, _, h, hk => hk _ _ h
  | _ :: l, _, _, h, hk => wp_mono h fun _ a w x => ⟨x.1, wps_mono l a w x.2 hk⟩
noncomputable def prev7 : List Code := match after7 with
  | .seq x (.seq y _) => [x, y]
  | _ => []
noncomputable def told7 : Code := match after7 with
  | .seq _ (.seq _ x) => x
  | _ => .skip
set_option maxRecDepth 100000 in
set_option maxHeartbeats 16000000 in
theorem prev7_go (L : List (Int × Int)) (eo : Option Addr) (ln cap : Nat) (a b : Int) (s1 s2 s3 s4 : ByteArray) (g1 g2 cp1 cp2 i : Nat) (o v s : ByteArray) (r : Bool) (A : Act) (w : World) (hi : i < 25) (hA : ActI eo ln cap a b s1 s2 s3 s4 g1 g2 (i + 1) cp1 cp2 (timeZ L (i + 1)) i o v s r A)
    (ht : ∀ j, j ≤ i → w.cell? ⟨g1, j, none⟩ = some (.int .i64 (timeZ L (j + 1)))) (hh : ∀ j, j ≤ i → w.cell? ⟨g2, j, none⟩ = some (.int .i64 (rawN L j : Nat))) :
    wps Tryz.prog prev7 (fun A' w' => w' = w ∧ ActJ eo ln cap a b s1 s2 s3 s4 g1 g2 (i + 1) cp1 cp2 (timeZ L (i + 1)) i o v s r (bitS (verZ (winT 89 a b) L i)) A') A w := by
  obtain ⟨u, rfl⟩ := hA.open
  have hTi := timeZ_range L (i + 1)
  cases i with
  | zero =>
    rw [ver_first]
    clear hA ht hh
    simp only [prev7, after7, in7, rest7, body7, Tryz.f7, Option.getD_some]
    simp only [Nat.zero_add] at *
    try unfold wps
    generalize timeZ L 1 = ti at *
    go_wp2_with fail
    try refine ⟨rfl, ?_⟩
    try unfold wps
    go_wp2_with fail
    try refine ⟨rfl, ?_⟩
    try unfold wps
    first | exact ⟨rfl, rfl, rfl, rfl, rfl, rfl, rfl, rfl, rfl, rfl, rfl, rfl, rfl, rfl, rfl, rfl, rfl, rfl⟩ | exact ⟨rfl, ⟨rfl, rfl, rfl, rfl, rfl, rfl, rfl, rfl, rfl, rfl, rfl, rfl, rfl, rfl, rfl, rfl, rfl, rfl⟩⟩
  | succ i =>
    have c1 := ht i (by omega)
    have c2 := hh i (by omega)
    have hTj := timeZ_range L (i + 1)
    have hTs := timeZ_step L (i + 1)
    rw [ver_before]
    have hW : inW L (i + 1) a b i = (decide (a ≤ timeZ L (i + 1 + 1) - timeZ L (i + 1)) && decide (timeZ L (i + 1 + 1) - timeZ L (i + 1) ≤ b)) := rfl
    have hb1 := bits_one (rawN L i) (rawN_lt i)
    clear hA ht hh
    simp only [prev7, after7, in7, rest7, body7, Tryz.f7, Option.getD_some]
    try unfold wps
    generalize inW L (i + 1) a b i = W at *
    generalize bitN (rawN L i) 0 = pa at *
    generalize rawN L i = nj at *
    generalize timeZ L (i + 1) = tj at *
    generalize timeZ L (i + 1 + 1) = ti at *
    by_cases ha : a ≤ ti - tj
    · by_cases hb : ti - tj ≤ b
      · have hW1 : W = true := by rw [hW]; simp [ha, hb]
        subst hW1
        clear hW
        cases pa
        · simp at hb1
          go_wp2_with fail
          try refine ⟨rfl, ?_⟩
          try unfold wps
          go_wp2_with fail
          try refine ⟨rfl, ?_⟩
          try unfold wps
          first | exact ⟨rfl, rfl, rfl, rfl, rfl, rfl, rfl, rfl, rfl, rfl, rfl, rfl, rfl, rfl, rfl, rfl, rfl, rfl⟩ | exact ⟨rfl, ⟨rfl, rfl, rfl, rfl, rfl, rfl, rfl, rfl, rfl, rfl, rfl, rfl, rfl, rfl, rfl, rfl, rfl, rfl⟩⟩
        · simp at hb1
          go_wp2_with fail
          try refine ⟨rfl, ?_⟩
          try unfold wps
          go_wp2_with fail
          try refine ⟨rfl, ?_⟩
          try unfold wps
          first | exact ⟨rfl, rfl, rfl, rfl, rfl, rfl, rfl, rfl, rfl, rfl, rfl, rfl, rfl, rfl, rfl, rfl, rfl, rfl⟩ | exact ⟨rfl, ⟨rfl, rfl, rfl, rfl, rfl, rfl, rfl, rfl, rfl, rfl, rfl, rfl, rfl, rfl, rfl, rfl, rfl, rfl⟩⟩
      · have hW1 : W = false := by rw [hW]; simp [hb]
        subst hW1
        clear hW hb1
        go_wp2_with fail
        try refine ⟨rfl, ?_⟩
        try unfold wps
        go_wp2_with fail
        try refine ⟨rfl, ?_⟩
        try unfold wps
        first | exact ⟨rfl, rfl, rfl, rfl, rfl, rfl, rfl, rfl, rfl, rfl, rfl, rfl, rfl, rfl, rfl, rfl, rfl, rfl⟩ | exact ⟨rfl, ⟨rfl, rfl, rfl, rfl, rfl, rfl, rfl, rfl, rfl, rfl, rfl, rfl, rfl, rfl, rfl, rfl, rfl, rfl⟩⟩
    · have hW1 : W = false := by rw [hW]; simp [ha]
      subst hW1
      clear hW hb1
      go_wp2_with fail
      try refine ⟨rfl, ?_⟩
      try unfold wps
      go_wp2_with fail
      try refine ⟨rfl, ?_⟩
      try unfold wps
      first | exact ⟨rfl, rfl, rfl, rfl, rfl, rfl, rfl, rfl, rfl, rfl, rfl, rfl, rfl, rfl, rfl, rfl, rfl, rfl⟩ | exact ⟨rfl, ⟨rfl, rfl, rfl, rfl, rfl, rfl, rfl, rfl, rfl, rfl, rfl, rfl, rfl, rfl, rfl, rfl, rfl, rfl⟩⟩
set_option maxRecDepth 100000 in
set_option maxHeartbeats 16000000 in
theorem told7_go (eo : Option Addr) (ln cap : Nat) (a b : Int) (s1 s2 s3 s4 : ByteArray) (g1 g2 m cp1 cp2 i n : Nat) (now : Int) (o v s y : ByteArray) (r : Bool) (A : Act) (w : World) (hin : i < n) (hn : n ≤ 25) (hA : ActJ eo ln cap a b s1 s2 s3 s4 g1 g2 m cp1 cp2 now i o v s r y A)
    (z1 : s1.size = n) (z2 : s2.size = n) (z3 : s3.size = n) (z4 : s4.size = n) (x1 : s1.extract i (i + 1) = o) (x2 : s2.extract i (i + 1) = v) (x3 : s3.extract i (i + 1) = y) (x4 : s4.extract i (i + 1) = s) :
    told7.wp Tryz.prog (fun e A' w' => e = .normal ∧ w' = w ∧ ActI eo ln cap a b s1 s2 s3 s4 g1 g2 m cp1 cp2 now i o v s r A') A w := by
  obtain ⟨u, rfl⟩ := hA.open
  clear hA
  simp only [told7, after7, in7, rest7, body7, Tryz.f7, Option.getD_some]
  go_wp2_with fail
  first | exact ⟨rfl, rfl, rfl, rfl, rfl, rfl, rfl, rfl, rfl, rfl, rfl, rfl, rfl, rfl, rfl, rfl, rfl⟩ | exact ⟨rfl, ⟨rfl, rfl, rfl, rfl, rfl, rfl, rfl, rfl, rfl, rfl, rfl, rfl, rfl, rfl, rfl, rfl, rfl⟩⟩ | exact ⟨rfl, rfl, ⟨rfl, rfl, rfl, rfl, rfl, rfl, rfl, rfl, rfl, rfl, rfl, rfl, rfl, rfl, rfl, rfl, rfl⟩⟩
theorem after7_go (L : List (Int × Int)) (eo : Option Addr) (ln cap : Nat) (a b : Int) (s1 s2 s3 s4 : ByteArray) (g1 g2 cp1 cp2 i n : Nat) (o v s : ByteArray) (r : Bool) (A : Act) (w : World) (hin : i < n) (hn : n ≤ 25) (hA : ActI eo ln cap a b s1 s2 s3 s4 g1 g2 (i + 1) cp1 cp2 (timeZ L (i + 1)) i o v s r A)
    (ht : ∀ j, j ≤ i → w.cell? ⟨g1, j, none⟩ = some (.int .i64 (timeZ L (j + 1)))) (hh : ∀ j, j ≤ i → w.cell? ⟨g2, j, none⟩ = some (.int .i64 (rawN L j : Nat))) (z1 : s1.size = n) (z2 : s2.size = n) (z3 : s3.size = n) (z4 : s4.size = n)
    (x1 : s1.extract i (i + 1) = o) (x2 : s2.extract i (i + 1) = v) (x3 : s3.extract i (i + 1) = bitS (verZ (winT 89 a b) L i)) (x4 : s4.extract i (i + 1) = s) :
    after7.wp Tryz.prog (fun e A' w' => e = .normal ∧ w' = w ∧ ActI eo ln cap a b s1 s2 s3 s4 g1 g2 (i + 1) cp1 cp2 (timeZ L (i + 1)) i o v s r A') A w := by
  have e0 : after7 = unseq prev7 told7 := rfl
  rw [e0]
  refine wp_of_wps _ _ _ (wps_mono _ _ _ (prev7_go L eo ln cap a b s1 s2 s3 s4 g1 g2 cp1 cp2 i o v s r A w (by omega) hA ht hh) ?_)
  rintro A' w' ⟨rfl, hJ⟩
  exact told7_go eo ln cap a b s1 s2 s3 s4 g1 g2 (i + 1) cp1 cp2 i n _ o v s _ r A' _ hin hn hJ z1 z2 z3 z4 x1 x2 x3 x4
end Go.Proofs.YtpbbmagjhkakgaaGreatDoor.Ev
