/-
  hyglaw23.DictAdds: for any texts the law returns true.
-/
import Derived.Test.YtihoemimiplhfaaDoorDictAddV
import Derived.Test.YtihoemimiplhfaaDoorDictAdded
import Derived.Test.YtihoemimiplhfaaDoorBlame
namespace Go.Proofs.YtihoemimiplhfaaDoor
open Go.RowKit Go.Maps

set_option maxRecDepth 1000000 in
set_option maxHeartbeats 1000000 in
theorem dnew_anyv (w : World) : Calls Tryd.prog 20 #[] w fun e w' => e = .returned (.pointer (some ⟨w.heap.size + 1, 0, none⟩)) ∧ Hid (DAtV w' w.heap.size [] (.slice none 0 0)) ∧ Below w.heap.size w w' := by
  have hmm := @run_makeMap Tryd.prog
  go_enter Tryd.func20, Tryd.ntmps20
  go_wp2_with fail
  go_ret
  refine ⟨rfl, Lib.hid ⟨.map [], ?_, World.ownsRow_nil _ _ _ _, (World.ownsMap_made w _ _ _).alloc _, dmap_nil, List.nodup_nil⟩, ((Below.refl _ _).alloc (Nat.le_refl _) _).alloc (by simp) _⟩
  have h := heap_alloc_new (w.alloc (.map #[] 0)) (.cells #[.slice none 0 0, .map (some w.heap.size)] 94)
  rw [show (w.alloc (.map #[] 0)).heap.size = w.heap.size + 1 by simp] at h
  exact h
theorem rdadd_oldv (p : Nat) (D : List (List UInt8)) (i0 : Nat) (t : List UInt8) {v : Value} (w : World) (h : Hid (DRefV w p D v)) (hD : Hid (D.length ≤ 300)) (hi : Hid (D[i0]? = some t)) (hnd : Hid D.Nodup) :
    Calls Tryd.prog 23 #[.pointer (some ⟨p, 0, none⟩), strV t] w fun e w' => e = .returned (.int .i64 (i0 : Nat)) ∧ Below w.heap.size w w' :=
  (rdadd_anyv p D t v w h (by have := hD.out; omega)).mono fun e w' h2 => by
    rcases h2 with ⟨i, h3, h4, h5⟩ | ⟨h3, _⟩
    · obtain ⟨k1, k2⟩ := List.getElem?_eq_some_iff.1 h3
      obtain ⟨k3, k4⟩ := List.getElem?_eq_some_iff.1 hi.out
      have := (List.getElem_inj hnd.out (h₀ := k1) (h₁ := k3)).1 (k2.trans k4.symm)
      subst this
      exact ⟨h4, h5⟩
    · exact absurd (List.mem_of_getElem? hi.out) h3
theorem rdadd_newv (p : Nat) (D : List (List UInt8)) (t : List UInt8) (v : Value) (w : World) (h : Hid (DRefV w p D v)) (hD : Hid (D.length ≤ 300)) (hi : t ∉ D) :
    Calls Tryd.prog 23 #[.pointer (some ⟨p, 0, none⟩), strV t] w fun e w' => e = .returned (.int .i64 (D.length : Int)) ∧ ∃ g' cap', Hid (DRefV w' p (D ++ [t]) (.slice (some ⟨g', 0, none⟩) (D.length + 1) cap')) ∧ Upd (fun k => k = p ∨ v.ownBlock = some k) w w' ∧ (v.ownBlock = some g' ∨ w.heap.size ≤ g') :=
  (rdadd_anyv p D t v w h (by have := hD.out; omega)).mono fun e w' h2 => by
    rcases h2 with ⟨i, h3, _⟩ | ⟨_, h4⟩
    · exact absurd (List.mem_of_getElem? h3) hi
    · exact h4
theorem sep_next {p n gd gx capd capx : Nat} {D : List (List UInt8)} {vd vx : Value} {w w1 : World} (h : (∀ k, vd.ownBlock = some k → p < k) ∧ ∀ k, vx.ownBlock = some k → p < k ∧ vd.ownBlock ≠ some k) (hx : DRefV w p D vx) (hp : p < w.heap.size) (hs : w.heap.size ≤ w1.heap.size) (hg : gd < w1.heap.size)
    (h1 : vd.ownBlock = some gd ∨ w.heap.size ≤ gd) (h2 : vx.ownBlock = some gx ∨ w1.heap.size ≤ gx) :
    (∀ k, (Value.slice (some ⟨gd, 0, none⟩) n capd).ownBlock = some k → p < k) ∧ ∀ k, (Value.slice (some ⟨gx, 0, none⟩) n capx).ownBlock = some k → p < k ∧ (Value.slice (some ⟨gd, 0, none⟩) n capd).ownBlock ≠ some k := by
  refine ⟨fun k hk => ?_, fun k hk => ⟨?_, fun hk2 => ?_⟩⟩
  · have hk : gd = k := by injection hk
    subst hk
    rcases h1 with h1 | h1
    · exact h.1 _ h1
    · omega
  · have hk : gx = k := by injection hk
    subst hk
    rcases h2 with h2 | h2
    · exact (h.2 _ h2).1
    · omega
  · have hk : gx = k := by injection hk
    have hk2 : gd = k := by injection hk2
    subst hk
    subst hk2
    rcases h2 with h2 | h2
    · rcases h1 with h1 | h1
      · exact (h.2 _ h2).2 h1
      · have := (hx.2.lt _ h2).2; omega
    · omega
set_option maxRecDepth 1000000 in
set_option maxHeartbeats 4000000 in
theorem dadds_few (ao : Option Addr) (cap : Nat) (l : List (List UInt8)) (i : Int) (w : World) (hN : Strs w ao l) (hm : l.length ≤ 9223372036854775807) (hlt : Hid (∀ t ∈ l, t.length ≤ 9223372036854775807)) (HR : Hid (fewB l = false)) :
    Calls Tryd.prog 7 #[.slice ao l.length cap, .int .i64 i] w fun e w' => e = .returned (.bool true) ∧ Below w.heap.size w w' := by
  have HN := Lib.hid hN
  clear hN
  go_enter Tryd.func7, Tryd.ntmps7
  go_wp2_with fail
  refine (first23 w).mono ?_; rintro e w1 ⟨rfl, hb1⟩
  have HB1 := Lib.hid hb1
  clear hb1
  go_wp2_with fail
  refine (dnew_anyv _).mono ?_; rintro e w2 ⟨rfl, HD2, hb2⟩
  have HB2 := Lib.hid (dstepd (dstepd HB1.out hb2) (below_new0 w2 (.cells #[.slice none 0 0] 47)))
  clear hb2
  go_wp2_with fail
  refine (few_any ao cap l _ (HN.out.below HB2.out) hm hlt HR).mono ?_; rintro e w3 ⟨rfl, hb3⟩
  have HB3 := Lib.hid (dstepd HB2.out hb3)
  clear hb3
  go_wp2_with fail
  refine (first23 _).mono ?_; rintro e w4 ⟨rfl, hb4⟩
  have HB4 := Lib.hid (dstepd HB3.out hb4)
  clear hb4
  go_wp2_with fail
  go_ret
  exact ⟨rfl, HB4.out⟩
set_option maxRecDepth 1000000 in
set_option maxHeartbeats 8000000 in
theorem dadds_walk (ao : Option Addr) (cap : Nat) (l : List (List UInt8)) (i : Int) (w : World) (hN : Strs w ao l) (hin : Hid (BackIn l ⟨#[]⟩)) :
    Calls Tryd.prog 7 #[.slice ao l.length cap, .int .i64 i] w fun e w' => e = .returned (.bool true) ∧ Below w.heap.size w w' := by
  have HN := Lib.hid hN
  have hl3 := hin.out.le
  have HLT : Hid (∀ t ∈ l, t.length ≤ 9223372036854775807) := Lib.hid (fun t ht => by have := hin.out.each t ht; omega)
  have HR := Lib.hid hin.out.few
  clear hN
  go_enter Tryd.func7, Tryd.ntmps7
  go_wp2_with fail
  refine (first23 w).mono ?_; rintro e w1 ⟨rfl, hb1⟩
  have HB1 := Lib.hid hb1
  clear hb1
  go_wp2_with fail
  refine (dnew_anyv _).mono ?_; rintro e w2 ⟨rfl, HD2, hb2⟩
  obtain ⟨b, hb⟩ : ∃ b, w1.heap.size = b := ⟨_, rfl⟩
  have hbw : w.heap.size ≤ b := by have := HB1.out.size; omega
  rw [hb] at HD2 ⊢
  have HB2 := Lib.hid (dstepd HB1.out hb2)
  have hb1p : b + 1 < w2.heap.size := by obtain ⟨_, h9, _⟩ := HD2.out; exact row_lt h9
  clear hb2 hb
  go_wp2_with fail
  have HX3 : Hid (DRefV (w2.alloc (.cells #[.slice none 0 0] 47)) w2.heap.size [] (.slice none 0 0)) := Lib.hid ⟨heap_alloc_new w2 _, World.ownsRow_nil _ _ _ _⟩
  have HB3 := Lib.hid (dstepd HB2.out (below_new0 w2 (.cells #[.slice none 0 0] 47)))
  have HD3 := Lib.hid (datv_upd HD2.out (Upd.alloc (fun _ => False) w2 (.cells #[.slice none 0 0] 47)) (fun h => h) (fun h => h) (fun _ _ h => h))
  obtain ⟨p, hp⟩ : ∃ p, w2.heap.size = p := ⟨_, rfl⟩
  have hpw3 : p < (w2.alloc (.cells #[.slice none 0 0] 47)).heap.size := by rw [← hp]; simp
  obtain ⟨w3, hw3⟩ : ∃ w3, w2.alloc (.cells #[.slice none 0 0] 47) = w3 := ⟨_, rfl⟩
  rw [hw3] at HX3 HB3 HD3 hpw3 ⊢
  rw [hp] at HX3 hb1p ⊢
  have HBP : Hid (b + 1 < p ∧ w.heap.size ≤ b) := Lib.hid ⟨hb1p, hbw⟩
  have HPW3 : Hid (p < w3.heap.size) := Lib.hid hpw3
  clear hw3 hp hb1p hbw hpw3
  refine (few_any ao cap l _ (HN.out.below HB3.out) (by omega) HLT HR).mono ?_; rintro e w4 ⟨rfl, hb4⟩
  have HB4 := Lib.hid (dstepd HB3.out hb4)
  have HD4 := Lib.hid (datv_upd HD3.out (Upd.of_new (S := fun _ => False) hb4) (fun h => h) (fun h => h) (fun _ _ h => h))
  have HX4 := Lib.hid (drefv_below HX3.out hb4)
  have HPW4 : Hid (p < w4.heap.size) := Lib.hid (Nat.lt_of_lt_of_le HPW3.out hb4.size)
  clear hb4
  go_wp2_with fail
  go_loopg [7] l.length (fun k i wr => ∃ (j : Nat) (D : List (List UInt8)) (vd vx : Value), j + k = l.length ∧ i = .int .i64 j ∧ Hid (Added l j D) ∧ Hid (DAtV wr b D vd) ∧ Hid (DRefV wr p D vx) ∧ Hid ((∀ k, vd.ownBlock = some k → p < k) ∧ ∀ k, vx.ownBlock = some k → p < k ∧ vd.ownBlock ≠ some k) ∧ Hid (p < wr.heap.size) ∧ Below w.heap.size w wr)
  case atStart => exact ⟨0, [], _, _, by omega, rfl, Lib.hid (added_start l), HD4, HX4, Lib.hid ⟨fun k h => by simp [Value.ownBlock] at h, fun k h => by simp [Value.ownBlock] at h⟩, HPW4, HB4.out⟩
  case round =>
    obtain ⟨j, D, vd, vx, hj, rfl, HA, HD, HX, HSEP, HPWr, hbr⟩ := hrel
    have HB := Lib.hid hbr
    have HJ := Lib.hid hj
    have hbs0 : w.heap.size ≤ wr.heap.size := hbr.size
    have hDl : D.length ≤ 300 := by have := HA.out.len; omega
    have HDl := Lib.hid hDl
    have HND : Hid D.Nodup := Lib.hid (by obtain ⟨_, _, _, _, _, h9⟩ := HD.out; exact h9)
    obtain ⟨aox, capx, rfl⟩ := own_slice HX.out.2
    clear hbr hj
    by_cases hlt : j < l.length
    · obtain ⟨g, off, rfl, hgw, hcellw⟩ := HN.out.at hlt
      obtain ⟨t, ht⟩ : ∃ t, l[j] = t := ⟨_, rfl⟩
      have htl : t.length ≤ 20000 := ht ▸ hin.out.each _ (List.getElem_mem hlt)
      rw [ht] at hcellw
      have hi1 : (j : Int) < (l.length : Int) := by omega
      obtain ⟨X, hX⟩ : ∃ X : ByteArray, (⟨t.toArray⟩ : ByteArray) = X := ⟨_, rfl⟩
      have hXV : strV t = .string X := by unfold strV; rw [hX]
      rw [hXV] at hcellw
      have HXV := Lib.hid hXV
      have hcell : wr.cell? ⟨g, off + j, none⟩ = some (.string X) := (HB.out.cell (p := ⟨g, off + j, none⟩) hgw).trans hcellw
      have hg1 : g < wr.drew.heap.size := Nat.lt_of_lt_of_le hgw hbs0
      have hS0 : wr.drew.cell? ⟨g, off + j, none⟩ = some (.string X) := hcell
      have hneS : Nonempty { w' : World // w'.cell? ⟨g, off + j, none⟩ = some (.string X) } := ⟨⟨_, hS0⟩⟩
      have hxS : ∀ t : { w' : World // w'.cell? ⟨g, off + j, none⟩ = some (.string X) }, t.1.cell? ⟨g, off + j, none⟩ = some (.string X) := fun t => t.2
      have HBd := Lib.hid (HB.out.trans ((below_drew0 wr).mono hbs0))
      have hbs : w.heap.size ≤ wr.drew.heap.size := hbs0
      have HDd : Hid (DAtV wr.drew b D vd) := Lib.hid (datv_upd HD.out (Upd.drew (fun _ => False) wr) (fun h => h) (fun h => h) (fun _ _ h => h))
      have HXd : Hid (DRefV wr.drew p D (.slice aox D.length capx)) := Lib.hid (drefv_below HX.out (below_drew0 wr))
      have HPW : Hid (p < wr.drew.heap.size) := Lib.hid HPWr.out
      have HGL : Hid (¬ (g = b ∨ g = b + 1 ∨ vd.ownBlock = some g)) := Lib.hid (fun h => by
        have h5 := HSEP.out; have h6 := HBP.out
        rcases h with h | h | h
        · omega
        · omega
        · have := h5.1 _ h; omega)
      have HGL2 : Hid (¬ (g = p ∨ (Value.slice aox D.length capx).ownBlock = some g)) := Lib.hid (fun h => by
        have h5 := HSEP.out; have h6 := HBP.out
        rcases h with h | h
        · omega
        · have := (h5.2 _ h).1; omega)
      have HTJ := Lib.hid ht
      clear ht hX hXV hcellw hcell
      by_cases hmem : t ∈ D
      · obtain ⟨i0, hi0, hil⟩ := dadd_get hmem
        have HI := Lib.hid hi0
        have HA2 := Lib.hid (added_old HA.out hlt (by rw [HTJ.out]; exact hmem))
        clear hmem hi0
        go_wp2_with fail
        refine wp_region_seqT (fun w' => w'.cell? ⟨g, off + j, none⟩ = some (.string X)) [(0, true), (1, true), (2, true), (3, true), (4, true), (6, true), (7, true), (8, true), (9, true), (10, true), (5, false), (11, false), (12, true), (13, true), (14, true), (16, true), (17, true), (18, true), (19, true), (20, true), (15, false), (21, true), (22, true)] (by kernel_rfl) (by kernel_rfl) (by kernel_rfl) (by kernel_rfl) hS0 ?_
        iterate 10 (refine seqT_take _ rfl (fun K hK => ?_); go_simp; (first | refine hK _ ?_ | (refine ⟨undef, by rw [if_neg (by simp [undef])], ?_⟩; refine hK _ ?_)); clear hK K)
        refine seqT_come _ rfl (fun K hK => ?_); go_simp
        rw [← HXV.out]
        refine (dadd_old b D i0 t _ (Lib.hid HDd.out.at) HI (by omega)).mono ?_; rintro e w' ⟨rfl, rfl⟩
        go_simp; refine hK.out _ _ (fun w' => w'.cell? ⟨g, off + j, none⟩ = some (.string X)) (fun _ h => h) hS0 ?_; clear hK K
        refine seqT_come _ rfl (fun K hK => ?_); go_simp
        refine (rdadd_oldv p D i0 t _ HXd HDl HI HND).mono ?_; rintro e w2 ⟨rfl, hb2⟩
        have HB2 := Lib.hid (HBd.out.trans (hb2.mono hbs))
        have HD2 := Lib.hid (datv_upd HDd.out (Upd.of_new (S := fun _ => False) hb2) (fun h => h) (fun h => h) (fun _ _ h => h))
        have HX2 := Lib.hid (drefv_below HXd.out hb2)
        have hS2 : w2.cell? ⟨g, off + j, none⟩ = some (.string X) ∧ w2.cell? ⟨p, 0, none⟩ = some (.slice aox D.length capx) := ⟨(hb2.cell (p := ⟨g, off + j, none⟩) hg1).trans hS0, row_cell HX2.out.1 (j := 0) rfl⟩
        have hneT : Nonempty { w' : World // w'.cell? ⟨g, off + j, none⟩ = some (.string X) ∧ w'.cell? ⟨p, 0, none⟩ = some (.slice aox D.length capx) } := ⟨⟨_, hS2⟩⟩
        have hxT : ∀ t : { w' : World // w'.cell? ⟨g, off + j, none⟩ = some (.string X) ∧ w'.cell? ⟨p, 0, none⟩ = some (.slice aox D.length capx) }, t.1.cell? ⟨p, 0, none⟩ = some (.slice aox D.length capx) := fun t => t.2.2
        clear hb2
        go_simp; refine hK.out _ _ (fun w' => w'.cell? ⟨g, off + j, none⟩ = some (.string X) ∧ w'.cell? ⟨p, 0, none⟩ = some (.slice aox D.length capx)) (fun _ h => h.1) hS2 ?_; clear hK K
        iterate 8 (refine seqT_take _ rfl (fun K hK => ?_); go_simp; (first | refine hK _ ?_ | (refine ⟨undef, by rw [if_neg (by simp [undef])], ?_⟩; refine hK _ ?_)); clear hK K)
        refine seqT_come _ rfl (fun K hK => ?_); go_simp
        refine (dlen_any b D _ (Lib.hid HD2.out.at)).mono ?_; rintro e w' ⟨rfl, rfl⟩
        go_simp; refine hK.out _ _ (fun w' => w'.cell? ⟨g, off + j, none⟩ = some (.string X) ∧ w'.cell? ⟨p, 0, none⟩ = some (.slice aox D.length capx)) (fun _ h => h) hS2 ?_; clear hK K
        iterate 2 (refine seqT_take _ rfl (fun K hK => ?_); go_simp; (first | refine hK _ ?_ | (refine ⟨undef, by rw [if_neg (by simp [undef])], ?_⟩; refine hK _ ?_)); clear hK K)
        refine seqT_done ?_
        clear hxS hneS hxT hneT
        go_wp2_with fail
        have hj := HJ.out
        go_roundg (gk - 1)
        case measure => omega
        case rel => exact ⟨j + 1, D, vd, _, by omega, by simp, HA2, HD2, HX2, HSEP, Lib.hid (row_lt HX2.out.1), HB2.out⟩
      · have HA2 : Hid (Added l (j + 1) (D ++ [t])) := Lib.hid (by have := added_new HA.out hlt; rw [HTJ.out] at this; exact this)
        go_wp2_with fail
        refine wp_region_seqT (fun w' => w'.cell? ⟨g, off + j, none⟩ = some (.string X)) [(0, true), (1, true), (2, true), (3, true), (4, true), (6, true), (7, true), (8, true), (9, true), (10, true), (5, false), (11, false), (12, true), (13, true), (14, true), (16, true), (17, true), (18, true), (19, true), (20, true), (15, false), (21, true), (22, true)] (by kernel_rfl) (by kernel_rfl) (by kernel_rfl) (by kernel_rfl) hS0 ?_
        iterate 10 (refine seqT_take _ rfl (fun K hK => ?_); go_simp; (first | refine hK _ ?_ | (refine ⟨undef, by rw [if_neg (by simp [undef])], ?_⟩; refine hK _ ?_)); clear hK K)
        refine seqT_come _ rfl (fun K hK => ?_); go_simp
        rw [← HXV.out]
        refine (dadd_newv b D t _ _ HDd hmem (by omega) (by omega)).mono ?_; rintro e w1 ⟨rfl, gd, capd, HD1, hu1, hfr1⟩
        have hsz1 := hu1.size
        have HUd := Lib.hid hu1
        have hS1 : w1.cell? ⟨g, off + j, none⟩ = some (.string X) := (hu1.cell (a := ⟨g, off + j, none⟩) hg1 (fun hk => HGL.out hk)).trans hS0
        have HX1 := Lib.hid (drefv_upd HXd.out hu1 (fun hk => by have h5 := HSEP.out; have h6 := HBP.out; rcases hk with hk | hk | hk <;> first | omega | (have := h5.1 _ hk; omega)) (fun k hk hk2 => by have h5 := HSEP.out; have h6 := HBP.out; have h7 := h5.2 k hk; rcases hk2 with hk2 | hk2 | hk2 <;> first | omega | exact h7.2 hk2))
        have HB1 : Hid (Below w.heap.size w w1) := Lib.hid (HBd.out.trans (hu1.below hbs (fun k _ hk => by have h5 := HSEP.out; have h6 := HBP.out; rcases hk with hk | hk | hk <;> first | omega | (have := h5.1 _ hk; omega))))
        go_simp; refine hK.out _ _ (fun w' => w'.cell? ⟨g, off + j, none⟩ = some (.string X)) (fun _ h => h) hS1 ?_; clear hK K
        refine seqT_come _ rfl (fun K hK => ?_); go_simp
        refine (rdadd_newv p D t _ _ HX1 HDl hmem).mono ?_; rintro e w2 ⟨rfl, gx, capx2, HX2, hu2, hfr2⟩
        have HB2 : Hid (Below w.heap.size w w2) := Lib.hid (HB1.out.trans (hu2.below HB1.out.size (fun k _ hk => by have h5 := HSEP.out; have h6 := HBP.out; rcases hk with hk | hk <;> first | omega | (have := (h5.2 _ hk).1; omega))))
        have hgdlt : gd < w1.heap.size := by obtain ⟨_, _, hrow, _⟩ := HD1.out; exact (hrow.lt gd rfl).2
        have HD2 := Lib.hid (datv_upd HD1.out hu2 (fun hk => by have h5 := HSEP.out; have h6 := HBP.out; rcases hk with hk | hk <;> first | omega | (have := (h5.2 _ hk).1; omega)) (fun hk => by have h5 := HSEP.out; have h6 := HBP.out; rcases hk with hk | hk <;> first | omega | (have := (h5.2 _ hk).1; omega)) (fun k hk hk2 => by have h5 := HSEP.out; have h6 := HBP.out; have hk : gd = k := (by injection hk); subst hk; rcases hk2 with hk2 | hk2 <;> rcases hfr1 with h8 | h8 <;> first | (have := h5.1 _ h8; omega) | exact (h5.2 _ hk2).2 h8 | (have := (HXd.out.2.lt _ hk2).2; omega) | (have := HPW.out; omega)))
        have HSEP2 : Hid ((∀ k, (Value.slice (some ⟨gd, 0, none⟩) (D.length + 1) capd).ownBlock = some k → p < k) ∧ ∀ k, (Value.slice (some ⟨gx, 0, none⟩) (D.length + 1) capx2).ownBlock = some k → p < k ∧ (Value.slice (some ⟨gd, 0, none⟩) (D.length + 1) capd).ownBlock ≠ some k) := Lib.hid (sep_next HSEP.out HXd.out HPW.out hsz1 hgdlt hfr1 hfr2)
        have hS2 : w2.cell? ⟨g, off + j, none⟩ = some (.string X) ∧ w2.cell? ⟨p, 0, none⟩ = some (.slice (some ⟨gx, 0, none⟩) (D.length + 1) capx2) := ⟨(hu2.cell (a := ⟨g, off + j, none⟩) (Nat.lt_of_lt_of_le hg1 hsz1) (fun hk => HGL2.out hk)).trans hS1, row_cell HX2.out.1 (j := 0) rfl⟩
        have hneT : Nonempty { w' : World // w'.cell? ⟨g, off + j, none⟩ = some (.string X) ∧ w'.cell? ⟨p, 0, none⟩ = some (.slice (some ⟨gx, 0, none⟩) (D.length + 1) capx2) } := ⟨⟨_, hS2⟩⟩
        have hxT : ∀ t : { w' : World // w'.cell? ⟨g, off + j, none⟩ = some (.string X) ∧ w'.cell? ⟨p, 0, none⟩ = some (.slice (some ⟨gx, 0, none⟩) (D.length + 1) capx2) }, t.1.cell? ⟨p, 0, none⟩ = some (.slice (some ⟨gx, 0, none⟩) (D.length + 1) capx2) := fun t => t.2.2
        have hlen2 : ((D ++ [t]).length : Int) = (D.length : Int) + 1 := by simp
        go_simp; refine hK.out _ _ (fun w' => w'.cell? ⟨g, off + j, none⟩ = some (.string X) ∧ w'.cell? ⟨p, 0, none⟩ = some (.slice (some ⟨gx, 0, none⟩) (D.length + 1) capx2)) (fun _ h => h.1) hS2 ?_; clear hK K
        iterate 8 (refine seqT_take _ rfl (fun K hK => ?_); go_simp; (first | refine hK _ ?_ | (refine ⟨undef, by rw [if_neg (by simp [undef])], ?_⟩; refine hK _ ?_)); clear hK K)
        refine seqT_come _ rfl (fun K hK => ?_); go_simp
        refine (dlen_any b (D ++ [t]) _ (Lib.hid HD2.out.at)).mono ?_; rintro e w' ⟨rfl, rfl⟩
        rw [hlen2]
        go_simp; refine hK.out _ _ (fun w' => w'.cell? ⟨g, off + j, none⟩ = some (.string X) ∧ w'.cell? ⟨p, 0, none⟩ = some (.slice (some ⟨gx, 0, none⟩) (D.length + 1) capx2)) (fun _ h => h) hS2 ?_; clear hK K
        iterate 2 (refine seqT_take _ rfl (fun K hK => ?_); go_simp; (first | refine hK _ ?_ | (refine ⟨undef, by rw [if_neg (by simp [undef])], ?_⟩; refine hK _ ?_)); clear hK K)
        refine seqT_done ?_
        clear hxS hneS hxT hneT hu1 hu2 hmem
        go_wp2_with fail
        have hj := HJ.out
        go_roundg (gk - 1)
        case measure => omega
        case rel => exact ⟨j + 1, D ++ [t], _, _, by omega, by simp, HA2, HD2, HX2, HSEP2, Lib.hid (row_lt HX2.out.1), HB2.out⟩
    · obtain rfl : j = l.length := by have := HJ.out; omega
      have hsum := HA.out.sum
      rw [List.take_length] at hsum
      have hls := hin.out.sum
      have he3 : (encs D).length ≤ 30000 := by omega
      have HDa := Lib.hid HD.out.at
      have HXa := Lib.hid HX.out.at
      obtain ⟨s, hs⟩ : ∃ s : ByteArray, (⟨(encD D).toArray⟩ : ByteArray) = s := ⟨_, rfl⟩
      have HS := Lib.hid hs
      have HSX : Hid (Strs wr aox D) := Lib.hid (strs_of_own (cap := capx) (base := p + 1) (e := 9) HX.out.2)
      clear hsum hls hs
      go_wp2_with fail
      refine (dput_any b D _ HDa (by omega) (by omega) (T := encD D) (Lib.hid rfl)).mono ?_; rintro e w5 ⟨rfl, hb5⟩
      rw [HS.out]
      have HB5 := Lib.hid (dstepd HB.out hb5)
      have HD5 := Lib.hid (dat_below HDa.out hb5)
      have HX5 := Lib.hid (dref_below HXa.out hb5)
      have HXv5 := Lib.hid (drefv_below HX.out hb5)
      have HS5' := Lib.hid (HSX.out.below hb5)
      clear hb5
      go_wp2_with fail
      refine (rdput_any p D _ HX5 (by omega) (by omega)).mono ?_; rintro e w7 ⟨rfl, hb7⟩
      rw [HS.out]
      have HB7 := Lib.hid (dstepd HB5.out hb7)
      have HD7 := Lib.hid (dat_below HD5.out hb7)
      have HX7 := Lib.hid (drefv_below HXv5.out hb7)
      have HS7 := Lib.hid (HS5'.out.below hb7)
      have hxc7 : w7.cell? ⟨p, 0, none⟩ = some (.slice aox D.length capx) := row_cell HX7.out.1 (j := 0) rfl
      have HP7 : Hid (p < w7.heap.size) := Lib.hid (row_lt HX7.out.1)
      clear hb7
      go_wp2_with fail
      by_cases h0 : i < 0
      · have d1 : decide (i ≥ 0) = false := decide_eq_false (by omega)
        refine (dget_out b D i _ HD7 (.inl h0)).mono ?_; rintro e w' ⟨rfl, rfl⟩
        go_wp2_with fail
        have HBe : Hid (Below w.heap.size w w7.drew) := Lib.hid (dstepd HB7.out (below_drew0 w7))
        have HDe : Hid (DAt w7.drew b D) := Lib.hid (dat_below HD7.out (below_drew0 w7))
        have HSe : Hid (Strs w7.drew aox D) := Lib.hid (HS7.out.below (below_drew0 w7))
        have hSe : w7.drew.cell? ⟨p, 0, none⟩ = some (.slice aox D.length capx) := hxc7
        have HPe : Hid (p < w7.drew.heap.size) := Lib.hid HP7.out
        have hneS : Nonempty { w' : World // w'.cell? ⟨p, 0, none⟩ = some (.slice aox D.length capx) } := ⟨⟨_, hSe⟩⟩
        have hxS : ∀ t : { w' : World // w'.cell? ⟨p, 0, none⟩ = some (.slice aox D.length capx) }, t.1.cell? ⟨p, 0, none⟩ = some (.slice aox D.length capx) := fun t => t.2
        refine wp_region_seq (S := fun w' => w'.cell? ⟨p, 0, none⟩ = some (.slice aox D.length capx)) [(0, false), (1, true), (2, true), (4, true), (5, true), (6, true), (7, true), (3, false), (8, false), (9, true), (10, true), (11, true), (12, true), (13, true), (14, true), (15, true), (16, true), (18, true), (17, false), (19, true), (20, true), (21, true)] (by kernel_rfl) (by kernel_rfl) (by kernel_rfl) (by kernel_rfl) hSe ?_
        refine seq_come _ rfl (fun K hK => ?_); go_simp
        refine (first23 _).mono ?_; rintro e w4 ⟨rfl, hb4⟩
        have HB4 := Lib.hid (dstepd HBe.out hb4)
        have HD4 := Lib.hid (dat_below HDe.out hb4)
        have HS4 := Lib.hid (HSe.out.below hb4)
        have hS4 : w4.cell? ⟨p, 0, none⟩ = some (.slice aox D.length capx) := (hb4.cell (p := ⟨p, 0, none⟩) HPe.out).trans hSe
        have HP4 : Hid (p < w4.heap.size) := Lib.hid (Nat.lt_of_lt_of_le HPe.out hb4.size)
        clear hb4
        go_simp; refine hK.out _ _ hS4 ?_; clear hK K
        iterate 6 (refine seq_take _ rfl (fun K hK => ?_); go_simp; (first | refine hK _ ?_ | (refine ⟨undef, by rw [if_neg (by simp [undef])], ?_⟩; refine hK _ ?_)); clear hK K)
        refine seq_come _ rfl (fun K hK => ?_); go_simp
        refine (dall_any b D _ HD4 (by omega)).mono ?_; rintro e w5 ⟨hb5, ao5, cap5, rfl, HS5⟩
        have HB5 := Lib.hid (dstepd HB4.out hb5)
        have HT5 := Lib.hid (HS4.out.below hb5)
        have hS5 : w5.cell? ⟨p, 0, none⟩ = some (.slice aox D.length capx) := (hb5.cell (p := ⟨p, 0, none⟩) HP4.out).trans hS4
        have HP5 : Hid (p < w5.heap.size) := Lib.hid (Nat.lt_of_lt_of_le HP4.out hb5.size)
        clear hb5
        go_simp; refine hK.out _ _ hS5 ?_; clear hK K
        refine seq_come _ rfl (fun K hK => ?_); go_simp
        refine (texts_len ao5 aox cap5 capx D _ _ _ rfl rfl HS5.out HT5.out (by omega)).mono ?_; rintro e w6 ⟨rfl, hb6⟩
        have HB6 := Lib.hid (dstepd HB5.out hb6)
        have hS6 : w6.cell? ⟨p, 0, none⟩ = some (.slice aox D.length capx) := (hb6.cell (p := ⟨p, 0, none⟩) HP5.out).trans hS5
        clear hb6
        go_simp; refine hK.out _ _ hS6 ?_; clear hK K
        iterate 9 (refine seq_take _ rfl (fun K hK => ?_); go_simp; (first | refine hK _ ?_ | (refine ⟨undef, by rw [if_neg (by simp [undef])], ?_⟩; refine hK _ ?_)); clear hK K)
        refine seq_come _ rfl (fun K hK => ?_); go_simp
        refine (code_nil _).mono ?_; rintro e w' ⟨rfl, rfl⟩
        go_simp; refine hK.out _ _ hS6 ?_; clear hK K
        iterate 3 (refine seq_take _ rfl (fun K hK => ?_); go_simp; (first | refine hK _ ?_ | (refine ⟨undef, by rw [if_neg (by simp [undef])], ?_⟩; refine hK _ ?_)); clear hK K)
        refine seq_done ?_
        go_wp2_with fail
        go_ret
        exact ⟨rfl, HB6.out⟩
      have d1 : decide (i ≥ 0) = true := decide_eq_true (by omega)
      by_cases h1 : (D.length : Int) ≤ i
      · have d2 : decide (i < (D.length : Int)) = false := decide_eq_false (by omega)
        refine (dget_out b D i _ HD7 (.inr h1)).mono ?_; rintro e w' ⟨rfl, rfl⟩
        go_wp2_with fail
        have HBe : Hid (Below w.heap.size w w7.drew) := Lib.hid (dstepd HB7.out (below_drew0 w7))
        have HDe : Hid (DAt w7.drew b D) := Lib.hid (dat_below HD7.out (below_drew0 w7))
        have HSe : Hid (Strs w7.drew aox D) := Lib.hid (HS7.out.below (below_drew0 w7))
        have hSe : w7.drew.cell? ⟨p, 0, none⟩ = some (.slice aox D.length capx) := hxc7
        have HPe : Hid (p < w7.drew.heap.size) := Lib.hid HP7.out
        have hneS : Nonempty { w' : World // w'.cell? ⟨p, 0, none⟩ = some (.slice aox D.length capx) } := ⟨⟨_, hSe⟩⟩
        have hxS : ∀ t : { w' : World // w'.cell? ⟨p, 0, none⟩ = some (.slice aox D.length capx) }, t.1.cell? ⟨p, 0, none⟩ = some (.slice aox D.length capx) := fun t => t.2
        refine wp_region_seq (S := fun w' => w'.cell? ⟨p, 0, none⟩ = some (.slice aox D.length capx)) [(0, false), (1, true), (2, true), (4, true), (5, true), (6, true), (7, true), (3, false), (8, false), (9, true), (10, true), (11, true), (12, true), (13, true), (14, true), (15, true), (16, true), (18, true), (17, false), (19, true), (20, true), (21, true)] (by kernel_rfl) (by kernel_rfl) (by kernel_rfl) (by kernel_rfl) hSe ?_
        refine seq_come _ rfl (fun K hK => ?_); go_simp
        refine (first23 _).mono ?_; rintro e w4 ⟨rfl, hb4⟩
        have HB4 := Lib.hid (dstepd HBe.out hb4)
        have HD4 := Lib.hid (dat_below HDe.out hb4)
        have HS4 := Lib.hid (HSe.out.below hb4)
        have hS4 : w4.cell? ⟨p, 0, none⟩ = some (.slice aox D.length capx) := (hb4.cell (p := ⟨p, 0, none⟩) HPe.out).trans hSe
        have HP4 : Hid (p < w4.heap.size) := Lib.hid (Nat.lt_of_lt_of_le HPe.out hb4.size)
        clear hb4
        go_simp; refine hK.out _ _ hS4 ?_; clear hK K
        iterate 6 (refine seq_take _ rfl (fun K hK => ?_); go_simp; (first | refine hK _ ?_ | (refine ⟨undef, by rw [if_neg (by simp [undef])], ?_⟩; refine hK _ ?_)); clear hK K)
        refine seq_come _ rfl (fun K hK => ?_); go_simp
        refine (dall_any b D _ HD4 (by omega)).mono ?_; rintro e w5 ⟨hb5, ao5, cap5, rfl, HS5⟩
        have HB5 := Lib.hid (dstepd HB4.out hb5)
        have HT5 := Lib.hid (HS4.out.below hb5)
        have hS5 : w5.cell? ⟨p, 0, none⟩ = some (.slice aox D.length capx) := (hb5.cell (p := ⟨p, 0, none⟩) HP4.out).trans hS4
        have HP5 : Hid (p < w5.heap.size) := Lib.hid (Nat.lt_of_lt_of_le HP4.out hb5.size)
        clear hb5
        go_simp; refine hK.out _ _ hS5 ?_; clear hK K
        refine seq_come _ rfl (fun K hK => ?_); go_simp
        refine (texts_len ao5 aox cap5 capx D _ _ _ rfl rfl HS5.out HT5.out (by omega)).mono ?_; rintro e w6 ⟨rfl, hb6⟩
        have HB6 := Lib.hid (dstepd HB5.out hb6)
        have hS6 : w6.cell? ⟨p, 0, none⟩ = some (.slice aox D.length capx) := (hb6.cell (p := ⟨p, 0, none⟩) HP5.out).trans hS5
        clear hb6
        go_simp; refine hK.out _ _ hS6 ?_; clear hK K
        iterate 9 (refine seq_take _ rfl (fun K hK => ?_); go_simp; (first | refine hK _ ?_ | (refine ⟨undef, by rw [if_neg (by simp [undef])], ?_⟩; refine hK _ ?_)); clear hK K)
        refine seq_come _ rfl (fun K hK => ?_); go_simp
        refine (code_nil _).mono ?_; rintro e w' ⟨rfl, rfl⟩
        go_simp; refine hK.out _ _ hS6 ?_; clear hK K
        iterate 3 (refine seq_take _ rfl (fun K hK => ?_); go_simp; (first | refine hK _ ?_ | (refine ⟨undef, by rw [if_neg (by simp [undef])], ?_⟩; refine hK _ ?_)); clear hK K)
        refine seq_done ?_
        go_wp2_with fail
        go_ret
        exact ⟨rfl, HB6.out⟩
      obtain ⟨n, rfl⟩ := Int.eq_ofNat_of_zero_le (show 0 ≤ i by omega)
      have hnl : n < D.length := by omega
      have d2 : decide ((n : Int) < (D.length : Int)) = true := decide_eq_true (by omega)
      have hn1 : (n : Int) < (D.length : Int) := by omega
      obtain ⟨gx, offx, rfl, hgx, hcx⟩ := HS7.out.at hnl
      obtain ⟨t, ht⟩ : ∃ t, D[n] = t := ⟨_, rfl⟩
      have HI : Hid (D[n]? = some t) := Lib.hid (by rw [List.getElem?_eq_getElem hnl, ht])
      rw [ht] at hcx
      obtain ⟨X, hX⟩ : ∃ X : ByteArray, (⟨t.toArray⟩ : ByteArray) = X := ⟨_, rfl⟩
      have hXV : strV t = .string X := by unfold strV; rw [hX]
      rw [hXV] at hcx
      clear ht hX h0 h1
      refine (dget_in b D n t _ HD7 HI).mono ?_; rintro e w' ⟨rfl, rfl⟩
      rw [hXV]
      clear hXV
      go_wp2_with fail
      have HBe : Hid (Below w.heap.size w w7.drew) := Lib.hid (dstepd HB7.out (below_drew0 w7))
      have HDe : Hid (DAt w7.drew b D) := Lib.hid (dat_below HD7.out (below_drew0 w7))
      have HSe : Hid (Strs w7.drew (some ⟨gx, offx, none⟩) D) := Lib.hid (HS7.out.below (below_drew0 w7))
      have hSe : w7.drew.cell? ⟨p, 0, none⟩ = some (.slice (some ⟨gx, offx, none⟩) D.length capx) := hxc7
      have HPe : Hid (p < w7.drew.heap.size) := Lib.hid HP7.out
      have hneS : Nonempty { w' : World // w'.cell? ⟨p, 0, none⟩ = some (.slice (some ⟨gx, offx, none⟩) D.length capx) } := ⟨⟨_, hSe⟩⟩
      have hxS : ∀ t : { w' : World // w'.cell? ⟨p, 0, none⟩ = some (.slice (some ⟨gx, offx, none⟩) D.length capx) }, t.1.cell? ⟨p, 0, none⟩ = some (.slice (some ⟨gx, offx, none⟩) D.length capx) := fun t => t.2
      refine wp_region_seq (S := fun w' => w'.cell? ⟨p, 0, none⟩ = some (.slice (some ⟨gx, offx, none⟩) D.length capx)) [(0, false), (1, true), (2, true), (4, true), (5, true), (6, true), (7, true), (3, false), (8, false), (9, true), (10, true), (11, true), (12, true), (13, true), (14, true), (15, true), (16, true), (18, true), (17, false), (19, true), (20, true), (21, true)] (by kernel_rfl) (by kernel_rfl) (by kernel_rfl) (by kernel_rfl) hSe ?_
      refine seq_come _ rfl (fun K hK => ?_); go_simp
      refine (first23 _).mono ?_; rintro e w4 ⟨rfl, hb4⟩
      have HB4 := Lib.hid (dstepd HBe.out hb4)
      have HD4 := Lib.hid (dat_below HDe.out hb4)
      have HS4 := Lib.hid (HSe.out.below hb4)
      have hS4 : w4.cell? ⟨p, 0, none⟩ = some (.slice (some ⟨gx, offx, none⟩) D.length capx) := (hb4.cell (p := ⟨p, 0, none⟩) HPe.out).trans hSe
      have HP4 : Hid (p < w4.heap.size) := Lib.hid (Nat.lt_of_lt_of_le HPe.out hb4.size)
      clear hb4
      go_simp; refine hK.out _ _ hS4 ?_; clear hK K
      iterate 6 (refine seq_take _ rfl (fun K hK => ?_); go_simp; (first | refine hK _ ?_ | (refine ⟨undef, by rw [if_neg (by simp [undef])], ?_⟩; refine hK _ ?_)); clear hK K)
      refine seq_come _ rfl (fun K hK => ?_); go_simp
      refine (dall_any b D _ HD4 (by omega)).mono ?_; rintro e w5 ⟨hb5, ao5, cap5, rfl, HS5⟩
      have HB5 := Lib.hid (dstepd HB4.out hb5)
      have HT5 := Lib.hid (HS4.out.below hb5)
      have hS5 : w5.cell? ⟨p, 0, none⟩ = some (.slice (some ⟨gx, offx, none⟩) D.length capx) := (hb5.cell (p := ⟨p, 0, none⟩) HP4.out).trans hS4
      have HP5 : Hid (p < w5.heap.size) := Lib.hid (Nat.lt_of_lt_of_le HP4.out hb5.size)
      clear hb5
      go_simp; refine hK.out _ _ hS5 ?_; clear hK K
      refine seq_come _ rfl (fun K hK => ?_); go_simp
      refine (texts_len ao5 (some ⟨gx, offx, none⟩) cap5 capx D _ _ _ rfl rfl HS5.out HT5.out (by omega)).mono ?_; rintro e w6 ⟨rfl, hb6⟩
      have HB6 := Lib.hid (dstepd HB5.out hb6)
      have hS6 : w6.cell? ⟨p, 0, none⟩ = some (.slice (some ⟨gx, offx, none⟩) D.length capx) := (hb6.cell (p := ⟨p, 0, none⟩) HP5.out).trans hS5
      clear hb6
      go_simp; refine hK.out _ _ hS6 ?_; clear hK K
      iterate 9 (refine seq_take _ rfl (fun K hK => ?_); go_simp; (first | refine hK _ ?_ | (refine ⟨undef, by rw [if_neg (by simp [undef])], ?_⟩; refine hK _ ?_)); clear hK K)
      refine seq_come _ rfl (fun K hK => ?_); go_simp
      refine (code_nil _).mono ?_; rintro e w' ⟨rfl, rfl⟩
      go_simp; refine hK.out _ _ hS6 ?_; clear hK K
      iterate 3 (refine seq_take _ rfl (fun K hK => ?_); go_simp; (first | refine hK _ ?_ | (refine ⟨undef, by rw [if_neg (by simp [undef])], ?_⟩; refine hK _ ?_)); clear hK K)
      refine seq_done ?_
      go_wp2_with fail
      go_ret
      exact ⟨rfl, HB6.out⟩
theorem dadds_any (ao : Option Addr) (cap : Nat) (l : List (List UInt8)) (i : Int) (w : World) (hN : Strs w ao l) (hm : l.length ≤ 9223372036854775807) (hlt : ∀ t ∈ l, t.length ≤ 9223372036854775807) :
    Calls Tryd.prog 7 #[.slice ao l.length cap, .int .i64 i] w fun e w' => e = .returned (.bool true) ∧ Below w.heap.size w w' := by
  cases hf : fewB l with
  | false => exact dadds_few ao cap l i w hN hm (Lib.hid hlt) (Lib.hid hf)
  | true => exact dadds_walk ao cap l i w hN (Lib.hid (back_in hf (by decide)))
end Go.Proofs.YtihoemimiplhfaaDoor
