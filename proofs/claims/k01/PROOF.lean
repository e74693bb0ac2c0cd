import PyProof.Rows.All
import Wide.All
import OpenK.AllK
import Wide.FinOn
import HandS.ForMost
import HandS.Walk
import HandS.IsInst
import HandS.Zip
import HandS.Style
import KE.GoesNew
import PySem.Challenge.RW_relitgoals_k01_lamps_and_sets
import KE.GoesEnum
import KE.GoesMore
import PyProof.SliceStr2
set_option Elab.async false
set_option linter.all false
set_option maxRecDepth 100000
set_option maxHeartbeats 4500000
/-! my own base: heaps, the bag of draws -/
namespace Rg
open PySem PySem.Spec PyProof.Rows L2
/-- all but B as it was -/
def SameB (B : Addr) (H H' : Hp) : Prop := ∀ b o, b ≠ B → H b = some o → H' b = some o
theorem SameB.refl (B : Addr) (H : Hp) : SameB B H H := fun _ _ _ h => h
theorem SameB.trans {B : Addr} {H H1 H2 : Hp} (a : SameB B H H1) (b : SameB B H1 H2) : SameB B H H2 := fun c o n h => b c o n (a c o n h)
theorem Same.toB {B : Addr} {H H' : Hp} (e : Same H H') : SameB B H H' := fun b o _ h => e b o h
theorem SameB.upd {B : Addr} {H H' : Hp} {o : HO} (e : SameB B H H') : SameB B H (upd H' B o) := fun b u n h => by rw [upd_ne n]; exact e b u n h
theorem same_new {H : Hp} {p : Addr} {o : HO} (h : H p = none) : Same H (upd H p o) := fun b x e => by rw [upd_ne (ne_of_none e h)]; exact e
theorem SqL.ofB {K : PySem.W.Frag} {B : Addr} {H H' : Hp} {a : Addr} {xs : List V} (e : SameB B H H') (n : a ≠ B) (h : SqL K H a xs) : SqL K H' a xs := by
  obtain (plain | ⟨u, fz⟩) | inK := h
  · exact .inl (.inl (e a _ n plain))
  · exact .inl (.inr ⟨u, e a _ n fz⟩)
  · exact .inr inK
theorem SqT.ofS {K : PySem.W.Frag} {H H' : Hp} {a : Addr} {xs : List V} (e : Same H H') (h : SqT K H a xs) : SqT K H' a xs := by
  obtain (plain | ⟨u, fz⟩) | inK := h
  · exact .inl (.inl (e a _ plain))
  · exact .inl (.inr ⟨u, e a _ fz⟩)
  · exact .inr inK
/-- the bag: the script's copy, how many are taken, the great cell's rest, the mixed number -/
def Bag (H : Hp) (B L : Addr) : Prop := ∃ (ns : List Int) (i d s : Int), H B = some (.lst [.ref L, .int i, .int d, .int s]) ∧ H L = some (.lst (ns.map V.int)) ∧ L ≠ B ∧ 0 ≤ i ∧ 0 ≤ d ∧ 0 ≤ s ∧ s < 2147483629
theorem Bag.same {H H' : Hp} {B L : Addr} (h : Bag H B L) (e : Same H H') : Bag H' B L := by
  obtain ⟨ns, i, d, s, h1, h2, r⟩ := h
  exact ⟨ns, i, d, s, e _ _ h1, e _ _ h2, r⟩
theorem Bag.neB {H : Hp} {B L D : Addr} (h : Bag H B L) (n : H D = none) : D ≠ B := by
  obtain ⟨ns, i, d, s, h1, h2, r⟩ := h
  exact (ne_of_none h1 n).symm
theorem Bag.neL {H : Hp} {B L D : Addr} (h : Bag H B L) (n : H D = none) : D ≠ L := by
  obtain ⟨ns, i, d, s, h1, h2, r⟩ := h
  exact (ne_of_none h2 n).symm
theorem Bag.upd {H : Hp} {B L D : Addr} {o : HO} (h : Bag H B L) (nB : D ≠ B) (nL : D ≠ L) : Bag (upd H D o) B L := by
  obtain ⟨ns, i, d, s, h1, h2, r⟩ := h
  exact ⟨ns, i, d, s, by rw [upd_ne nB.symm]; exact h1, by rw [upd_ne nL.symm]; exact h2, r⟩
theorem fmod_lo {a b : Int} (h : 0 < b) : 0 ≤ a.fmod b := Int.fmod_nonneg_of_pos a h
theorem fmod_hi {a b : Int} (h : 0 < b) : a.fmod b < b := Int.fmod_lt_of_pos a h
theorem fdiv_lo {a b : Int} (h : 0 < b) (ha : 0 ≤ a) : 0 ≤ a.fdiv b := Int.fdiv_nonneg ha (by omega)
end Rg

set_option Elab.async false
set_option linter.all false
set_option maxRecDepth 100000
set_option maxHeartbeats 4500000
namespace Rg
open PySem PySem.Spec PyProof.Rows L2
def topS (i : Nat) : Stmt := PySem.Challenge.pw_relitgoals_k01_lamps_and_sets.main.body.getD i (.Pass ⟨0, 0, 0, 0⟩)
abbrev s_l_pull : Stmt := topS 9
theorem sc_l_pull : FnScope ["_law_bag_here", "_law_many", "_law_cell", "_law_digit"] ["_law_bag_here", "_law_many"] (defScope s_l_pull) := ⟨rfl, rfl, rfl, by decide +kernel, rfl, by decide +kernel, by decide +kernel⟩

section
variable {P : Program} {w : World} {K : PySem.W.Frag} {mg : Str → Option Value} {base : Heap}
def sp_pull : Sp := fun vs H Q _ => ∃ (B L : Addr) (m : Int), vs = [.ref B, .int m] ∧ Bag H B L ∧ 0 < m ∧ m < 1000000 ∧ ∀ H' r, SameB B H H' → Bag H' B L → 0 ≤ r → r < m → Q (.int r) H'
theorem ok_pull {f : Addr} {fd : FuncData} {k : Nat} (F : Fun K "_law_pull" "_law_pull" s_l_pull f fd) (m_len : mg "len" = none) (m_abs : mg "abs" = none) (m_int : mg "int" = none) : FnOk P w K mg base CX0 (k + 1) f fd ["_law_bag_here", "_law_many"] sp_pull := by
  refine F.ok sc_l_pull (fun vs H Q E h => ?_) (fun cdv A outer s H vs Q E hr h => ?_)
  · obtain ⟨B, L, m, rfl, _⟩ := h
    rfl
  · obtain ⟨B, L, m, rfl, hB, m0, m1, q⟩ := h
    obtain ⟨t2, h2, r2⟩ : ∃ t2, PSs (cxOf CX0 P w K mg base ["_law_bag_here", "_law_many", "_law_cell", "_law_digit"] "_law_pull" (defScope s_l_pull) f cdv A outer s H E).nox ((defBody s_l_pull).drop 1) t2 ∧
        ∀ (c : Option V) (H1 : Hp), SameB B H H1 → Bag H1 B L → t2 { nx := fun _ H' => Q .non H', rt := Q } [some (.ref B), some (.int m), c, none] H1 := by
      refine ⟨_, (pss_cons (ps_if (pt_cmpR op_gt (pe_ix ix_list (pv 0) pe_int (fun _ _ => rfl)) pe_int (nomark _)) (pss_cons (ps_set (i := 3) sc_l_pull.nd rfl (Or.inl rfl) (pe_op op_modN (pe_callTy call_int1 (by rfl) m_int (by decide +kernel) (pa_cons (pe_ix ix_list (pv 0) pe_int (fun _ _ => rfl)) pa_nil)) (pv 1))) (pss_cons (ps_asg (pe_op op_fdivN (pe_ix ix_list (pv 0) pe_int (fun _ _ => rfl)) (pv 1)) (pg_sub (pv 0) pe_int set_list)) (pss_one (ps_ret (pv 3))))) pss_nil) (pss_cons (ps_asg (pe_op op_modN (pe_callTy call_int1 (by rfl) m_int (by decide +kernel) (pa_cons (pe_op op_add (pe_op op_add (pe_op op_pow (pe_ix ix_list (pv 0) pe_int (fun _ _ => rfl)) pe_int) (pe_op op_mul (pe_ix ix_list (pv 0) pe_int (fun _ _ => rfl)) pe_int)) pe_int) pa_nil)) pe_int) (pg_sub (pv 0) pe_int set_list)) (pss_one (ps_ret (pe_op op_modN (pe_callTy call_int1 (by rfl) m_int (by decide +kernel) (pa_cons (pe_op op_add (pe_op op_fdivN (pe_ix ix_list (pv 0) pe_int (fun _ _ => rfl)) pe_int) (pe_op op_mul (pe_op op_modN (pe_callTy call_int1 (by rfl) m_int (by decide +kernel) (pa_cons (pe_ix ix_list (pv 0) pe_int (fun _ _ => rfl)) pa_nil)) pe_int) pe_int)) pa_nil)) (pv 1)))))), fun c H1 sm hb => ?_⟩
      obtain ⟨ns, i, d, z, e1, e2, nL, i0, d0, z0, z1⟩ := hb
      have nm : m ≠ 0 := by omega
      have nm2 : m.natAbs < 1073741824 := by omega
      refine ⟨.ref B, rfl, B, _, 2, _, rfl, rfl, SqL.of e1, rfl, d, 0, rfl, rfl, _, rfl, ite2 (fun e => ?_) (fun e => ?_)⟩
      · refine ⟨.ref B, rfl, B, _, 2, _, rfl, rfl, SqL.of e1, rfl, .inl ⟨d, rfl, .int m, rfl, d, m, rfl, rfl, nm, ?_⟩⟩
        refine ⟨.ref B, rfl, B, _, 2, _, rfl, rfl, SqL.of e1, rfl, .int m, rfl, d, m, rfl, rfl, ⟨nm, nm2⟩, .ref B, rfl, B, _, 2, 2, rfl, rfl, e1, rfl, ?_⟩
        refine ⟨_, rfl, q _ _ sm.upd ⟨ns, i, d.fdiv m, z, upd_same, ?_, nL, i0, fdiv_lo m0 d0, z0, z1⟩ (fmod_lo m0) (fmod_hi m0)⟩
        rw [upd_ne nL]
        exact e2
      · refine ⟨.ref B, rfl, B, _, 3, _, rfl, rfl, SqL.of e1, rfl, z, 3, rfl, rfl, ⟨by decide, by decide, by omega⟩, .ref B, rfl, B, _, 3, _, rfl, rfl, SqL.of e1, rfl, z, 40503, rfl, rfl, .inl ⟨by omega, by omega⟩, _, _, rfl, rfl, _, _, rfl, rfl, .inl ⟨_, rfl, _, _, rfl, rfl, (show (2147483629 : Int) ≠ 0 by decide), .ref B, rfl, B, _, 3, 3, rfl, rfl, e1, rfl, ?_⟩⟩
        refine ⟨.ref B, rfl, B, _, 3, _, rfl, rfl, SqL.of upd_same, rfl, _, 61, rfl, rfl, ⟨by decide, by decide⟩, .ref B, rfl, B, _, 3, _, rfl, rfl, SqL.of upd_same, rfl, .inl ⟨_, rfl, _, 8209, rfl, rfl, (show (8209 : Int) ≠ 0 by decide), _, 29, rfl, rfl, .inr ⟨by decide, by decide⟩, _, _, rfl, rfl, .inl ⟨_, rfl, .int m, rfl, _, m, rfl, rfl, nm, ?_⟩⟩⟩
        refine q _ _ sm.upd ⟨ns, i, d, _, upd_same, ?_, nL, i0, d0, fmod_lo (by decide), fmod_hi (by decide)⟩ (fmod_lo m0) (fmod_hi m0)
        rw [upd_ne nL]
        exact e2
    refine ⟨_, pss_cons (ps_if (PW.pt (pw_and (pt_cmpR op_eq (pe_ix ix_list (pv 0) pe_int (fun _ _ => rfl)) pe_int (nomark _)) (pw_and1 (pt_cmpR op_lt (pe_ix ix_list (pv 0) pe_int (fun _ _ => rfl)) (pe_callB call_len_seq (by rfl) m_len PySem.boot_len (pa_cons (pe_ix ix_list (pv 0) pe_int (fun _ _ => rfl)) pa_nil)) (nomark _))))) (pss_cons (ps_set (i := 2) sc_l_pull.nd rfl (Or.inl rfl) (pe_ix ix_list (pe_ix ix_list (pv 0) pe_int (fun _ _ => rfl)) (pe_ix ix_list (pv 0) pe_int (fun _ _ => rfl)) (fun _ _ => rfl))) (pss_cons (ps_asg (pe_op op_add (pe_ix ix_list (pv 0) pe_int (fun _ _ => rfl)) pe_int) (pg_sub (pv 0) pe_int set_list)) (pss_one (ps_if (pt_cmpR op_ge (pe_callB call_abs (by rfl) m_abs (by decide +kernel) (pa_cons (pv 2) pa_nil)) (pe_op op_pow pe_int pe_int) (nomark _)) (pss_one (ps_asg (pe_callB call_abs (by rfl) m_abs (by decide +kernel) (pa_cons (pv 2) pa_nil)) (pg_sub (pv 0) pe_int set_list))) (pss_one (ps_asg (pe_op op_modN (pe_callTy call_int1 (by rfl) m_int (by decide +kernel) (pa_cons (pe_op op_add (pe_op op_add (pe_op op_mul (pe_ix ix_list (pv 0) pe_int (fun _ _ => rfl)) pe_int) (pe_op op_mul (pe_op op_modN (pe_callTy call_int1 (by rfl) m_int (by decide +kernel) (pa_cons (pv 2) pa_nil)) pe_int) pe_int)) pe_int) pa_nil)) pe_int) (pg_sub (pv 0) pe_int set_list))))))) pss_nil) h2, ?_⟩
    obtain ⟨ns, i, d, z, e1, e2, nL, i0, d0, z0, z1⟩ := hB
    refine ⟨.ref B, rfl, B, _, 2, _, rfl, rfl, SqL.of e1, rfl, rfl, _, rfl, ite2 (fun e => ?_) (fun e => ?_)⟩
    · refine ⟨.ref B, rfl, B, _, 1, _, rfl, rfl, SqL.of e1, rfl, .ref B, rfl, B, _, 0, _, rfl, rfl, SqL.of e1, rfl, L, _, rfl, .inl (SqL.of e2), i, _, rfl, rfl, _, rfl, ite2 (fun e => ?_) (fun e => ?_)⟩
      · have hi : i.toNat < ns.length := by
          have := of_decide_eq_true e
          rw [List.length_map] at this
          omega
        have ei : i = (i.toNat : Int) := by omega
        refine ⟨.ref B, rfl, B, _, 0, _, rfl, rfl, SqL.of e1, rfl, .ref B, rfl, B, _, 1, _, rfl, rfl, SqL.of e1, rfl, L, _, i, .int ns[i.toNat], rfl, rfl, SqL.of e2, at_of ei ?_, ?_⟩
        · rw [List.getElem?_map, List.getElem?_eq_getElem hi]
          rfl
        generalize ns[i.toNat] = c
        refine ⟨.ref B, rfl, B, _, 1, _, rfl, rfl, SqL.of e1, rfl, i, 1, rfl, rfl, .ref B, rfl, B, _, 1, 1, rfl, rfl, e1, rfl, ?_⟩
        refine ⟨.int c, rfl, c, rfl, 10, 18, rfl, rfl, ⟨by decide, by decide, by decide⟩, _, _, rfl, rfl, _, rfl, ite2 (fun e => ?_) (fun e => ?_)⟩
        · refine ⟨.int c, rfl, c, rfl, .ref B, rfl, B, _, 2, 2, rfl, rfl, upd_same, rfl, ?_⟩
          refine r2 _ _ (SameB.upd (SameB.upd (SameB.refl _ _))) ⟨ns, i + 1, _, z, upd_same, ?_, nL, by omega, ?_, z0, z1⟩
          · rw [upd_ne nL, upd_ne nL]
            exact e2
          · split <;> omega
        · refine ⟨.ref B, rfl, B, _, 3, _, rfl, rfl, SqL.of upd_same, rfl, z, 69069, rfl, rfl, .inl ⟨by omega, by omega⟩, .int c, rfl, .inl ⟨c, rfl, c, 1000000007, rfl, rfl, (show (1000000007 : Int) ≠ 0 by decide), _, 40503, rfl, rfl, .inr ⟨by decide, by decide⟩, _, _, rfl, rfl, _, 17, rfl, rfl, .inl ⟨_, rfl, _, 2147483629, rfl, rfl, (show (2147483629 : Int) ≠ 0 by decide), .ref B, rfl, B, _, 3, 3, rfl, rfl, upd_same, rfl, ?_⟩⟩⟩
          refine r2 _ _ (SameB.upd (SameB.upd (SameB.refl _ _))) ⟨ns, i + 1, d, _, upd_same, ?_, nL, by omega, d0, fmod_lo (by decide), fmod_hi (by decide)⟩
          rw [upd_ne nL, upd_ne nL]
          exact e2
      · exact r2 _ _ (SameB.refl _ _) ⟨ns, i, d, z, e1, e2, nL, i0, d0, z0, z1⟩
    · exact r2 _ _ (SameB.refl _ _) ⟨ns, i, d, z, e1, e2, nL, i0, d0, z0, z1⟩
end
end Rg

set_option Elab.async false
set_option linter.all false
set_option maxRecDepth 100000
set_option maxHeartbeats 4500000
namespace Rg
open PySem PySem.Spec PyProof.Rows L2
abbrev s_l_bag : Stmt := topS 8
theorem sc_l_bag : FnScope ["_law_script"] ["_law_script"] (defScope s_l_bag) := ⟨rfl, rfl, rfl, by decide +kernel, rfl, by decide +kernel, by decide +kernel⟩

abbrev s_l_of : Stmt := topS 10
theorem sc_l_of : FnScope ["_law_bag_here", "_law_some"] ["_law_bag_here", "_law_some"] (defScope s_l_of) := ⟨rfl, rfl, rfl, by decide +kernel, rfl, by decide +kernel, by decide +kernel⟩

theorem cut_map (ns : List Int) (lo hi : Option Int) : ∃ ms : List Int, cutV (ns.map V.int) lo hi = ms.map V.int := by
  refine ⟨(ns.drop (HT.sIx (ns.map V.int).length 0 lo)).take (HT.sIx (ns.map V.int).length (ns.map V.int).length hi - HT.sIx (ns.map V.int).length 0 lo), ?_⟩
  simp only [List.map_take, List.map_drop]
  rfl
section
variable {P : Program} {w : World} {K : PySem.W.Frag} {mg : Str → Option Value} {base : Heap}
def sp_bag (K : PySem.W.Frag) : Sp := fun vs H Q _ => ∃ (a : Addr) (ns : List Int), vs = [.ref a] ∧ SqL K H a (ns.map V.int) ∧ ∀ H' B L, Same H H' → H B = none → H L = none → Bag H' B L → Q (.ref B) H'
theorem ok_bag {f : Addr} {fd : FuncData} {k : Nat} (F : Fun K "_law_bag" "_law_bag" s_l_bag f fd) (m_list : mg "list" = none) : FnOk P w K mg base CX0 (k + 1) f fd ["_law_script"] (sp_bag K) := by
  refine F.ok sc_l_bag (fun vs H Q E h => ?_) (fun cdv A outer s H vs Q E hr h => ?_)
  · obtain ⟨a, ns, rfl, _⟩ := h
    rfl
  · obtain ⟨a, ns, rfl, hS, q⟩ := h
    obtain ⟨ms, em⟩ := cut_map ns none (some 63)
    refine ⟨_, (pss_one (ps_ret (pe_lst (pa_cons (pe_callTy call_list_of (by rfl) m_list (by decide +kernel) (pa_cons (pe_slice sl_list (pv 0) po_none (po_some pe_int)) pa_nil)) (pa_cons pe_int (pa_cons pe_int (pa_cons pe_int pa_nil))))))), ?_⟩
    refine ⟨.ref a, rfl, 63, rfl, a, _, rfl, hS, fun p np => ⟨p, _, rfl, .inl (SqL.of upd_same), fun l nl => ⟨(show 4 ≤ sizeLine by decide), fun B nB => ?_⟩⟩⟩
    have s1 := same_new (o := .lst (cutV (ns.map V.int) none (some 63))) np
    have s2 := same_new (o := .lst (cutV (ns.map V.int) none (some 63))) nl
    have s3 := same_new (o := .lst [.ref l, .int 0, .int 0, .int 5601]) nB
    have nlB : l ≠ B := ne_of_none upd_same nB
    refine q _ B l (s1.trans (s2.trans s3)) (s1.free (s2.free nB)) (s1.free nl) ⟨ms, 0, 0, 5601, upd_same, ?_, nlB, by decide, by decide, by decide, by decide⟩
    rw [upd_ne nlB, upd_same, em]
def sp_of (K : PySem.W.Frag) : Sp := fun vs H Q _ => ∃ (B L : Addr) (x : V), vs = [.ref B, x] ∧ Bag H B L ∧
  ((∃ z : Str, x = .str z ∧ 0 < z.cps.toList.length ∧ z.cps.toList.length < 1000 ∧ ∀ H' c, SameB B H H' → Bag H' B L → c ∈ z.cps.toList → Q (.str ⟨#[c]⟩) H') ∨
   ∃ (p : Addr) (xs : List V), x = .ref p ∧ p ≠ B ∧ SqL K H p xs ∧ 0 < xs.length ∧ xs.length < 1000 ∧ ∀ H' v, SameB B H H' → Bag H' B L → v ∈ xs → Q v H')
theorem at_some {α : Type} {xs : List α} {r : Int} (h0 : 0 ≤ r) (h1 : r < xs.length) : ∃ v, atI xs r = some v ∧ v ∈ xs := by
  obtain ⟨j, rfl⟩ : ∃ j : Nat, r = (j : Int) := ⟨r.toNat, by omega⟩
  have hj : j < xs.length := by omega
  exact ⟨xs[j], atI_nat (List.getElem?_eq_getElem hj), List.getElem_mem hj⟩
theorem ok_of {f f1 : Addr} {fd fd1 : FuncData} {k : Nat} (F : Fun K "_law_of" "_law_of" s_l_of f fd) (F_l_pull : Fun K "_law_pull" "_law_pull" s_l_pull f1 fd1) (b_l_pull : Binds K fd1 ["_law_bag_here", "_law_many"] []) (g_l_pull : mg "_law_pull" = some (.ref f1))
    (G_l_pull : FnOk P w K mg base CX0 1 f1 fd1 ["_law_bag_here", "_law_many"] sp_pull) (m_len : mg "len" = none) : FnOk P w K mg base CX0 (k + 2) f fd ["_law_bag_here", "_law_some"] (sp_of K) := by
  refine F.ok sc_l_of (fun vs H Q E h => ?_) (fun cdv A outer s H vs Q E hr h => ?_)
  · obtain ⟨B, L, x, rfl, _⟩ := h
    rfl
  · replace hr := hr.mono (show 1 ≤ k + 1 by omega)
    obtain ⟨B, L, x, rfl, hB, hx⟩ := h
    refine ⟨_, (pss_one (ps_ret (pe_ix ix_seq (pv 1) (pe_call G_l_pull (hr.mono (by decide)) (by rfl) g_l_pull F_l_pull.kp b_l_pull .nil pass0 (pa_cons (pv 0) (pa_cons (pe_callB call_len (by rfl) m_len PySem.boot_len (pa_cons (pv 1) pa_nil)) pa_nil))) (fun _ _ => rfl)))), ?_⟩
    rcases hx with ⟨z, rfl, l0, l1, q⟩ | ⟨p, xs, rfl, npB, hS, l0, l1, q⟩
    · have hl : z.length = z.cps.toList.length := by
        show z.cps.size = _
        rw [Array.length_toList]
      refine ⟨.str z, rfl, .ref B, rfl, .str z, rfl, .str z, z.length, rfl, ⟨?_, rfl⟩, B, L, z.length, rfl, hB, by omega, by omega, fun H' r sm hb r0 r1 => ?_⟩
      · exact Nat.le_of_lt (small1000 (by omega))
      · obtain ⟨c, e1, e2⟩ := at_some (xs := z.cps.toList) r0 (by omega)
        exact .inr (.inr ⟨z, r, c, rfl, rfl, Nat.le_of_lt (small1000 (by omega)), e1, q H' c sm hb e2⟩)
    · refine ⟨.ref p, rfl, .ref B, rfl, .ref p, rfl, .ref p, xs.length, rfl, .inl ⟨xs, hS, rfl⟩, B, L, xs.length, rfl, hB, by omega, by omega, fun H' r sm hb r0 r1 => ?_⟩
      obtain ⟨v, e1, e2⟩ := at_some r0 r1
      exact .inl ⟨p, xs, r, v, rfl, rfl, SqL.ofB sm npB hS, e1, q H' v sm hb e2⟩
end
end Rg

set_option Elab.async false
set_option linter.all false
set_option maxRecDepth 100000
set_option maxHeartbeats 4500000
namespace Rg
open PySem PySem.Spec PyProof.Rows L2
abbrev s_l_same : Stmt := topS 11
theorem sc_l_same : FnScope ["_law_found", "_law_due", "_law_one", "_law_other"] ["_law_found", "_law_due"] (defScope s_l_same) := ⟨rfl, rfl, rfl, by decide +kernel, rfl, by decide +kernel, by decide +kernel⟩

theorem iteN {c A B : Prop} [Decidable c] (h : ¬ c) (b : B) : if decide c = true then A else B := by
  rw [decide_eq_false h]
  exact iteF b
theorem iteY {c A B : Prop} [Decidable c] (h : c) (a : A) : if decide c = true then A else B := by
  rw [decide_eq_true h]
  exact iteT a
theorem iteNN {c A B : Prop} [Decidable c] (h : c) (b : B) : if (!decide c) = true then A else B := by
  rw [decide_eq_true h]
  exact iteF b
theorem yes {σ : L2.St} {H : Hp} {A : Bool → Hp → Prop} {B : Bool → Hp → Prop} (h : A true H) : tYes σ H (fun b H => if b = true then A b H else B b H) := by
  show if true = true then A true H else B true H
  exact iteT h
mutual
theorem Dp.same {K : PySem.W.Frag} {H H' : Hp} (e : Same H H') : ∀ (d : PyData) (v : V), Dp K H v d → Dp K H' v d
  | .none, _, h => by cases h; exact .non
  | .bool _, _, h => by cases h; exact .bl _
  | .int _, _, h => by cases h; exact .int _
  | .str _, _, h => by cases h; exact .str _
  | .list ds, _, h => by
    cases h with
    | lst q r => exact .lst (e.seq q) (DpAll.same e ds _ r)
  | .tuple ds, _, h => by
    cases h with
    | tup q r => exact .tup (SqT.ofS e q) (DpAll.same e ds _ r)
  | .dict _, _, h => by cases h
theorem DpAll.same {K : PySem.W.Frag} {H H' : Hp} (e : Same H H') : ∀ (ds : List PyData) (vs : List V), DpAll K H vs ds → DpAll K H' vs ds
  | [], _, h => by cases h; exact .nil
  | d :: ds, _, h => by
    cases h with
    | cons q r => exact .cons (Dp.same e d _ q) (DpAll.same e ds _ r)
end
theorem dpAll_len {K : PySem.W.Frag} {H : Hp} : ∀ {vs : List V} {ds : List PyData}, DpAll K H vs ds → vs.length = ds.length
  | _, _, .nil => rfl
  | _, _, .cons _ r => congrArg (· + 1) (dpAll_len r)
theorem dpAll_at {K : PySem.W.Frag} {H : Hp} : ∀ {vs : List V} {ds : List PyData} {i : Nat} {v : V}, DpAll K H vs ds → vs[i]? = some v → ∃ d, ds[i]? = some d ∧ Dp K H v d
  | _, _, _, _, .nil, h => by simp at h
  | _, _, 0, _, .cons q _, h => by
    cases h
    exact ⟨_, rfl, q⟩
  | _, _, i + 1, _, .cons _ r, h => dpAll_at (i := i) r h
/-- data of at most k levels -/
def DK : Nat → PyData → Prop
  | 0, _ => False
  | k + 1, .list ds => ds.length ≤ 1000 ∧ ∀ d ∈ ds, DK k d
  | k + 1, .tuple ds => ds.length ≤ 1000 ∧ ∀ d ∈ ds, DK k d
  | _ + 1, .dict _ => False
  | _ + 1, _ => True
theorem tyL {K : PySem.W.Frag} {H : Hp} {a : Addr} {xs : List V} (h : SqL K H a xs) : TyX K H (.ref a) (.type "list") := by
  rcases h with (h | ⟨o, h⟩) | ⟨o, _, _, h, c, _⟩
  · exact .base (.lst h)
  · exact .base (.frz h)
  · exact .kList h c
theorem tyT {K : PySem.W.Frag} {H : Hp} {a : Addr} {xs : List V} (h : SqT K H a xs) : TyX K H (.ref a) (.type "tuple") := by
  rcases h with (h | ⟨o, h⟩) | ⟨o, _, _, h, c, _⟩
  · exact .base (.tup h)
  · exact .fTuple h
  · exact .kTuple h c
def walk_zipTup {K : PySem.W.Frag} {a b : Addr} {xs ys : List V} {n : Nat} (hn : n = min xs.length ys.length) : Walk (RZ.ItzT K a b) n (fun H => SqT K H a xs ∧ SqT K H b ys) (YPair (fun i => xs[i]?) (fun i => ys[i]?)) := by
  subst hn
  constructor
  · intro i H hi q
    have h1 : i < xs.length := by omega
    have g2 : i < ys.length := by omega
    exact ⟨xs, ys, xs[i], ys[i], q.1, q.2, List.getElem?_eq_getElem h1, List.getElem?_eq_getElem g2⟩
  · intro H q
    exact ⟨xs, ys, q.1, q.2, by omega⟩
  · intro i H v H' _ q y
    obtain ⟨tp, one, two, r1, r2, r3, r4, r5⟩ := y
    exact ⟨tp, one, two, r1, r2, r3, r4 xs q.1, r5 ys q.2⟩
theorem kLT_list {K : PySem.W.Frag} : PySem.W.kitAny K (.type "list") [.type "list", .type "tuple"] = some true := kitAny_cons (b := true) (kit_ty (by decide +kernel)) (fun z => nomatch z) fun _ => rfl
theorem kLT_tup {K : PySem.W.Frag} : PySem.W.kitAny K (.type "tuple") [.type "list", .type "tuple"] = some true := kitAny_cons (b := false) (kit_ty (by decide +kernel)) (fun _ => kitAny_cons (b := true) (kit_ty (by decide +kernel)) (fun z => nomatch z) fun _ => rfl) (fun z => nomatch z)
theorem kLT_int {K : PySem.W.Frag} : PySem.W.kitAny K (.type "int") [.type "list", .type "tuple"] = some false := kitAny_cons (b := false) (kit_ty (by decide +kernel)) (fun _ => kitAny_cons (b := false) (kit_ty (by decide +kernel)) (fun _ => kitAny_nil) (fun z => nomatch z)) (fun z => nomatch z)
theorem kLT_str {K : PySem.W.Frag} : PySem.W.kitAny K (.type "str") [.type "list", .type "tuple"] = some false := kitAny_cons (b := false) (kit_ty (by decide +kernel)) (fun _ => kitAny_cons (b := false) (kit_ty (by decide +kernel)) (fun _ => kitAny_nil) (fun z => nomatch z)) (fun z => nomatch z)
section
variable {P : Program} {w : World} {K : PySem.W.Frag} {mg : Str → Option Value} {base : Heap}
def sp_same (K : PySem.W.Frag) (k : Nat) : Sp := fun vs H Q _ => ∃ (x y : V) (d : PyData), vs = [x, y] ∧ DK k d ∧ Dp K H x d ∧ Dp K H y d ∧ ∀ H', Same H H' → Q (.bl true) H'
theorem ok_same {f : Addr} {fd : FuncData} (F_l_same : Fun K "_law_same" "_law_same" s_l_same f fd) (b_l_same : Binds K fd ["_law_found", "_law_due"] []) (g_l_same : mg "_law_same" = some (.ref f))
    (m_isinstance : mg "isinstance" = none) (m_bool : mg "bool" = none) (m_list : mg "list" = none) (m_tuple : mg "tuple" = none) (m_int : mg "int" = none) (m_str : mg "str" = none) (m_len : mg "len" = none) (m_all : mg "all" = none) (m_zip : mg "zip" = none) :
    ∀ k, FnOk P w K mg base CX0 k f fd ["_law_found", "_law_due"] (sp_same K k)
  | 0 => ⟨fun vs H Q E h => by obtain ⟨x, y, d, _, hd, _⟩ := h; exact hd.elim, fun A outer s H args us vs Q E _ _ _ _ h => by obtain ⟨x, y, d, _, hd, _⟩ := h; exact hd.elim⟩
  | k + 1 => by
    have G_l_same := ok_same F_l_same b_l_same g_l_same m_isinstance m_bool m_list m_tuple m_int m_str m_len m_all m_zip k
    refine F_l_same.ok sc_l_same (fun vs H Q E h => ?_) (fun cdv A outer s H vs Q E hr h => ?_)
    · obtain ⟨x, y, d, rfl, _⟩ := h
      rfl
    obtain ⟨x, y, d, rfl, hd, hx, hy, q⟩ := h
    refine ⟨_, (pss_cons (ps_if (PW.pt (pw_or (pt_cmpR op_isN (pv 1) pe_non (nomark _)) (pw_or1 (pt_cmpR op_isN (pv 0) pe_non (nomark _))))) (pss_one (ps_ret (pe_and (pe_cmpR op_isN (pv 1) pe_non (nomark _)) (pe_one (pe_cmpR op_isN (pv 0) pe_non (nomark _)))))) pss_nil) (pss_cons (ps_if (PW.pt (pw_or (pt_val (pe_callB call_isi (by rfl) m_isinstance (by decide +kernel) (pa_cons (pv 1) (pa_cons (pe_bltn (v := .ty "bool") (by rfl) m_bool (by decide +kernel) rfl) pa_nil)))) (pw_or1 (pt_val (pe_callB call_isi (by rfl) m_isinstance (by decide +kernel) (pa_cons (pv 0) (pa_cons (pe_bltn (v := .ty "bool") (by rfl) m_bool (by decide +kernel) rfl) pa_nil))))))) (pss_one (ps_ret (pe_and (pe_callB call_isi (by rfl) m_isinstance (by decide +kernel) (pa_cons (pv 1) (pa_cons (pe_bltn (v := .ty "bool") (by rfl) m_bool (by decide +kernel) rfl) pa_nil))) (pe_and (pe_callB call_isi (by rfl) m_isinstance (by decide +kernel) (pa_cons (pv 0) (pa_cons (pe_bltn (v := .ty "bool") (by rfl) m_bool (by decide +kernel) rfl) pa_nil))) (pe_one (pe_cmpR op_eq (pv 0) (pv 1) (nomark _))))))) pss_nil) (pss_cons (ps_if (PW.pt (pw_or (pt_val (pe_callB call_isiT (by rfl) m_isinstance (by decide +kernel) (pa_cons (pv 1) (pa_cons (pe_tup (pa_cons (pe_bltn (v := .ty "list") (by rfl) m_list (by decide +kernel) rfl) (pa_cons (pe_bltn (v := .ty "tuple") (by rfl) m_tuple (by decide +kernel) rfl) pa_nil))) pa_nil)))) (pw_or1 (pt_val (pe_callB call_isiT (by rfl) m_isinstance (by decide +kernel) (pa_cons (pv 0) (pa_cons (pe_tup (pa_cons (pe_bltn (v := .ty "list") (by rfl) m_list (by decide +kernel) rfl) (pa_cons (pe_bltn (v := .ty "tuple") (by rfl) m_tuple (by decide +kernel) rfl) pa_nil))) pa_nil))))))) (pss_cons (ps_if (pt_cmpR op_ne (pe_callB call_isi (by rfl) m_isinstance (by decide +kernel) (pa_cons (pv 1) (pa_cons (pe_bltn (v := .ty "list") (by rfl) m_list (by decide +kernel) rfl) pa_nil))) (pe_callB call_isi (by rfl) m_isinstance (by decide +kernel) (pa_cons (pv 0) (pa_cons (pe_bltn (v := .ty "list") (by rfl) m_list (by decide +kernel) rfl) pa_nil))) (nomark _)) (pss_one (ps_ret pe_bl)) pss_nil) (pss_cons (ps_if (PW.pt (pw_or (pt_cmpR op_ne (pe_callB call_isi (by rfl) m_isinstance (by decide +kernel) (pa_cons (pv 1) (pa_cons (pe_bltn (v := .ty "tuple") (by rfl) m_tuple (by decide +kernel) rfl) pa_nil))) (pe_callB call_isi (by rfl) m_isinstance (by decide +kernel) (pa_cons (pv 0) (pa_cons (pe_bltn (v := .ty "tuple") (by rfl) m_tuple (by decide +kernel) rfl) pa_nil))) (nomark _)) (pw_or1 (pt_cmpR op_ne (pe_callB call_len (by rfl) m_len PySem.boot_len (pa_cons (pv 0) pa_nil)) (pe_callB call_len (by rfl) m_len PySem.boot_len (pa_cons (pv 1) pa_nil)) (nomark _))))) (pss_one (ps_ret pe_bl)) pss_nil) (pss_one (ps_ret (pe_callB (cr_all rfl) (by rfl) m_all (by decide +kernel) (pa_cons (pe_lc (own := [("_law_one", 2), ("_law_other", 3)]) (g := gTup K 2 (gCons (gName 2) (gCons (gName 3) gNil))) (tt := tYes) rfl sc_l_same.nd (RZ.pi_zipA (by rfl) m_zip (pa_cons (pv 0) (pa_cons (pv 1) pa_nil))) (blkOk_by (own := [("_law_one", 2), ("_law_other", 3)]) (N := ["_law_found", "_law_due", "_law_one", "_law_other"]) (sc := defScope s_l_same) (by decide +kernel)) (fun _ _ _ _ _ => (pg_tup rfl (pgs_cons (pg_name (i := 2) sc_l_same.nd rfl (Or.inl rfl)) (pgs_cons (pg_name (i := 3) sc_l_same.nd rfl (Or.inl rfl)) pgs_nil)))) (fun _ _ _ _ _ => pts_nil) (fun _ _ _ _ _ => (pe_call G_l_same hr (by rfl) g_l_same F_l_same.kp b_l_same .nil pass0 (pa_cons (pv 2) (pa_cons (pv 3) pa_nil))))) pa_nil)))))) pss_nil) (pss_cons (ps_if (PW.pt (pw_or (pt_cmpR op_ne (pe_callB call_isi (by rfl) m_isinstance (by decide +kernel) (pa_cons (pv 1) (pa_cons (pe_bltn (v := .ty "int") (by rfl) m_int (by decide +kernel) rfl) pa_nil))) (pe_callB call_isi (by rfl) m_isinstance (by decide +kernel) (pa_cons (pv 0) (pa_cons (pe_bltn (v := .ty "int") (by rfl) m_int (by decide +kernel) rfl) pa_nil))) (nomark _)) (pw_or1 (pt_cmpR op_ne (pe_callB call_isi (by rfl) m_isinstance (by decide +kernel) (pa_cons (pv 1) (pa_cons (pe_bltn (v := .ty "str") (by rfl) m_str (by decide +kernel) rfl) pa_nil))) (pe_callB call_isi (by rfl) m_isinstance (by decide +kernel) (pa_cons (pv 0) (pa_cons (pe_bltn (v := .ty "str") (by rfl) m_str (by decide +kernel) rfl) pa_nil))) (nomark _))))) (pss_one (ps_ret pe_bl)) pss_nil) (pss_one (ps_ret (pe_cmpR op_eq (pv 0) (pv 1) (nomark _)))))))), ?_⟩
    cases hx with
    | non =>
      cases hy
      refine ⟨.non, rfl, rfl, _, rfl, iteY rfl ⟨.non, rfl, rfl, _, rfl, iteY rfl ⟨.non, rfl, rfl, ?_⟩⟩⟩
      exact q _ (Same.refl _)
    | bl b =>
      cases hy
      refine ⟨.bl b, rfl, rfl, _, rfl, iteN (fun z => nomatch z) ⟨.bl b, rfl, rfl, _, rfl, iteN (fun z => nomatch z) ?_⟩⟩
      refine ⟨.bl b, rfl, .bl b, .ty "bool", _, _, true, rfl, .ty _, .base (.bl b), kit_ty (by decide +kernel), true, rfl, iteT ?_⟩
      refine ⟨.bl b, rfl, .bl b, .ty "bool", _, _, true, rfl, .ty _, .base (.bl b), kit_ty (by decide +kernel), true, rfl, iteT ?_⟩
      refine ⟨.bl b, rfl, .bl b, .ty "bool", _, _, true, rfl, .ty _, .base (.bl b), kit_ty (by decide +kernel), true, rfl, iteT ?_⟩
      refine ⟨.bl b, rfl, .bl b, rfl, rfl, ?_⟩
      rw [decide_eq_true rfl]
      exact q _ (Same.refl _)
    | int i =>
      cases hy
      refine ⟨.int i, rfl, rfl, _, rfl, iteN (fun z => nomatch z) ⟨.int i, rfl, rfl, _, rfl, iteN (fun z => nomatch z) ?_⟩⟩
      refine ⟨.int i, rfl, .int i, .ty "bool", _, _, false, rfl, .ty _, .base (.int i), kit_ty (by decide +kernel), false, rfl, iteF ?_⟩
      refine ⟨.int i, rfl, .int i, .ty "bool", _, _, false, rfl, .ty _, .base (.int i), kit_ty (by decide +kernel), false, rfl, iteF ?_⟩
      refine ⟨.int i, rfl, (show 2 ≤ sizeLine by decide), fun p np => ⟨.int i, p, _, _, _, false, rfl, upd_same, .cons (.ty _) (.cons (.ty _) .nil), .base (.int i), kLT_int, false, rfl, iteF ?_⟩⟩
      refine ⟨.int i, rfl, (show 2 ≤ sizeLine by decide), fun p2 np2 => ⟨.int i, p2, _, _, _, false, rfl, upd_same, .cons (.ty _) (.cons (.ty _) .nil), .base (.int i), kLT_int, false, rfl, iteF ?_⟩⟩
      refine ⟨.int i, rfl, .int i, .ty "int", _, _, true, rfl, .ty _, .base (.int i), kit_ty (by decide +kernel), .int i, rfl, .int i, .ty "int", _, _, true, rfl, .ty _, .base (.int i), kit_ty (by decide +kernel), rfl, _, rfl, iteNN rfl ?_⟩
      refine ⟨.int i, rfl, .int i, .ty "str", _, _, false, rfl, .ty _, .base (.int i), kit_ty (by decide +kernel), .int i, rfl, .int i, .ty "str", _, _, false, rfl, .ty _, .base (.int i), kit_ty (by decide +kernel), rfl, _, rfl, iteNN rfl ?_⟩
      refine ⟨.int i, rfl, .int i, rfl, rfl, ?_⟩
      rw [decide_eq_true rfl]
      exact q _ ((same_new np).trans (same_new np2))
    | str z =>
      cases hy
      refine ⟨.str z, rfl, rfl, _, rfl, iteN (fun z => nomatch z) ⟨.str z, rfl, rfl, _, rfl, iteN (fun z => nomatch z) ?_⟩⟩
      refine ⟨.str z, rfl, .str z, .ty "bool", _, _, false, rfl, .ty _, .base (.str z), kit_ty (by decide +kernel), false, rfl, iteF ?_⟩
      refine ⟨.str z, rfl, .str z, .ty "bool", _, _, false, rfl, .ty _, .base (.str z), kit_ty (by decide +kernel), false, rfl, iteF ?_⟩
      refine ⟨.str z, rfl, (show 2 ≤ sizeLine by decide), fun p np => ⟨.str z, p, _, _, _, false, rfl, upd_same, .cons (.ty _) (.cons (.ty _) .nil), .base (.str z), kLT_str, false, rfl, iteF ?_⟩⟩
      refine ⟨.str z, rfl, (show 2 ≤ sizeLine by decide), fun p2 np2 => ⟨.str z, p2, _, _, _, false, rfl, upd_same, .cons (.ty _) (.cons (.ty _) .nil), .base (.str z), kLT_str, false, rfl, iteF ?_⟩⟩
      refine ⟨.str z, rfl, .str z, .ty "int", _, _, false, rfl, .ty _, .base (.str z), kit_ty (by decide +kernel), .str z, rfl, .str z, .ty "int", _, _, false, rfl, .ty _, .base (.str z), kit_ty (by decide +kernel), rfl, _, rfl, iteNN rfl ?_⟩
      refine ⟨.str z, rfl, .str z, .ty "str", _, _, true, rfl, .ty _, .base (.str z), kit_ty (by decide +kernel), .str z, rfl, .str z, .ty "str", _, _, true, rfl, .ty _, .base (.str z), kit_ty (by decide +kernel), rfl, _, rfl, iteNN rfl ?_⟩
      refine ⟨.str z, rfl, .str z, rfl, rfl, ?_⟩
      rw [decide_eq_true rfl]
      exact q _ ((same_new np).trans (same_new np2))
    | @lst a xs ds hS hA =>
      cases hy with
      | @lst a2 xs2 _ hS2 hA2 =>
      refine ⟨.ref a2, rfl, rfl, _, rfl, iteN (fun z => nomatch z) ⟨.ref a, rfl, rfl, _, rfl, iteN (fun z => nomatch z) ?_⟩⟩
      refine ⟨.ref a2, rfl, .ref a2, .ty "bool", _, _, false, rfl, .ty _, tyL hS2, kit_ty (by decide +kernel), false, rfl, iteF ?_⟩
      refine ⟨.ref a, rfl, .ref a, .ty "bool", _, _, false, rfl, .ty _, tyL hS, kit_ty (by decide +kernel), false, rfl, iteF ?_⟩
      refine ⟨.ref a2, rfl, (show 2 ≤ sizeLine by decide), fun p np => ?_⟩
      have s1 := same_new (o := .tup [.ty "list", .ty "tuple"]) np
      have u2 := (s1).seq hS2
      have u1 := (s1).seq hS
      have e1 : xs.length = ds.length := dpAll_len hA
      have e2 : xs2.length = ds.length := dpAll_len hA2
      refine ⟨.ref a2, p, _, _, _, true, rfl, upd_same, .cons (.ty _) (.cons (.ty _) .nil), tyL u2, kLT_list, true, rfl, iteT ?_⟩
      refine ⟨.ref a2, rfl, .ref a2, .ty "list", _, _, true, rfl, .ty _, tyL u2, kit_ty (by decide +kernel), .ref a, rfl, .ref a, .ty "list", _, _, true, rfl, .ty _, tyL u1, kit_ty (by decide +kernel), rfl, _, rfl, iteNN rfl ?_⟩
      refine ⟨.ref a2, rfl, .ref a2, .ty "tuple", _, _, false, rfl, .ty _, tyL u2, kit_ty (by decide +kernel), .ref a, rfl, .ref a, .ty "tuple", _, _, false, rfl, .ty _, tyL u1, kit_ty (by decide +kernel), rfl, _, rfl, iteNN rfl ?_⟩
      refine ⟨.ref a, rfl, .ref a, xs.length, rfl, .inl ⟨xs, u1, rfl⟩, .ref a2, rfl, .ref a2, xs2.length, rfl, .inl ⟨xs2, u2, rfl⟩, rfl, _, rfl, iteNN (by rw [e1, e2]) ?_⟩
      refine ⟨.ref a, rfl, .ref a2, rfl, a, a2, xs, xs2, rfl, .inl ⟨u1, u2, fun D nD => lc_it (walk_zip (n := ds.length) (by rw [e1, e2, Nat.min_self])) (fun i H' => Same (upd H p (.tup [.ty "list", .ty "tuple"])) H' ∧ H' D = some (.lst (List.replicate i (.bl true)))) ⟨same_new nD, upd_same⟩ (fun i H' _ h => ⟨(h.1).seq u1, (h.1).seq u2⟩) (fun i v H1 H2 hi h y => ?_) (fun H' h => ?_)⟩⟩
      · obtain ⟨sm, eD⟩ := h
        obtain ⟨T, x1, x2, rfl, nT, rfl, f1, f2⟩ := y
        refine ⟨T, [x1, x2], rfl, SqT.of upd_same, rfl, x1, [x2], rfl, x2, [], rfl, rfl, rfl, yes ?_⟩
        obtain ⟨d1, g1, k1⟩ := dpAll_at hA f1
        obtain ⟨d2, g2, k2⟩ := dpAll_at hA2 f2
        have ed : d1 = d2 := Option.some.inj (g1.symm.trans g2)
        subst ed
        have sT := same_new (o := .tup [x1, x2]) nT
        have sA := s1.trans (sm.trans sT)
        refine ⟨x1, rfl, x2, rfl, x1, x2, d1, rfl, hd.2 d1 (List.mem_of_getElem? g1), Dp.same sA d1 x1 k1, Dp.same sA d1 x2 k2, fun H3 s3 => ⟨_, s3 _ _ (sT _ _ eD), ?_, ?_, ?_⟩⟩
        · rw [List.length_replicate]
          exact small1000 (Nat.le_trans (Nat.le_of_lt hi) hd.1)
        · intro b o e
          have nb : b ≠ D := ne_of_none e nD
          rw [upd_ne nb]
          exact s3 _ _ (sT _ _ (sm _ _ e))
        · rw [upd_same, List.replicate_succ']
      · obtain ⟨sm, eD⟩ := h
        refine ⟨D, List.replicate ds.length true, rfl, .inl (.inl ?_), ?_⟩
        · rw [eD, List.map_replicate]
        · rw [show (List.replicate ds.length true).all id = true by simp]
          exact q _ (s1.trans sm)
    | @tup a xs ds hS hA =>
      cases hy with
      | @tup a2 xs2 _ hS2 hA2 =>
      refine ⟨.ref a2, rfl, rfl, _, rfl, iteN (fun z => nomatch z) ⟨.ref a, rfl, rfl, _, rfl, iteN (fun z => nomatch z) ?_⟩⟩
      refine ⟨.ref a2, rfl, .ref a2, .ty "bool", _, _, false, rfl, .ty _, tyT hS2, kit_ty (by decide +kernel), false, rfl, iteF ?_⟩
      refine ⟨.ref a, rfl, .ref a, .ty "bool", _, _, false, rfl, .ty _, tyT hS, kit_ty (by decide +kernel), false, rfl, iteF ?_⟩
      refine ⟨.ref a2, rfl, (show 2 ≤ sizeLine by decide), fun p np => ?_⟩
      have s1 := same_new (o := .tup [.ty "list", .ty "tuple"]) np
      have u2 := SqT.ofS (s1) hS2
      have u1 := SqT.ofS (s1) hS
      have e1 : xs.length = ds.length := dpAll_len hA
      have e2 : xs2.length = ds.length := dpAll_len hA2
      refine ⟨.ref a2, p, _, _, _, true, rfl, upd_same, .cons (.ty _) (.cons (.ty _) .nil), tyT u2, kLT_tup, true, rfl, iteT ?_⟩
      refine ⟨.ref a2, rfl, .ref a2, .ty "list", _, _, false, rfl, .ty _, tyT u2, kit_ty (by decide +kernel), .ref a, rfl, .ref a, .ty "list", _, _, false, rfl, .ty _, tyT u1, kit_ty (by decide +kernel), rfl, _, rfl, iteNN rfl ?_⟩
      refine ⟨.ref a2, rfl, .ref a2, .ty "tuple", _, _, true, rfl, .ty _, tyT u2, kit_ty (by decide +kernel), .ref a, rfl, .ref a, .ty "tuple", _, _, true, rfl, .ty _, tyT u1, kit_ty (by decide +kernel), rfl, _, rfl, iteNN rfl ?_⟩
      refine ⟨.ref a, rfl, .ref a, xs.length, rfl, .inr ⟨xs, u1, rfl⟩, .ref a2, rfl, .ref a2, xs2.length, rfl, .inr ⟨xs2, u2, rfl⟩, rfl, _, rfl, iteNN (by rw [e1, e2]) ?_⟩
      refine ⟨.ref a, rfl, .ref a2, rfl, a, a2, xs, xs2, rfl, .inr ⟨u1, u2, fun D nD => lc_it (walk_zipTup (n := ds.length) (by rw [e1, e2, Nat.min_self])) (fun i H' => Same (upd H p (.tup [.ty "list", .ty "tuple"])) H' ∧ H' D = some (.lst (List.replicate i (.bl true)))) ⟨same_new nD, upd_same⟩ (fun i H' _ h => ⟨SqT.ofS (h.1) u1, SqT.ofS (h.1) u2⟩) (fun i v H1 H2 hi h y => ?_) (fun H' h => ?_)⟩⟩
      · obtain ⟨sm, eD⟩ := h
        obtain ⟨T, x1, x2, rfl, nT, rfl, f1, f2⟩ := y
        refine ⟨T, [x1, x2], rfl, SqT.of upd_same, rfl, x1, [x2], rfl, x2, [], rfl, rfl, rfl, yes ?_⟩
        obtain ⟨d1, g1, k1⟩ := dpAll_at hA f1
        obtain ⟨d2, g2, k2⟩ := dpAll_at hA2 f2
        have ed : d1 = d2 := Option.some.inj (g1.symm.trans g2)
        subst ed
        have sT := same_new (o := .tup [x1, x2]) nT
        have sA := s1.trans (sm.trans sT)
        refine ⟨x1, rfl, x2, rfl, x1, x2, d1, rfl, hd.2 d1 (List.mem_of_getElem? g1), Dp.same sA d1 x1 k1, Dp.same sA d1 x2 k2, fun H3 s3 => ⟨_, s3 _ _ (sT _ _ eD), ?_, ?_, ?_⟩⟩
        · rw [List.length_replicate]
          exact small1000 (Nat.le_trans (Nat.le_of_lt hi) hd.1)
        · intro b o e
          have nb : b ≠ D := ne_of_none e nD
          rw [upd_ne nb]
          exact s3 _ _ (sT _ _ (sm _ _ e))
        · rw [upd_same, List.replicate_succ']
      · obtain ⟨sm, eD⟩ := h
        refine ⟨D, List.replicate ds.length true, rfl, .inl (.inl ?_), ?_⟩
        · rw [eD, List.map_replicate]
        · rw [show (List.replicate ds.length true).all id = true by simp]
          exact q _ (s1.trans sm)
end
end Rg

set_option Elab.async false
set_option linter.all false
set_option maxRecDepth 100000
set_option maxHeartbeats 4500000
/-! rules of my own: zip of two texts, a call by keywords alone, a text turned round -/
namespace Rg
open PySem PySem.Spec PyProof.Rows L2
def ItzS (x y : Str) : It :=
  ⟨fun i _ => i < min x.cps.size y.cps.size,
   fun i H v H' => ∃ T c d, v = .ref T ∧ H T = none ∧ H' = upd H T (.tup [.str ⟨#[c]⟩, .str ⟨#[d]⟩]) ∧ x.cps[i]? = some c ∧ y.cps[i]? = some d,
   fun i _ => min x.cps.size y.cps.size ≤ i⟩
def ZipSt (z TI TO i1 i2 : Addr) (x y : Str) (t u : Tok) (i : Nat) (h : Heap) : Prop :=
  i ≤ min x.cps.size y.cps.size ∧ IsZip h z TI TO .none ∧ IsTupOf2 h TI (.ref i1) (.ref i2) ∧ (∃ a1 a2, IsTupOf2 h TO a1 a2) ∧ h.IsStrIter i1 (strIterType x) x t i ∧ h.IsStrIter i2 (strIterType y) y u i
theorem zs_old {z TI TO i1 i2 : Addr} {x y : Str} {t u : Tok} {i : Nat} {h : Heap} (st : ZipSt z TI TO i1 i2 x y t u i h) {b : Addr} (hb : b ∈ z :: TI :: TO :: ([i1] ++ [i2])) :
    ∃ o, h.get? b = some o ∧ ∀ v, o.data ≠ .cell v := by
  obtain ⟨_, hz, hTI, ⟨a1, a2, hTO⟩, ⟨o1, e1, _, d1⟩, ⟨o2, e2, _, d2⟩⟩ := st
  have hb' : b = z ∨ b = TI ∨ b = TO ∨ b = i1 ∨ b = i2 := by simpa using hb
  obtain rfl | rfl | rfl | rfl | rfl := hb'
  · exact ⟨_, hz, fun v q => nomatch q⟩
  · exact ⟨_, hTI, fun v q => nomatch q⟩
  · exact ⟨_, hTO, fun v q => nomatch q⟩
  · exact ⟨o1, e1, fun v q => by rw [d1] at q; cases q⟩
  · exact ⟨o2, e2, fun v q => by rw [d2] at q; cases q⟩
theorem turn_zipS {P : Program} {w : World} {K : PySem.W.Frag} {elts : List Expr} {kk : Nat} {tpos : Pos} {z TI TO i1 i2 : Addr} (x y : Str) (t u : Tok) (S : ZipSep2 z TI TO i1 i2 [i1] [i2]) :
    Turn P w K (.Tuple elts kk tpos) (ItzS x y) (z :: TI :: TO :: ([i1] ++ [i2])) z (ZipSt z TI TO i1 i2 x y t u) := by
  refine ⟨List.mem_cons_self, fun i h st b hb => zs_old st hb, ?_, ?_, ?_, ?_⟩
  · intro i h h' st k
    obtain ⟨hi, hz, hTI, ⟨a1, a2, hTO⟩, ⟨o1, e1, r1⟩, ⟨o2, e2, r2⟩⟩ := st
    exact ⟨hi, k z (by simp) _ hz, k TI (by simp) _ hTI, ⟨a1, a2, k TO (by simp) _ hTO⟩, ⟨o1, k i1 (by simp) _ e1, r1⟩, ⟨o2, k i2 (by simp) _ e2, r2⟩⟩
  · intro X hP hw hK hc i pins s σ H E I hf st hg
    subst hP hw hK
    have hh : X.A.in1.handled = none := I.ok.hd hc
    have W := GoesN.zip2 (elts := elts) (x1 := kk) (pos := tpos) S (Draws.text (prog := X.prog) (w := X.w) (A := X.A.in1) hh i1 x t) (Draws.text hh i2 y u)
    refine W.goes i s _ E hg st.2 fun v h' tk hY st' keep htk => ?_
    obtain ⟨T, vx, vy, rfl, hT, ⟨c, tc, hcx, rfl⟩, ⟨d, td, hdy, rfl⟩, hTup⟩ := hY
    have new : ObjOk X.prog X.w (upd H T (.tup [.str ⟨#[c]⟩, .str ⟨#[d]⟩])) h' T (.tup [.str ⟨#[c]⟩, .str ⟨#[d]⟩]) :=
      ⟨(show 2 ≤ sizeLine by decide), [.str ⟨#[c]⟩ tc, .str ⟨#[d]⟩ td], .cons ⟨tc, rfl⟩ (.cons ⟨td, rfl⟩ .nil), hTup⟩
    have sub : ∀ b, b ∈ [z, TO, i1, i2] → b ∈ z :: TI :: TO :: ([i1] ++ [i2]) := by
      intro b hb
      simp at hb ⊢
      rcases hb with e | e | e | e <;> simp [e]
    have I1 := I.turnedNew (t' := tk) (ch := [z, TO, i1, i2]) keep (fun b hb => hf b (sub b hb)) hT new
    refine ⟨.ref T, _, I1, rfl, ⟨T, c, d, rfl, I.hok.fresh hT, rfl, hcx, hdy⟩, ⟨hg, st'⟩, fun b hb => ?_⟩
    obtain ⟨o, ho, _⟩ := zs_old st hb
    rw [upd_ne (Nat.ne_of_lt (Nat.lt_of_lt_of_le (Heap.lt_size ho) hT))]
    exact (hf b hb).1
  · intro X hP hw hK hc i pins s σ H E I hf st hg
    subst hP hw hK
    have hh : X.A.in1.handled = none := I.ok.hd hc
    have W := GoesN.zip2 (elts := elts) (x1 := kk) (pos := tpos) S (Draws.text (prog := X.prog) (w := X.w) (A := X.A.in1) hh i1 x t) (Draws.text hh i2 y u)
    have ei : i = min x.cps.size y.cps.size := Nat.le_antisymm st.1 hg
    subst ei
    have sub : ∀ b, b ∈ [z, TO, i1, i2] → b ∈ z :: TI :: TO :: ([i1] ++ [i2]) := by
      intro b hb
      simp at hb ⊢
      rcases hb with e | e | e | e <;> simp [e]
    exact W.stops s _ E st.2 fun h' tk keep htk => I.turnedL (t' := tk) (ch := [z, TO, i1, i2]) keep (fun b hb => hf b (sub b hb))
  · intro A i s Q E st h
    exact wpAny_pyIter_zip st.2.1 h
def iZipS (ta : TA) : TI := fun σ H R => ta σ H fun vs H1 => ∃ x y, vs = [.str x, .str y] ∧ R (ItzS x y) H1
theorem pi_zipS {X : Cx} {e e2 : Expr} {ta : TA} {p pos tpos : Pos} {elts : List Expr} {kk : Nat} (hg : Gl X "zip") (hm : X.mg "zip" = none) (ha : PA X [e, e2] ta)
    (two : starEach [e, e2] X.env = (false, eval e X.env) :: starEach [e2] X.env := by rfl)
    (bare : (backTo pos (starEach [e2] X.env)).any (fun a => a.1) = false := by rfl) :
    PI X (.Tuple elts kk tpos) (.Call (.Name "zip" p) [e, e2] [] pos) (iZipS ta) := by
  refine ⟨fun pins s σ H R I h => Call_ (ld_blt I hg hm PyProof.Rows.boot_zip (PyProof.Rows.callWith_type1 (thn (ha.run pos pins s σ H _ I h) ?_) two bare))⟩
  intro us s1 h1
  obtain ⟨vs, H1, I1, r1, x, y, rfl, q⟩ := h1
  cases r1 with
  | cons ra rr =>
    cases rr with
    | cons rb rr =>
      cases rr
      obtain ⟨t, rfl⟩ := ra
      obtain ⟨u, rfl⟩ := rb
      refine zip_begins2 (begins_text x t) (begins_text y u) trivial trivial ?_
      intro h' hz hTI hTO g1 g2 hsz hk
      refine wpAny_pyIter_zip hz ?_
      have J : Inv X pins σ H1 { s1 with heap := h' } := I1.kept (t' := _) hk
      have S := zip_sep2 (N := s1.heap.objs.size) (fp1 := []) (fp2 := []) (fun _ z => nomatch z) (fun _ z => nomatch z)
      refine ⟨_, _, _, ItzS x y, H1, rfl, J, turn_zipS x y t u S, ⟨Nat.zero_le _, hz, hTI, ⟨_, _, hTO⟩, ⟨_, g1, rfl, rfl⟩, ⟨_, g2, rfl, rfl⟩⟩, fun b hb => ?_, q⟩
      have new : s1.heap.objs.size ≤ b := by
        have hb' : b = s1.heap.objs.size + 4 ∨ b = s1.heap.objs.size + 2 ∨ b = s1.heap.objs.size + 3 ∨ b = s1.heap.objs.size ∨ b = s1.heap.objs.size + 1 := by simpa using hb
        rcases hb' with e | e | e | e | e <;> rw [e] <;> first | exact Nat.le_refl _ | exact Nat.le_add_right _ _
      exact I1.fpOk new (I1.hok.fresh new)
theorem walk_zipS {x y : Str} : Walk (ItzS x y) (min x.cps.size y.cps.size) (fun _ => True) (YPair (fun i => x.cps[i]?.map fun c => .str ⟨#[c]⟩) (fun i => y.cps[i]?.map fun c => .str ⟨#[c]⟩)) := by
  refine ⟨fun i H hi _ => hi, fun H _ => Nat.le_refl _, fun i H v H' hi _ yy => ?_⟩
  obtain ⟨T, c, d, h1, h2, h3, h4, h5⟩ := yy
  exact ⟨T, .str ⟨#[c]⟩, .str ⟨#[d]⟩, h1, h2, h3, by show Option.map _ x.cps[i]? = _; rw [h4]; rfl, by show Option.map _ y.cps[i]? = _; rw [h5]; rfl⟩
/-- a def called by keywords alone -/
theorem pe_callK0 {X : Cx} {CX : CXT} {k : Nat} {f : Addr} {fd : FuncData} {ps ks : List Str} {sp : Sp} {x : Str} {p pos : Pos} {E : XK} {kws : List Keyword} {tk : TA} {g : List Value → List Value → List Value} {gV : List V → List V → List V}
    (F : FnOk X.prog X.w X.K X.mg X.base CX k f fd ps sp) (hr : Room k X.A) (hg : Gl X x) (hm : X.mg x = some (.ref f)) (hk : PySem.W.keepIn X.K (.ref f) = true)
    (hb : KBinds X.K fd ps ks g gV) (hx : Passes CX X E) (hkw : PK X kws tk)
    (hall : (backToKw pos (keywordEach kws X.env)).all (·.1.isSome) = true := by rfl)
    (hks : (backToKw pos (keywordEach kws X.env)).filterMap (·.1) = ks := by rfl)
    (hdb : (x == ("__debug__" : Str)) = false := by decide)
    (bare : ((backTo pos (starEach [] X.env)).any (fun a => a.1) || (backToKw pos (keywordEach kws X.env)).any (fun a => a.1.isNone)) = false := by rfl) :
    PE X (.Call (.Name x p) [] kws pos) (tCallK sp gV E tNil tk) := by
  constructor
  intro pins s σ H Q I h
  refine wpAny_Call_Name_kw (ld_glob I hg hm (PySem.W.callWith_KW0 (h₀ := X.base) I.ok.mod.kin hk hall ?_ bare) hdb)
  refine thn (hkw.run pos pins s σ H _ I h) ?_
  intro ws s2 hq
  obtain ⟨zs, H2, I2, rz, q2⟩ := hq
  refine ⟨I2.kIn, ?_⟩
  rw [hks]
  exact run_fnk (us := []) (vs := []) F hr hb hx I2 .nil rz q2
/-- a text turned round -/
def revS (z : Str) : Str := ⟨((Builtin.Str.strSliceIndices none none (-1) z.length).filterMap (z.cps[·]?)).toArray⟩
theorem revS_len (z : Str) : (revS z).length ≤ z.length := by
  show (List.filterMap _ _).toArray.size ≤ z.length
  rw [List.size_toArray]
  exact Nat.le_trans (List.length_filterMap_le _ _) (sliceIndicesBy_le none none (-1) (by decide) z.length)
def tRevS (te : TE) : TE := fun σ H Q => te σ H fun x H1 => ∃ z : Str, x = .str z ∧ z.length ≤ sizeLine ∧ Q (.str (revS z)) H1
theorem pe_revS {X : Cx} {e : Expr} {te : TE} {k : Nat} {p1 p2 p3 pos : Pos} (he : PE X e te) :
    PE X (.Subscript e (.Slice none none (some (.UnaryOp .USub (.Constant (.int 1) k p1) p2)) p3) pos) (tRevS te) := by
  constructor
  intro pins s σ H Q I h
  refine Subscript_ (thn (he.run pins s σ H _ I h) ?_)
  intro v s1 h1
  obtain ⟨x, H1, I1, r1, z, rfl, hz, q⟩ := h1
  obtain ⟨t, rfl⟩ := r1
  have minus : PO X (some (.UnaryOp .USub (.Constant (.int 1) k p1) p2)) (tPart (tUn (rU fun j => .int (-j)) (tC (.int 1)))) := po_some (pe_un un_neg pe_int)
  refine wpAny_Slice (thn (po_none.run pins s1 σ H1 (fun o H2 => o = none ∧ H2 = H1) I1 ⟨rfl, rfl⟩) ?_)
  intro vl s2 h2
  obtain ⟨_, H2, I2, pl, rfl, rfl⟩ := h2
  refine thn (po_none.run pins s2 σ H2 (fun o H3 => o = none ∧ H3 = H2) I2 ⟨rfl, rfl⟩) ?_
  intro vu s3 h3
  obtain ⟨_, H3, I3, pu, rfl, rfl⟩ := h3
  refine thn (minus.run pins s3 σ H3 (fun o H4 => o = some (-1) ∧ H4 = H3) I3 ⟨1, rfl, -1, rfl, rfl, rfl⟩) ?_
  intro vs s4 h4
  obtain ⟨_, H4, I4, ps, rfl, rfl⟩ := h4
  obtain ⟨l, rfl, el⟩ := IsPart.raw pl
  obtain ⟨u, rfl, eu⟩ := IsPart.raw pu
  obtain ⟨st, rfl, es⟩ := IsPart.raw ps
  refine tail_any (ops := [.str z t, .ref s4.heap.objs.size]) (typeIs_str _ z t) (F.slot_str_getitem.lookup) ?_ (by with_unfolding_all rfl)
  refine wpAny_getItem_str_slice (l := l) (u := u) (st := st) ⟨_, Heap.get?_push_size _ rfl, rfl, rfl⟩ ?_ ?_
  · rw [es]
    decide
  · have em : sliceMade z t l u st = .str (revS z) := by
      unfold sliceMade slicePicked
      rw [es, el, eu, if_neg (by intro c; simp at c)]
      rfl
    rw [em]
    exact ⟨Nat.le_trans (revS_len z) hz, .str _, H4, (I4.kept (t' := s4.toks) fun b ob c => Heap.get?_push_of_some _ c).tok _, ⟨_, rfl⟩, q⟩
end Rg

set_option Elab.async false
set_option linter.all false
set_option maxRecDepth 100000
set_option maxHeartbeats 4500000
namespace Rg
open PySem PySem.Spec PyProof.Rows L2
abbrev s_is_ascending : Stmt := topS 3
theorem sc_is_ascending : FnScope ["text", "at"] ["text"] (defScope s_is_ascending) := ⟨rfl, rfl, rfl, by decide +kernel, rfl, by decide +kernel, by decide +kernel⟩

abbrev s_is_within : Stmt := topS 4
theorem sc_is_within : FnScope ["one", "other", "letter"] ["one", "other"] (defScope s_is_within) := ⟨rfl, rfl, rfl, by decide +kernel, rfl, by decide +kernel, by decide +kernel⟩

abbrev s_l_within : Stmt := topS 12
theorem sc_l_within : FnScope ["_law_one", "_law_other", "_law_letter"] ["_law_one", "_law_other"] (defScope s_l_within) := ⟨rfl, rfl, rfl, by decide +kernel, rfl, by decide +kernel, by decide +kernel⟩

abbrev s_l_rising : Stmt := topS 13
theorem sc_l_rising : FnScope ["_law_value_z", "_law_one", "_law_other", "_law_letter"] ["_law_value_z"] (defScope s_l_rising) := ⟨rfl, rfl, rfl, by decide +kernel, rfl, by decide +kernel, by decide +kernel⟩

/-! ### the mathematics -/
def pairsB : List Nat → List Bool
  | a :: b :: r => decide (a < b) :: pairsB (b :: r)
  | _ => []
def asc (l : List Nat) : Bool := (pairsB l).all id
def withB (a b : List Nat) : List Bool := a.map fun c => decide (c ∈ b)
def within (a b : List Nat) : Bool := (withB a b).all id
theorem pairsB_len : ∀ l : List Nat, (pairsB l).length = l.length - 1
  | [] => rfl
  | [_] => rfl
  | a :: b :: r => by
    show (pairsB (b :: r)).length + 1 = r.length + 1 + 1 - 1
    rw [pairsB_len (b :: r), List.length_cons]
    omega
theorem pairsB_get : ∀ (l : List Nat) (i a b : Nat), l[i]? = some a → l[i + 1]? = some b → (pairsB l)[i]? = some (decide (a < b))
  | [], _, _, _, h, _ => by simp at h
  | [_], 0, _, _, _, h => by simp at h
  | [_], i + 1, _, _, h, _ => by simp at h
  | x :: y :: r, 0, a, b, h, h2 => by
    cases h
    cases h2
    rfl
  | x :: y :: r, i + 1, a, b, h, h2 => pairsB_get (y :: r) i a b h h2
theorem sign_lt (a b : Nat) : decide ((#[a] : Array Nat).toList < (#[b] : Array Nat).toList) = decide (a < b) := by
  show decide ([a] < [b]) = decide (a < b)
  by_cases h : a < b
  · rw [decide_eq_true h, decide_eq_true (show [a] < [b] from List.Lex.rel h)]
  · rw [decide_eq_false h, decide_eq_false]
    intro c
    cases c with
    | rel q => exact h q
    | cons q => cases q
theorem withB_get {a b : List Nat} {i c : Nat} (h : a[i]? = some c) : (withB a b)[i]? = some (decide (c ∈ b)) := by
  unfold withB
  rw [List.getElem?_map, h]
  rfl
theorem at_g {α : Type} {xs : List α} {z : Int} {j : Nat} {v : α} (e : z = (j : Int)) (h : xs[j]? = some v) : atI xs z = some v := by
  rw [e]
  exact atI_nat h
/-- a list that grows by its next item -/
theorem take_snoc {α β : Type} (g : α → β) {l : List α} {i : Nat} {x : α} (h : l[i]? = some x) : (l.take i).map g ++ [g x] = (l.take (i + 1)).map g := by
  rw [List.take_add_one, h, List.map_append]
  rfl
section
variable {P : Program} {w : World} {K : PySem.W.Frag} {mg : Str → Option Value} {base : Heap}
def sp_asc : Sp := fun vs H Q _ => ∃ z : Str, vs = [.str z] ∧ z.cps.toList.length ≤ 1000 ∧ ∀ H', Same H H' → Q (.bl (asc z.cps.toList)) H'
theorem ok_asc {f : Addr} {fd : FuncData} {k : Nat} (F : Fun K "is_ascending" "is_ascending" s_is_ascending f fd) (m_len : mg "len" = none) (m_all : mg "all" = none) (m_range : mg "range" = none) : FnOk P w K mg base CX0 (k + 1) f fd ["text"] sp_asc := by
  refine F.ok sc_is_ascending (fun vs H Q E h => ?_) (fun cdv A outer s H vs Q E hr h => ?_)
  · obtain ⟨z, rfl, _⟩ := h
    rfl
  obtain ⟨z, rfl, hz, q⟩ := h
  have hl : z.length = z.cps.toList.length := (Array.length_toList).symm
  have hs : z.length ≤ sizeLine := Nat.le_of_lt (small1000 (by omega))
  refine ⟨_, (pss_one (ps_ret (pe_callB (cr_all rfl) (by rfl) m_all (by decide +kernel) (pa_cons (pe_lc (own := [("at", 1)]) (g := gName 1) (tt := tYes) rfl sc_is_ascending.nd (pi_range2 (by rfl) m_range (pa_cons pe_int (pa_cons (pe_callB call_len (by rfl) m_len PySem.boot_len (pa_cons (pv 0) pa_nil)) pa_nil))) (blkOk_by (own := [("at", 1)]) (N := ["text", "at"]) (sc := defScope s_is_ascending) (by decide +kernel)) (fun _ _ _ _ _ => (pg_name (i := 1) sc_is_ascending.nd rfl (Or.inl rfl))) (fun _ _ _ _ _ => pts_nil) (fun _ _ _ _ _ => (pe_cmpR op_lt_str (pe_ix ix_str (pv 0) (pe_op op_sub (pv 1) pe_int) (fun _ _ => rfl)) (pe_ix ix_str (pv 0) (pv 1) (fun _ _ => rfl)) (nomark _)))) pa_nil)))), ?_⟩
  refine ⟨.str z, rfl, .str z, z.length, rfl, ⟨hs, rfl⟩, 1, z.length, rfl, ⟨by omega, by omega, by omega, by omega⟩, fun D nD => lc_range (lo := 1) (n := ((z.length : Int) - 1).toNat) (fun i H' => Same H H' ∧ H' D = some (.lst (((pairsB z.cps.toList).take i).map V.bl))) ⟨same_new nD, upd_same⟩ (fun i H1 hi h => ?_) (fun H' h => ?_)⟩
  · obtain ⟨sm, eD⟩ := h
    have h1 : i < z.cps.toList.length := by omega
    have h2 : i + 1 < z.cps.toList.length := by omega
    have g1 : z.cps.toList[i]? = some z.cps.toList[i] := List.getElem?_eq_getElem h1
    have g2 : z.cps.toList[i + 1]? = some z.cps.toList[i + 1] := List.getElem?_eq_getElem h2
    refine ⟨rfl, yes ⟨.str z, rfl, .int (1 + i), rfl, 1 + i, 1, rfl, rfl, z, 1 + i - 1, _, rfl, rfl, hs, at_g (j := i) (by omega) g1, .str z, rfl, .int (1 + i), rfl, z, 1 + i, _, rfl, rfl, hs, at_g (j := i + 1) (by omega) g2, _, _, rfl, rfl, _, eD, ?_, ?_, ?_⟩⟩
    · rw [List.length_map, List.length_take, pairsB_len]
      exact small1000 (by omega)
    · intro b o e
      rw [upd_ne (ne_of_none e nD)]
      exact sm _ _ e
    · rw [upd_same, sign_lt, take_snoc V.bl (pairsB_get _ _ _ _ g1 g2)]
  · obtain ⟨sm, eD⟩ := h
    refine ⟨D, pairsB z.cps.toList, rfl, .inl (.inl ?_), q _ sm⟩
    rw [eD, List.take_of_length_le (by rw [pairsB_len]; omega)]
def sp_within : Sp := fun vs H Q _ => ∃ a b : Str, vs = [.str a, .str b] ∧ a.cps.toList.length ≤ 1000 ∧ ∀ H', Same H H' → Q (.bl (within a.cps.toList b.cps.toList)) H'
theorem ok_within {f : Addr} {fd : FuncData} {k : Nat} (F : Fun K "is_within" "is_within" s_is_within f fd) (m_all : mg "all" = none) : FnOk P w K mg base CX0 (k + 1) f fd ["one", "other"] sp_within := by
  refine F.ok sc_is_within (fun vs H Q E h => ?_) (fun cdv A outer s H vs Q E hr h => ?_)
  · obtain ⟨a, b, rfl, _⟩ := h
    rfl
  obtain ⟨a, b, rfl, ha, q⟩ := h
  refine ⟨_, (pss_one (ps_ret (pe_callB (cr_all rfl) (by rfl) m_all (by decide +kernel) (pa_cons (pe_lc (own := [("letter", 2)]) (g := gName 2) (tt := tYes) rfl sc_is_within.nd (pi_str (pv 0)) (blkOk_by (own := [("letter", 2)]) (N := ["one", "other", "letter"]) (sc := defScope s_is_within) (by decide +kernel)) (fun _ _ _ _ _ => (pg_name (i := 2) sc_is_within.nd rfl (Or.inl rfl))) (fun _ _ _ _ _ => pts_nil) (fun _ _ _ _ _ => (pe_cmpR op_in_sign (pv 2) (pv 1) (by rfl)))) pa_nil)))), ?_⟩
  refine ⟨.str a, rfl, a, rfl, fun D nD => lc_it walk_str (fun i H' => Same H H' ∧ H' D = some (.lst (((withB a.cps.toList b.cps.toList).take i).map V.bl))) ⟨same_new nD, upd_same⟩ (fun _ _ _ _ => trivial) (fun i x H1 H2 hi h y => ?_) (fun H' h => ?_)⟩
  · obtain ⟨sm, eD⟩ := h
    obtain ⟨rfl, c, hc, rfl⟩ := y
    have hc' : a.cps.toList[i]? = some c := by
      rw [Array.getElem?_toList]
      exact hc
    refine ⟨rfl, yes ⟨.str ⟨#[c]⟩, rfl, .str b, rfl, c, b, rfl, rfl, _, eD, ?_, ?_, ?_⟩⟩
    · rw [List.length_map, List.length_take]
      have : i < a.cps.toList.length := (List.getElem?_eq_some_iff.mp hc').1
      exact small1000 (by omega)
    · intro b o e
      rw [upd_ne (ne_of_none e nD)]
      exact sm _ _ e
    · rw [upd_same, take_snoc V.bl (withB_get hc')]
  · obtain ⟨sm, eD⟩ := h
    refine ⟨D, withB a.cps.toList b.cps.toList, rfl, .inl (.inl ?_), q _ sm⟩
    rw [eD, List.take_of_length_le (by unfold withB; rw [List.length_map, Array.length_toList]; exact Nat.le_refl _)]
theorem ok_lwithin {f : Addr} {fd : FuncData} {k : Nat} (F : Fun K "_law_within" "_law_within" s_l_within f fd) (m_all : mg "all" = none) : FnOk P w K mg base CX0 (k + 1) f fd ["_law_one", "_law_other"] sp_within := by
  refine F.ok sc_l_within (fun vs H Q E h => ?_) (fun cdv A outer s H vs Q E hr h => ?_)
  · obtain ⟨a, b, rfl, _⟩ := h
    rfl
  obtain ⟨a, b, rfl, ha, q⟩ := h
  refine ⟨_, (pss_one (ps_ret (pe_callB (cr_all rfl) (by rfl) m_all (by decide +kernel) (pa_cons (pe_lc (own := [("_law_letter", 2)]) (g := gName 2) (tt := tYes) rfl sc_l_within.nd (pi_str (pv 0)) (blkOk_by (own := [("_law_letter", 2)]) (N := ["_law_one", "_law_other", "_law_letter"]) (sc := defScope s_l_within) (by decide +kernel)) (fun _ _ _ _ _ => (pg_name (i := 2) sc_l_within.nd rfl (Or.inl rfl))) (fun _ _ _ _ _ => pts_nil) (fun _ _ _ _ _ => (pe_cmpR op_in_sign (pv 2) (pv 1) (by rfl)))) pa_nil)))), ?_⟩
  refine ⟨.str a, rfl, a, rfl, fun D nD => lc_it walk_str (fun i H' => Same H H' ∧ H' D = some (.lst (((withB a.cps.toList b.cps.toList).take i).map V.bl))) ⟨same_new nD, upd_same⟩ (fun _ _ _ _ => trivial) (fun i x H1 H2 hi h y => ?_) (fun H' h => ?_)⟩
  · obtain ⟨sm, eD⟩ := h
    obtain ⟨rfl, c, hc, rfl⟩ := y
    have hc' : a.cps.toList[i]? = some c := by
      rw [Array.getElem?_toList]
      exact hc
    refine ⟨rfl, yes ⟨.str ⟨#[c]⟩, rfl, .str b, rfl, c, b, rfl, rfl, _, eD, ?_, ?_, ?_⟩⟩
    · rw [List.length_map, List.length_take]
      have : i < a.cps.toList.length := (List.getElem?_eq_some_iff.mp hc').1
      exact small1000 (by omega)
    · intro b o e
      rw [upd_ne (ne_of_none e nD)]
      exact sm _ _ e
    · rw [upd_same, take_snoc V.bl (withB_get hc')]
  · obtain ⟨sm, eD⟩ := h
    refine ⟨D, withB a.cps.toList b.cps.toList, rfl, .inl (.inl ?_), q _ sm⟩
    rw [eD, List.take_of_length_le (by unfold withB; rw [List.length_map, Array.length_toList]; exact Nat.le_refl _)]
def az : Str := "abcdefghijklmnopqrstuvwxyz"
/-- what the law asks of a text -/
def rising (l : List Nat) : Bool := within l az.cps.toList && asc l
def sp_rising : Sp := fun vs H Q _ => ∃ z : Str, vs = [.str z] ∧ z.cps.toList.length ≤ 1000 ∧ ∀ H', Same H H' → Q (.bl (rising z.cps.toList)) H'
theorem cut1 (z : Str) : (cutS z (some 1) none).cps.toList = z.cps.toList.drop 1 := by
  have hl : z.length = z.cps.toList.length := (Array.length_toList).symm
  unfold cutS
  rw [show HT.sIx z.length 0 (some 1) = min 1 z.length from HT.sIx_nat z.length 0 1, HT.sIx_none]
  show List.take _ _ = _
  by_cases h : 1 ≤ z.length
  · rw [Nat.min_eq_left h, List.take_of_length_le]
    rw [List.length_drop]
    omega
  · have e : z.cps.toList = [] := List.eq_nil_of_length_eq_zero (by omega)
    rw [e]
    simp
theorem ok_rising {f : Addr} {fd : FuncData} {k : Nat} (F : Fun K "_law_rising" "_law_rising" s_l_rising f fd) (m_all : mg "all" = none) (m_zip : mg "zip" = none) : FnOk P w K mg base CX0 (k + 1) f fd ["_law_value_z"] sp_rising := by
  refine F.ok sc_l_rising (fun vs H Q E h => ?_) (fun cdv A outer s H vs Q E hr h => ?_)
  · obtain ⟨a, rfl, _⟩ := h
    rfl
  obtain ⟨a, rfl, ha, q⟩ := h
  have hl : a.length = a.cps.toList.length := (Array.length_toList).symm
  have hs : a.length ≤ sizeLine := Nat.le_of_lt (small1000 (by omega))
  refine ⟨_, (pss_cons (ps_if (pt_not (pt_val (pe_callB (cr_all rfl) (by rfl) m_all (by decide +kernel) (pa_cons (pe_lc (own := [("_law_letter", 3)]) (g := gName 3) (tt := tYes) rfl sc_l_rising.nd (pi_str (pv 0)) (blkOk_by (own := [("_law_letter", 3)]) (N := ["_law_value_z", "_law_one", "_law_other", "_law_letter"]) (sc := defScope s_l_rising) (by decide +kernel)) (fun _ _ _ _ _ => (pg_name (i := 3) sc_l_rising.nd rfl (Or.inl rfl))) (fun _ _ _ _ _ => pts_nil) (fun _ _ _ _ _ => (pe_cmpR op_in_sign (pv 3) pe_str (by rfl)))) pa_nil)))) (pss_one (ps_ret pe_bl)) pss_nil) (pss_one (ps_ret (pe_callB (cr_all rfl) (by rfl) m_all (by decide +kernel) (pa_cons (pe_lc (own := [("_law_one", 1), ("_law_other", 2)]) (g := gTup K 2 (gCons (gName 1) (gCons (gName 2) gNil))) (tt := tYes) rfl sc_l_rising.nd (pi_zipS (by rfl) m_zip (pa_cons (pv 0) (pa_cons (pe_slice sl_str (pv 0) (po_some pe_int) po_none) pa_nil))) (blkOk_by (own := [("_law_one", 1), ("_law_other", 2)]) (N := ["_law_value_z", "_law_one", "_law_other", "_law_letter"]) (sc := defScope s_l_rising) (by decide +kernel)) (fun _ _ _ _ _ => (pg_tup rfl (pgs_cons (pg_name (i := 1) sc_l_rising.nd rfl (Or.inl rfl)) (pgs_cons (pg_name (i := 2) sc_l_rising.nd rfl (Or.inl rfl)) pgs_nil)))) (fun _ _ _ _ _ => pts_nil) (fun _ _ _ _ _ => (pe_cmpR op_lt_str (pv 1) (pv 2) (nomark _)))) pa_nil))))), ?_⟩
  refine ⟨.str a, rfl, a, rfl, fun D nD => lc_it walk_str (fun i H' => Same H H' ∧ H' D = some (.lst (((withB a.cps.toList az.cps.toList).take i).map V.bl))) ⟨same_new nD, upd_same⟩ (fun _ _ _ _ => trivial) (fun i x H1 H2 hi h y => ?_) (fun H' h => ?_)⟩
  · obtain ⟨sm, eD⟩ := h
    obtain ⟨rfl, c, hc, rfl⟩ := y
    have hc' : a.cps.toList[i]? = some c := by
      rw [Array.getElem?_toList]
      exact hc
    refine ⟨rfl, yes ⟨.str ⟨#[c]⟩, rfl, c, az, rfl, rfl, _, eD, ?_, ?_, ?_⟩⟩
    · rw [List.length_map, List.length_take]
      have : i < a.cps.toList.length := (List.getElem?_eq_some_iff.mp hc').1
      exact small1000 (by omega)
    · intro b o e
      rw [upd_ne (ne_of_none e nD)]
      exact sm _ _ e
    · rw [upd_same, take_snoc V.bl (withB_get hc')]
  · obtain ⟨sm, eD⟩ := h
    refine ⟨D, withB a.cps.toList az.cps.toList, rfl, .inl (.inl ?_), within a.cps.toList az.cps.toList, rfl, ?_⟩
    · rw [eD, List.take_of_length_le (by unfold withB; rw [List.length_map, Array.length_toList]; exact Nat.le_refl _)]
    cases hw : within a.cps.toList az.cps.toList with
    | false =>
      refine iteT ?_
      have e0 : rising a.cps.toList = false := by
        unfold rising
        rw [hw]
        rfl
      rw [← e0]
      exact q _ sm
    | true =>
      refine iteF ?_
      have e0 : rising a.cps.toList = asc a.cps.toList := by
        unfold rising
        rw [hw]
        rfl
      rw [e0] at q
      refine ⟨.str a, rfl, .str a, rfl, 1, rfl, a, rfl, hs, a, _, rfl, fun D2 nD2 => lc_it walk_zipS (fun i H3 => Same H' H3 ∧ H3 D2 = some (.lst (((pairsB a.cps.toList).take i).map V.bl))) ⟨same_new nD2, upd_same⟩ (fun _ _ _ _ => trivial) (fun i x H1 H2 hi h y => ?_) (fun H3 h => ?_)⟩
      · obtain ⟨sm2, eD2⟩ := h
        obtain ⟨T, x1, x2, rfl, nT, rfl, f1, f2⟩ := y
        have sT := same_new (o := .tup [x1, x2]) nT
        obtain ⟨c1, g1, rfl⟩ := Option.map_eq_some_iff.mp f1
        obtain ⟨c2, g2, rfl⟩ := Option.map_eq_some_iff.mp f2
        have g1' : a.cps.toList[i]? = some c1 := by
          rw [Array.getElem?_toList]
          exact g1
        have g2' : a.cps.toList[i + 1]? = some c2 := by
          have e : (cutS a (some 1) none).cps.toList[i]? = some c2 := by
            rw [Array.getElem?_toList]
            exact g2
          rw [cut1, List.getElem?_drop, Nat.add_comm] at e
          exact e
        refine ⟨T, _, rfl, SqT.of upd_same, rfl, _, [_], rfl, _, [], rfl, rfl, rfl, yes ⟨.str ⟨#[c1]⟩, rfl, .str ⟨#[c2]⟩, rfl, _, _, rfl, rfl, _, sT _ _ eD2, ?_, ?_, ?_⟩⟩
        · rw [List.length_map, List.length_take, pairsB_len]
          exact small1000 (by omega)
        · intro b o e
          rw [upd_ne (ne_of_none e nD2)]
          exact sT _ _ (sm2 _ _ e)
        · rw [upd_same, sign_lt, take_snoc V.bl (pairsB_get _ _ _ _ g1' g2')]
      · obtain ⟨sm2, eD2⟩ := h
        refine ⟨D2, pairsB a.cps.toList, rfl, .inl (.inl ?_), q _ (sm.trans sm2)⟩
        have e1 : (cutS a (some 1) none).cps.size = a.cps.toList.length - 1 := by
          rw [← Array.length_toList, cut1, List.length_drop]
        rw [eD2, List.take_of_length_le]
        rw [pairsB_len, e1, ← Array.length_toList]
        omega
end
end Rg

set_option Elab.async false
set_option linter.all false
set_option maxRecDepth 100000
set_option maxHeartbeats 4500000
namespace Rg
open PySem PySem.Spec PyProof.Rows L2
abbrev s_is_set : Stmt := topS 5
theorem sc_is_set : FnScope ["value", "lamps"] ["value", "lamps"] (defScope s_is_set) := ⟨rfl, rfl, rfl, by decide +kernel, rfl, by decide +kernel, by decide +kernel⟩

abbrev s_is_lamps : Stmt := topS 6
theorem sc_is_lamps : FnScope ["value"] ["value"] (defScope s_is_lamps) := ⟨rfl, rfl, rfl, by decide +kernel, rfl, by decide +kernel, by decide +kernel⟩

abbrev s_l_is_set : Stmt := topS 14
theorem sc_l_is_set : FnScope ["_law_value_z", "_law_lamps_z"] ["_law_value_z", "_law_lamps_z"] (defScope s_l_is_set) := ⟨rfl, rfl, rfl, by decide +kernel, rfl, by decide +kernel, by decide +kernel⟩

abbrev s_l_lamps : Stmt := topS 15
theorem sc_l_lamps : FnScope ["_law_bag_here", "_law_most"] ["_law_bag_here", "_law_most"] (defScope s_l_lamps) := ⟨rfl, rfl, rfl, by decide +kernel, rfl, by decide +kernel, by decide +kernel⟩

abbrev s_l_lits : Stmt := topS 16
theorem sc_l_lits : FnScope ["_law_bag_here", "_law_lamps_z", "_law_lamp"] ["_law_bag_here", "_law_lamps_z"] (defScope s_l_lits) := ⟨rfl, rfl, rfl, by decide +kernel, rfl, by decide +kernel, by decide +kernel⟩

def sgn (c : Nat) : Str := ⟨#[c]⟩
theorem app_cps (a b : Str) : (a ++ b).cps.toList = a.cps.toList ++ b.cps.toList := by
  show (a.cps ++ b.cps).toList = _
  exact Array.toList_append
theorem join_cps : ∀ ss : List Str, (Str.join "" ss).cps.toList = (ss.map (·.cps.toList)).flatten
  | [] => rfl
  | [x] => by
    show x.cps.toList = _
    simp
  | x :: y :: r => by
    show (x ++ Str.ofString "" ++ Str.join "" (y :: r)).cps.toList = _
    rw [app_cps, app_cps, join_cps (y :: r)]
    show x.cps.toList ++ [] ++ _ = _
    simp
theorem txt_join (ss : List Str) : (Txt.join "" ss).cps.toList = (ss.map (·.cps.toList)).flatten := by
  show (Builtin.Str.glued "" ss).cps.toList = _
  rw [StrLaws.glued_eq_join]
  exact join_cps ss
theorem join_sgn (ys : List Nat) : (Txt.join "" (ys.map sgn)).cps.toList = ys := by
  rw [txt_join, List.map_map]
  show (ys.map fun c => [c]).flatten = ys
  induction ys with
  | nil => rfl
  | cons c r ih =>
    show [c] ++ (r.map fun c => [c]).flatten = _
    rw [ih]
    rfl
theorem sum_ones (ys : List Nat) : (ys.map ((fun z : Str => z.length) ∘ sgn)).sum = ys.length := by
  induction ys with
  | nil => rfl
  | cons c r ih =>
    rw [List.map_cons, List.sum_cons, ih]
    exact Nat.add_comm 1 r.length
def nine : List Str := ["ab", "a", "abc", "ab", "xyz", "bd", "abc", "abcd", "nopt"]
def lampish (l : List Nat) : Bool := asc l && within l az.cps.toList && (decide (1 ≤ l.length) && decide (l.length ≤ 4))
section
variable {P : Program} {w : World} {K : PySem.W.Frag} {mg : Str → Option Value} {base : Heap}
/-- a value that is no text, by its type -/
def NoText (K : PySem.W.Frag) (H : Hp) (x : V) : Prop := ∃ T : String, TyX K H x (.type T) ∧ kitB T "str" = some false
def sp_set (K : PySem.W.Frag) : Sp := fun vs H Q _ => ∃ (x : V) (l : Str), vs = [x, .str l] ∧ ((∃ z : Str, x = .str z ∧ z.cps.toList.length ≤ 1000 ∧ ∀ H', Same H H' → Q (.bl (asc z.cps.toList && within z.cps.toList l.cps.toList)) H') ∨ (NoText K H x ∧ Q (.bl false) H))
theorem ok_set {f f1 f2 : Addr} {fd fd1 fd2 : FuncData} {k : Nat} (F : Fun K "is_set" "is_set" s_is_set f fd) (F_is_ascending : Fun K "is_ascending" "is_ascending" s_is_ascending f1 fd1) (b_is_ascending : Binds K fd1 ["text"] []) (g_is_ascending : mg "is_ascending" = some (.ref f1)) (G_is_ascending : FnOk P w K mg base CX0 1 f1 fd1 ["text"] sp_asc)
    (F_is_within : Fun K "is_within" "is_within" s_is_within f2 fd2) (b_is_within : Binds K fd2 ["one", "other"] []) (g_is_within : mg "is_within" = some (.ref f2)) (G_is_within : FnOk P w K mg base CX0 1 f2 fd2 ["one", "other"] sp_within)
    (m_isinstance : mg "isinstance" = none) (m_str : mg "str" = none) : FnOk P w K mg base CX0 (k + 2) f fd ["value", "lamps"] (sp_set K) := by
  refine F.ok sc_is_set (fun vs H Q E h => ?_) (fun cdv A outer s H vs Q E hr h => ?_)
  · obtain ⟨x, l, rfl, _⟩ := h
    rfl
  obtain ⟨x, l, rfl, h⟩ := h
  refine ⟨_, (pss_one (ps_ret (pe_and (pe_callB call_isi (by rfl) m_isinstance (by decide +kernel) (pa_cons (pv 0) (pa_cons (pe_bltn (v := .ty "str") (by rfl) m_str (by decide +kernel) rfl) pa_nil))) (pe_and (pe_call G_is_ascending (hr.mono (by omega)) (by rfl) g_is_ascending F_is_ascending.kp b_is_ascending .nil pass0 (pa_cons (pv 0) pa_nil)) (pe_one (pe_call G_is_within (hr.mono (by omega)) (by rfl) g_is_within F_is_within.kp b_is_within .nil pass0 (pa_cons (pv 0) (pa_cons (pv 1) pa_nil)))))))), ?_⟩
  rcases h with ⟨z, rfl, hz, q⟩ | ⟨⟨T, ty, kt⟩, q⟩
  · refine ⟨.str z, rfl, .str z, .ty "str", _, _, true, rfl, .ty _, .base (.str z), kit_ty (by decide +kernel), true, rfl, iteT ?_⟩
    refine ⟨.str z, rfl, z, rfl, hz, fun H1 s1 => ⟨asc z.cps.toList, rfl, ?_⟩⟩
    cases ha : asc z.cps.toList with
    | false =>
      refine iteF ?_
      rw [ha] at q
      exact q H1 s1
    | true =>
      refine iteT ?_
      rw [ha] at q
      exact ⟨.str z, rfl, .str l, rfl, z, l, rfl, hz, fun H2 s2 => q H2 (s1.trans s2)⟩
  · exact ⟨x, rfl, x, .ty "str", _, _, false, rfl, .ty _, ty, kit_ty kt, false, rfl, iteF q⟩
def sp_lamps (K : PySem.W.Frag) : Sp := fun vs H Q _ => ∃ x : V, vs = [x] ∧ ((∃ z : Str, x = .str z ∧ z.cps.toList.length ≤ 1000 ∧ ∀ H', Same H H' → Q (.bl (lampish z.cps.toList)) H') ∨ (NoText K H x ∧ Q (.bl false) H))
theorem ok_lamps {f f1 : Addr} {fd fd1 : FuncData} {k : Nat} {t1 t2 : Tok} (F : Fun K "is_lamps" "is_lamps" s_is_lamps f fd) (F_is_set : Fun K "is_set" "is_set" s_is_set f1 fd1) (b_is_set : Binds K fd1 ["value", "lamps"] []) (g_is_set : mg "is_set" = some (.ref f1)) (G_is_set : FnOk P w K mg base CX0 2 f1 fd1 ["value", "lamps"] (sp_set K))
    (c_LETTERS : mg "LETTERS" = some (.str az t1)) (c_MOST_LAMPS : mg "MOST_LAMPS" = some (.int 4 t2)) (m_len : mg "len" = none) : FnOk P w K mg base CX0 (k + 3) f fd ["value"] (sp_lamps K) := by
  refine F.ok sc_is_lamps (fun vs H Q E h => ?_) (fun cdv A outer s H vs Q E hr h => ?_)
  · obtain ⟨x, rfl, _⟩ := h
    rfl
  obtain ⟨x, rfl, h⟩ := h
  refine ⟨_, (pss_one (ps_ret (pe_and (pe_call G_is_set (hr.mono (by omega)) (by rfl) g_is_set F_is_set.kp b_is_set .nil pass0 (pa_cons (pv 0) (pa_cons (pe_glob (v := .str az) (by rfl) c_LETTERS ⟨_, rfl⟩) pa_nil))) (pe_one (pe_chain op_le op_le pe_int (pe_callB call_len (by rfl) m_len PySem.boot_len (pa_cons (pv 0) pa_nil)) (pe_glob (v := .int 4) (by rfl) c_MOST_LAMPS ⟨_, rfl⟩)))))), ?_⟩
  rcases h with ⟨z, rfl, hz, q⟩ | ⟨no, q⟩
  · have hl : z.length = z.cps.toList.length := (Array.length_toList).symm
    have hs : z.length ≤ sizeLine := Nat.le_of_lt (small1000 (by omega))
    refine ⟨.str z, rfl, .str z, az, rfl, .inl ⟨z, rfl, hz, fun H1 s1 => ⟨_, rfl, ?_⟩⟩⟩
    unfold lampish at q
    cases ha : asc z.cps.toList && within z.cps.toList az.cps.toList with
    | false =>
      refine iteF ?_
      rw [ha] at q
      exact q H1 s1
    | true =>
      refine iteT ?_
      rw [ha] at q
      refine ⟨.str z, rfl, .str z, z.length, rfl, ⟨hs, rfl⟩, 1, z.length, rfl, rfl, _, rfl, ite2 (fun e => ?_) (fun e => ?_)⟩
      · refine ⟨z.length, 4, rfl, rfl, ?_⟩
        have e1 : 1 ≤ z.cps.toList.length := by
          have := of_decide_eq_true e
          omega
        have e2 : decide ((z.length : Int) ≤ 4) = decide (z.cps.toList.length ≤ 4) := by
          rw [decide_eq_decide]
          omega
        show Q (.bl (decide ((z.length : Int) ≤ 4))) H1
        rw [e2]
        rw [decide_eq_true e1] at q
        exact q H1 s1
      · have e1 : ¬ 1 ≤ z.cps.toList.length := fun c => e (decide_eq_true (by omega))
        rw [decide_eq_false e1] at q
        exact q H1 s1
  · exact ⟨x, rfl, x, az, rfl, .inr ⟨no, false, rfl, iteF q⟩⟩
def sp_lset (K : PySem.W.Frag) : Sp := fun vs H Q _ => ∃ z l : Str, vs = [.str z, .str l] ∧ z.cps.toList.length ≤ 1000 ∧ ∀ H', Same H H' → Q (.bl (rising z.cps.toList && within z.cps.toList l.cps.toList)) H'
theorem ok_lset {f f1 f2 : Addr} {fd fd1 fd2 : FuncData} {k : Nat} (F : Fun K "_law_is_set" "_law_is_set" s_l_is_set f fd) (F_l_rising : Fun K "_law_rising" "_law_rising" s_l_rising f1 fd1) (b_l_rising : Binds K fd1 ["_law_value_z"] []) (g_l_rising : mg "_law_rising" = some (.ref f1)) (G_l_rising : FnOk P w K mg base CX0 1 f1 fd1 ["_law_value_z"] sp_rising)
    (F_l_within : Fun K "_law_within" "_law_within" s_l_within f2 fd2) (b_l_within : Binds K fd2 ["_law_one", "_law_other"] []) (g_l_within : mg "_law_within" = some (.ref f2)) (G_l_within : FnOk P w K mg base CX0 1 f2 fd2 ["_law_one", "_law_other"] sp_within)
    (m_isinstance : mg "isinstance" = none) (m_str : mg "str" = none) : FnOk P w K mg base CX0 (k + 2) f fd ["_law_value_z", "_law_lamps_z"] (sp_lset K) := by
  refine F.ok sc_l_is_set (fun vs H Q E h => ?_) (fun cdv A outer s H vs Q E hr h => ?_)
  · obtain ⟨x, l, rfl, _⟩ := h
    rfl
  obtain ⟨z, l, rfl, hz, q⟩ := h
  refine ⟨_, (pss_one (ps_ret (pe_and (pe_callB call_isi (by rfl) m_isinstance (by decide +kernel) (pa_cons (pv 0) (pa_cons (pe_bltn (v := .ty "str") (by rfl) m_str (by decide +kernel) rfl) pa_nil))) (pe_and (pe_call G_l_rising (hr.mono (by omega)) (by rfl) g_l_rising F_l_rising.kp b_l_rising .nil pass0 (pa_cons (pv 0) pa_nil)) (pe_one (pe_call G_l_within (hr.mono (by omega)) (by rfl) g_l_within F_l_within.kp b_l_within .nil pass0 (pa_cons (pv 0) (pa_cons (pv 1) pa_nil)))))))), ?_⟩
  refine ⟨.str z, rfl, .str z, .ty "str", _, _, true, rfl, .ty _, .base (.str z), kit_ty (by decide +kernel), true, rfl, iteT ?_⟩
  refine ⟨.str z, rfl, z, rfl, hz, fun H1 s1 => ⟨rising z.cps.toList, rfl, ?_⟩⟩
  cases ha : rising z.cps.toList with
  | false =>
    refine iteF ?_
    rw [ha] at q
    exact q H1 s1
  | true =>
    refine iteT ?_
    rw [ha] at q
    exact ⟨.str z, rfl, .str l, rfl, z, l, rfl, hz, fun H2 s2 => q H2 (s1.trans s2)⟩
def sp_llamps (K : PySem.W.Frag) : Sp := fun vs H Q _ => ∃ B L : Addr, vs = [.ref B, .int 9] ∧ Bag H B L ∧ ∀ H' z, SameB B H H' → Bag H' B L → z ∈ nine → Q (.str z) H'
theorem ok_llamps {f f1 : Addr} {fd fd1 : FuncData} {k : Nat} (F : Fun K "_law_lamps" "_law_lamps" s_l_lamps f fd) (F_l_of : Fun K "_law_of" "_law_of" s_l_of f1 fd1) (b_l_of : Binds K fd1 ["_law_bag_here", "_law_some"] []) (g_l_of : mg "_law_of" = some (.ref f1)) (G_l_of : FnOk P w K mg base CX0 2 f1 fd1 ["_law_bag_here", "_law_some"] (sp_of K)) :
    FnOk P w K mg base CX0 (k + 3) f fd ["_law_bag_here", "_law_most"] (sp_llamps K) := by
  refine F.ok sc_l_lamps (fun vs H Q E h => ?_) (fun cdv A outer s H vs Q E hr h => ?_)
  · obtain ⟨B, L, rfl, _⟩ := h
    rfl
  obtain ⟨B, L, rfl, hB, q⟩ := h
  refine ⟨_, (pss_one (ps_ret (pe_call G_l_of (hr.mono (by omega)) (by rfl) g_l_of F_l_of.kp b_l_of .nil pass0 (pa_cons (pv 0) (pa_cons (pe_slice sl_list (pe_lst (pa_cons pe_str (pa_cons pe_str (pa_cons pe_str (pa_cons pe_str (pa_cons pe_str (pa_cons pe_str (pa_cons pe_str (pa_cons pe_str (pa_cons pe_str pa_nil)))))))))) po_none (po_some (pv 1))) pa_nil))))), ?_⟩
  refine ⟨.ref B, rfl, (show 9 ≤ sizeLine by decide), fun p np => ⟨.int 9, rfl, 9, rfl, p, nine.map V.str, rfl, SqL.of upd_same, fun p2 np2 => ?_⟩⟩
  have s1 := same_new (o := .lst (nine.map V.str)) np
  have s2 := same_new (o := .lst (cutV (nine.map V.str) none (some 9))) np2
  have nB : p2 ≠ B := (hB.same s1).neB np2
  refine ⟨B, L, .ref p2, rfl, (hB.same s1).same s2, .inr ⟨p2, nine.map V.str, rfl, nB, SqL.of upd_same, by decide, by decide, fun H' v sm hb hv => ?_⟩⟩
  obtain ⟨y, hy, rfl⟩ := List.mem_map.mp hv
  exact q H' y ((Same.toB (s1.trans s2)).trans sm) hb hy
def sp_lits (K : PySem.W.Frag) : Sp := fun vs H Q _ => ∃ (B L : Addr) (l : Str), vs = [.ref B, .str l] ∧ Bag H B L ∧ l.cps.toList.length ≤ 1000 ∧ ∀ H' z, SameB B H H' → Bag H' B L → List.Sublist z.cps.toList l.cps.toList → Q (.str z) H'
theorem ok_lits {f f1 : Addr} {fd fd1 : FuncData} {k : Nat} (F : Fun K "_law_lits" "_law_lits" s_l_lits f fd) (F_l_pull : Fun K "_law_pull" "_law_pull" s_l_pull f1 fd1) (b_l_pull : Binds K fd1 ["_law_bag_here", "_law_many"] []) (g_l_pull : mg "_law_pull" = some (.ref f1)) (G_l_pull : FnOk P w K mg base CX0 1 f1 fd1 ["_law_bag_here", "_law_many"] sp_pull) :
    FnOk P w K mg base CX0 (k + 2) f fd ["_law_bag_here", "_law_lamps_z"] (sp_lits K) := by
  refine F.ok sc_l_lits (fun vs H Q E h => ?_) (fun cdv A outer s H vs Q E hr h => ?_)
  · obtain ⟨B, L, l, rfl, _⟩ := h
    rfl
  obtain ⟨B, L, l, rfl, hB, hl, q⟩ := h
  refine ⟨_, (pss_one (ps_ret (pe_join pe_str (pe_lc (own := [("_law_lamp", 2)]) (g := gName 2) rfl sc_l_lits.nd (pi_str (pv 1)) (blkOk_by (own := [("_law_lamp", 2)]) (N := ["_law_bag_here", "_law_lamps_z", "_law_lamp"]) (sc := defScope s_l_lits) (by decide +kernel)) (fun _ _ _ _ _ => (pg_name (i := 2) sc_l_lits.nd rfl (Or.inl rfl))) (fun _ _ _ _ _ => (pts_one (pt_cmpR op_eq (pe_call G_l_pull (hr.mono (by omega)) (by rfl) g_l_pull F_l_pull.kp b_l_pull .nil pass0 (pa_cons (pv 0) (pa_cons pe_int pa_nil))) pe_int (nomark _)))) (fun _ _ _ _ _ => (pv 2)))))), ?_⟩
  refine ⟨⟨_, rfl⟩, .str l, rfl, l, rfl, fun D nD => lc_it walk_str (fun i H' => SameB B H H' ∧ Bag H' B L ∧ ∃ ys : List Nat, ys.Sublist (l.cps.toList.take i) ∧ H' D = some (.lst ((ys.map sgn).map V.str))) ⟨Same.toB (same_new nD), hB.same (same_new nD), [], List.nil_sublist _, upd_same⟩ (fun _ _ _ _ => trivial) (fun i x H1 H2 hi h y => ?_) (fun H' h => ?_)⟩
  · obtain ⟨sm, hb, ys, hys, eD⟩ := h
    obtain ⟨rfl, c, hc, rfl⟩ := y
    have hc' : l.cps.toList[i]? = some c := by
      rw [Array.getElem?_toList]
      exact hc
    have nDB : D ≠ B := hB.neB nD
    refine ⟨rfl, .ref B, rfl, B, L, 2, rfl, hb, by decide, by decide, fun H3 r sm3 hb3 r0 r1 => ⟨rfl, _, rfl, ite2 (fun e => ?_) (fun e => ?_)⟩⟩
    · refine ⟨.str ⟨#[c]⟩, rfl, _, sm3 _ _ nDB eD, ?_, ?_, ?_, ys ++ [c], ?_, ?_⟩
      · rw [List.length_map, List.length_map]
        have h1 := hys.length_le
        rw [List.length_take] at h1
        exact small1000 (by omega)
      · intro b o n e
        have nb : b ≠ D := ne_of_none e nD
        rw [upd_ne nb]
        exact (sm.trans sm3) _ _ n e
      · exact hb3.upd nDB (hB.neL nD)
      · rw [List.take_add_one, hc']
        exact hys.append (List.Sublist.refl _)
      · rw [upd_same, List.map_append, List.map_append]
        rfl
    · refine ⟨sm.trans sm3, hb3, ys, ?_, sm3 _ _ nDB eD⟩
      rw [List.take_add_one, hc']
      exact hys.trans (List.sublist_append_left _ _)
  · obtain ⟨sm, hb, ys, hys, eD⟩ := h
    refine ⟨"", D, ys.map sgn, rfl, rfl, .inl (SqL.of eD), ?_, ?_⟩
    · have h1 := hys.length_le
      rw [List.length_take] at h1
      rw [List.map_map, sum_ones, List.length_map]
      show ys.length + ys.length * 0 ≤ _
      omega
    · refine q _ _ sm hb ?_
      rw [join_sgn]
      exact hys.trans (List.take_sublist _ _)
def gK {α : Type} (us ws : List α) : List α := match us with
  | [] => ws
  | _ => []
theorem kb_set {f : Addr} {fd : FuncData} (F : Fun K "is_set" "is_set" s_is_set f fd) : KBinds K fd ["value", "lamps"] ["value", "lamps"] gK gK := by
  obtain ⟨_, _, _, _, _, _, _, _, _, rfl, _, _⟩ := F.ex
  refine ⟨fun s us ws _ h => ?_, fun {vs us zs ws} r1 r2 => ?_⟩
  · match us, ws, h with
    | [], [a, b], _ => exact .of_eq rfl
  · cases r1 with
    | nil => exact r2
    | cons _ _ => exact .nil
end
end Rg

set_option Elab.async false
set_option linter.all false
set_option maxRecDepth 100000
set_option maxHeartbeats 8000000
namespace Rg
open PySem PySem.Spec PyProof.Rows L2
abbrev s_law : Stmt := topS 17
theorem sc_law : FnScope ["_law_script", "_law_bag_here", "_law_turn", "_law_letters", "_law_value_z", "_law_lamps_z", "_law_word", "_law_lit", "_law_good", "_law_odd", "_law_told", "_law_k"] ["_law_script"] (defScope s_law) := ⟨rfl, rfl, rfl, by decide +kernel, rfl, by decide +kernel, by decide +kernel⟩

def forB (s : Stmt) : List Stmt := match s with
  | .For _ _ b _ _ => b
  | _ => []
def turnB : List Stmt := forB ((defBody s_law).getD 1 (.Pass ⟨0, 0, 0, 0⟩))
theorem ones_join (ys : List Str) (h : ∀ y ∈ ys, y.cps.toList.length = 1) : (Txt.join "" ys).cps.toList.length = ys.length := by
  rw [txt_join]
  induction ys with
  | nil => rfl
  | cons y r ih =>
    rw [List.map_cons, List.flatten_cons, List.length_append, h y List.mem_cons_self, ih fun z hz => h z (List.mem_cons_of_mem _ hz), List.length_cons]
    omega
theorem ones_sum (ys : List Str) (h : ∀ y ∈ ys, y.cps.toList.length = 1) : (ys.map (·.length)).sum = ys.length := by
  induction ys with
  | nil => rfl
  | cons y r ih =>
    have e : y.length = 1 := (Array.length_toList).symm.trans (h y List.mem_cons_self)
    rw [List.map_cons, List.sum_cons, ih fun z hz => h z (List.mem_cons_of_mem _ hz), List.length_cons, e]
    omega
theorem sgn_ones (cs : List Nat) : ∀ y ∈ cs.map sgn, y.cps.toList.length = 1 := by
  intro y hy
  obtain ⟨c, _, rfl⟩ := List.mem_map.mp hy
  rfl
def odds : List Str := ["A", "a b", "1", "aB"]
theorem odd_set : ∀ z ∈ nine, ∀ v ∈ odds, (asc v.cps.toList && within v.cps.toList z.cps.toList) = false := by decide +kernel
theorem odd_lamps : ∀ v ∈ odds, lampish v.cps.toList = false := by decide +kernel
theorem nine_az : ∀ z ∈ nine, within z.cps.toList az.cps.toList = true := by decide +kernel
theorem nine_len : ∀ z ∈ nine, z.cps.toList.length ≤ 4 ∧ 0 < z.cps.toList.length := by decide +kernel
theorem within_iff {a b : List Nat} : within a b = true ↔ ∀ c ∈ a, c ∈ b := by
  unfold within withB
  rw [List.all_map, List.all_eq_true]
  constructor
  · intro h c hc
    exact of_decide_eq_true (h c hc)
  · intro h c hc
    exact decide_eq_true (h c hc)
/-- the law's own words of a set are the program's -/
theorem set_same {z v : Str} (hz : z ∈ nine) : (rising v.cps.toList && within v.cps.toList z.cps.toList) = (asc v.cps.toList && within v.cps.toList z.cps.toList) := by
  cases h : within v.cps.toList z.cps.toList with
  | false => rw [Bool.and_false, Bool.and_false]
  | true =>
    have e : within v.cps.toList az.cps.toList = true := within_iff.mpr fun c hc => within_iff.mp (nine_az z hz) c (within_iff.mp h c hc)
    unfold rising
    rw [e, Bool.true_and]
theorem dk_two (g h : Bool) : DK 2 (.list [.bool g, .bool h]) := by
  refine ⟨(show 2 ≤ 1000 by decide), fun d hd => ?_⟩
  simp only [List.mem_cons, List.not_mem_nil, or_false] at hd
  rcases hd with rfl | rfl <;> exact trivial
def toldD : PyData := .list [.bool false, .bool false, .bool true, .bool false, .bool false]
theorem told_eqv : PyData.eqv toldD toldD = true := by decide +kernel
section
variable {P : Program} {w : World} {K : PySem.W.Frag} {mg : Str → Option Value} {base : Heap}
def sp_law (K : PySem.W.Frag) : Sp := fun vs H Q _ => ∃ (a : Addr) (ns : List Int), vs = [.ref a] ∧ SqL K H a (ns.map V.int) ∧ ns.length ≤ 63 ∧ ∀ H', Q (.bl true) H'
def LawAt (a B L : Addr) (σ : L2.St) (H : Hp) : Prop := ∃ y2 y3 y4 y5 y6 y7 y8 y9 y10 y11, σ = [some (.ref a), some (.ref B), y2, y3, y4, y5, y6, y7, y8, y9, y10, y11] ∧ Bag H B L
theorem ok_law {f fBag fPull fOf fSame fSet fLamps fLset fRising fLlamps fLits : Addr} {fd dBag dPull dOf dSame dSet dLamps dLset dRising dLlamps dLits : FuncData}
    (F : Fun K "law" "law" s_law f fd)
    (F_l_bag : Fun K "_law_bag" "_law_bag" s_l_bag fBag dBag) (b_l_bag : Binds K dBag ["_law_script"] []) (g_l_bag : mg "_law_bag" = some (.ref fBag)) (G_l_bag : FnOk P w K mg base CX0 1 fBag dBag ["_law_script"] (sp_bag K))
    (F_l_pull : Fun K "_law_pull" "_law_pull" s_l_pull fPull dPull) (b_l_pull : Binds K dPull ["_law_bag_here", "_law_many"] []) (g_l_pull : mg "_law_pull" = some (.ref fPull)) (G_l_pull : FnOk P w K mg base CX0 1 fPull dPull ["_law_bag_here", "_law_many"] sp_pull)
    (F_l_of : Fun K "_law_of" "_law_of" s_l_of fOf dOf) (b_l_of : Binds K dOf ["_law_bag_here", "_law_some"] []) (g_l_of : mg "_law_of" = some (.ref fOf)) (G_l_of : FnOk P w K mg base CX0 2 fOf dOf ["_law_bag_here", "_law_some"] (sp_of K))
    (F_l_same : Fun K "_law_same" "_law_same" s_l_same fSame dSame) (b_l_same : Binds K dSame ["_law_found", "_law_due"] []) (g_l_same : mg "_law_same" = some (.ref fSame)) (G_l_same : FnOk P w K mg base CX0 2 fSame dSame ["_law_found", "_law_due"] (sp_same K 2))
    (F_is_set : Fun K "is_set" "is_set" s_is_set fSet dSet) (b_is_set : Binds K dSet ["value", "lamps"] []) (g_is_set : mg "is_set" = some (.ref fSet)) (G_is_set : FnOk P w K mg base CX0 2 fSet dSet ["value", "lamps"] (sp_set K))
    (F_is_lamps : Fun K "is_lamps" "is_lamps" s_is_lamps fLamps dLamps) (b_is_lamps : Binds K dLamps ["value"] []) (g_is_lamps : mg "is_lamps" = some (.ref fLamps)) (G_is_lamps : FnOk P w K mg base CX0 3 fLamps dLamps ["value"] (sp_lamps K))
    (F_l_is_set : Fun K "_law_is_set" "_law_is_set" s_l_is_set fLset dLset) (b_l_is_set : Binds K dLset ["_law_value_z", "_law_lamps_z"] []) (g_l_is_set : mg "_law_is_set" = some (.ref fLset)) (G_l_is_set : FnOk P w K mg base CX0 2 fLset dLset ["_law_value_z", "_law_lamps_z"] (sp_lset K))
    (F_l_rising : Fun K "_law_rising" "_law_rising" s_l_rising fRising dRising) (b_l_rising : Binds K dRising ["_law_value_z"] []) (g_l_rising : mg "_law_rising" = some (.ref fRising)) (G_l_rising : FnOk P w K mg base CX0 1 fRising dRising ["_law_value_z"] sp_rising)
    (F_l_lamps : Fun K "_law_lamps" "_law_lamps" s_l_lamps fLlamps dLlamps) (b_l_lamps : Binds K dLlamps ["_law_bag_here", "_law_most"] []) (g_l_lamps : mg "_law_lamps" = some (.ref fLlamps)) (G_l_lamps : FnOk P w K mg base CX0 3 fLlamps dLlamps ["_law_bag_here", "_law_most"] (sp_llamps K))
    (F_l_lits : Fun K "_law_lits" "_law_lits" s_l_lits fLits dLits) (b_l_lits : Binds K dLits ["_law_bag_here", "_law_lamps_z"] []) (g_l_lits : mg "_law_lits" = some (.ref fLits)) (G_l_lits : FnOk P w K mg base CX0 2 fLits dLits ["_law_bag_here", "_law_lamps_z"] (sp_lits K))
    (m_len : mg "len" = none) (m_range : mg "range" = none) (m_sorted : mg "sorted" = none) : FnOk P w K mg base CX0 4 f fd ["_law_script"] (sp_law K) := by
  have kb_is_set := kb_set F_is_set
  refine F.ok sc_law (fun vs H Q E h => ?_) (fun cdv A outer s H vs Q E hr h => ?_)
  · obtain ⟨a, ns, rfl, _⟩ := h
    rfl
  obtain ⟨a, ns, rfl, hS, hlen, q⟩ := h
  -- the rest of a turn, behind the first question
  obtain ⟨t3, h3, r3⟩ : ∃ t3, PSs (cxOf CX0 P w K mg base ["_law_script", "_law_bag_here", "_law_turn", "_law_letters", "_law_value_z", "_law_lamps_z", "_law_word", "_law_lit", "_law_good", "_law_odd", "_law_told", "_law_k"] "law" (defScope s_law) f cdv A outer s H E).nox (turnB.drop 3) t3 ∧
      ∀ (D : Ends) (B L : Addr) (σ : L2.St) (H1 : Hp), LawAt a B L σ H1 → (∀ σ' H', LawAt a B L σ' H' → D.nx σ' H') → t3 D σ H1 := by
    refine ⟨_, (pss_cons (ps_set (i := 5) sc_law.nd rfl (Or.inr rfl) (pe_call G_l_lamps (hr.mono (by decide)) (by rfl) g_l_lamps F_l_lamps.kp b_l_lamps .nil pass0 (pa_cons (pv 1) (pa_cons pe_int pa_nil)))) (pss_cons (ps_set (i := 6) sc_law.nd rfl (Or.inl rfl) (pe_join pe_str (pe_lc (own := [("_law_k", 11)]) (g := gName 11) (tt := tYes) rfl sc_law.nd (pi_range1 (by rfl) m_range (pa_cons (pe_call G_l_pull (hr.mono (by decide)) (by rfl) g_l_pull F_l_pull.kp b_l_pull .nil pass0 (pa_cons (pv 1) (pa_cons pe_int pa_nil))) pa_nil)) (blkOk_by (own := [("_law_k", 11)]) (N := ["_law_script", "_law_bag_here", "_law_turn", "_law_letters", "_law_value_z", "_law_lamps_z", "_law_word", "_law_lit", "_law_good", "_law_odd", "_law_told", "_law_k"]) (sc := defScope s_law) (by decide +kernel)) (fun _ _ _ _ _ => (pg_name (i := 11) sc_law.nd rfl (Or.inl rfl))) (fun _ _ _ _ _ => pts_nil) (fun _ _ _ _ _ => (pe_call G_l_of (hr.mono (by decide)) (by rfl) g_l_of F_l_of.kp b_l_of .nil pass0 (pa_cons (pv 1) (pa_cons (pe_op op_add_str (pv 5) pe_str) pa_nil))))))) (pss_cons (ps_for PassesOwn.never rfl (pi_list (pe_lst (pa_cons (pv 6) (pa_cons (pe_call G_l_lits (hr.mono (by decide)) (by rfl) g_l_lits F_l_lits.kp b_l_lits .nil pass0 (pa_cons (pv 1) (pa_cons (pv 5) pa_nil))) (pa_cons (pv 5) (pa_cons (pe_revS (pv 5)) (pa_cons pe_str pa_nil))))))) (pg_name (i := 7) sc_law.nd rfl (Or.inl rfl)) (pss_cons (ps_set (i := 8) sc_law.nd rfl (Or.inl rfl) (pe_call G_l_is_set (hr.mono (by decide)) (by rfl) g_l_is_set F_l_is_set.kp b_l_is_set .nil pass0 (pa_cons (pv 7) (pa_cons (pv 5) pa_nil)))) (pss_one (ps_if (pt_not (pt_val (pe_call G_l_same (hr.mono (by decide)) (by rfl) g_l_same F_l_same.kp b_l_same .nil pass0 (pa_cons (pe_lst (pa_cons (pe_call G_is_set (hr.mono (by decide)) (by rfl) g_is_set F_is_set.kp b_is_set .nil pass0 (pa_cons (pv 7) (pa_cons (pv 5) pa_nil))) (pa_cons (pe_callK0 G_is_set (hr.mono (by decide)) (by rfl) g_is_set F_is_set.kp kb_is_set pass0 (pk_cons (pv 7) (pk_cons (pv 5) pk_nil))) pa_nil))) (pa_cons (pe_lst (pa_cons (pv 8) (pa_cons (pv 8) pa_nil))) pa_nil))))) (pss_one (ps_ret pe_bl)) pss_nil)))) (pss_cons (ps_set (i := 9) sc_law.nd rfl (Or.inl rfl) (pe_call G_l_of (hr.mono (by decide)) (by rfl) g_l_of F_l_of.kp b_l_of .nil pass0 (pa_cons (pv 1) (pa_cons (pe_lst (pa_cons pe_non (pa_cons pe_int (pa_cons pe_bl (pa_cons (pe_lst (pa_cons pe_str pa_nil)) (pa_cons (pe_tup (pa_cons pe_str pa_nil)) (pa_cons pe_str (pa_cons pe_str (pa_cons pe_str (pa_cons pe_str (pa_cons (pe_tup pa_nil) pa_nil))))))))))) pa_nil)))) (pss_one (ps_if (pt_not (pt_val (pe_call G_l_same (hr.mono (by decide)) (by rfl) g_l_same F_l_same.kp b_l_same .nil pass0 (pa_cons (pe_lst (pa_cons (pe_call G_is_lamps (hr.mono (by decide)) (by rfl) g_is_lamps F_is_lamps.kp b_is_lamps .nil pass0 (pa_cons (pv 9) pa_nil)) (pa_cons (pe_call G_is_set (hr.mono (by decide)) (by rfl) g_is_set F_is_set.kp b_is_set .nil pass0 (pa_cons (pv 9) (pa_cons (pv 5) pa_nil))) pa_nil))) (pa_cons (pe_lst (pa_cons pe_bl (pa_cons pe_bl pa_nil))) pa_nil))))) (pss_one (ps_ret pe_bl)) pss_nil)))))), fun D B L σ H1 hA hD => ?_⟩
    obtain ⟨y2, y3, y4, y5, y6, y7, y8, y9, y10, y11, rfl, hB⟩ := hA
    -- the lamps
    refine ⟨.ref B, rfl, B, L, rfl, hB, fun H2 z sm2 hb2 hz => ?_⟩
    obtain ⟨zl, z0⟩ := nine_len z hz
    have hzl : z.length = z.cps.toList.length := (Array.length_toList).symm
    have hzs : z.length ≤ sizeLine := Nat.le_of_lt (small1000 (by omega))
    -- the word
    refine ⟨⟨_, rfl⟩, .ref B, rfl, B, L, 5, rfl, hb2, by decide, by decide, fun H3 r sm3 hb3 r0 r1 => ⟨r, rfl, by omega, by omega, fun Da nD => lc_range (lo := 0) (n := r.toNat) (fun i H' => SameB B H3 H' ∧ Bag H' B L ∧ ∃ cs : List Nat, cs.length = i ∧ H' Da = some (.lst ((cs.map sgn).map V.str))) ⟨Same.toB (same_new nD), hb3.same (same_new nD), [], rfl, upd_same⟩ (fun i H4 hi h => ?_) (fun H4 h => ?_)⟩⟩
    · obtain ⟨sm4, hb4, cs, hcs, eD⟩ := h
      have nDB : Da ≠ B := hb3.neB nD
      have hq : (z ++ ("q" : Str)).cps.toList.length = z.cps.toList.length + 1 := by
        rw [app_cps, List.length_append]
        rfl
      refine ⟨rfl, yes ⟨.ref B, rfl, .str z, rfl, z, "q", rfl, rfl, ?_, B, L, .str (z ++ ("q" : Str)), rfl, hb4, .inl ⟨_, rfl, by omega, by omega, fun H5 c sm5 hb5 hc => ⟨_, sm5 _ _ nDB eD, ?_, ?_, hb5.upd nDB (hb3.neL nD), cs ++ [c], ?_, ?_⟩⟩⟩⟩
      · show z.length + 1 ≤ sizeLine
        exact Nat.le_of_lt (small1000 (by omega))
      · rw [List.length_map, List.length_map]
        exact small1000 (by omega)
      · intro b o n e
        rw [upd_ne (ne_of_none e nD)]
        exact (sm4.trans sm5) _ _ n e
      · rw [List.length_append, hcs]
        rfl
      · rw [upd_same, List.map_append, List.map_append]
        rfl
    obtain ⟨sm4, hb4, cs, hcs, eD⟩ := h
    refine ⟨"", Da, cs.map sgn, rfl, rfl, .inl (SqL.of eD), ?_, ?_⟩
    · rw [ones_sum _ (sgn_ones cs), List.length_map]
      show cs.length + cs.length * 0 ≤ _
      omega
    have hw : (Txt.join "" (cs.map sgn)).cps.toList.length ≤ 1000 := by
      rw [ones_join _ (sgn_ones cs), List.length_map]
      omega
    generalize Txt.join "" (cs.map sgn) = wd at hw
    -- the five texts
    refine ⟨.str wd, rfl, .ref B, rfl, .str z, rfl, B, L, z, rfl, hb4, by omega, fun H5 y sm5 hb5 hy => ⟨.str z, rfl, .str z, rfl, z, rfl, hzs, (show 5 ≤ sizeLine by decide), fun p np => ?_⟩⟩
    have hy2 : y.cps.toList.length ≤ 1000 := by
      have := hy.length_le
      omega
    have hr2 : (revS z).cps.toList.length ≤ 1000 := by
      have h1 := revS_len z
      have h2 : (revS z).length = (revS z).cps.toList.length := (Array.length_toList).symm
      omega
    have all5 : ∀ u ∈ [wd, y, z, revS z, ""], u.cps.toList.length ≤ 1000 := by
      intro u hu
      simp only [List.mem_cons, List.not_mem_nil, or_false] at hu
      rcases hu with rfl | rfl | rfl | rfl | rfl
      · exact hw
      · exact hy2
      · omega
      · exact hr2
      · decide
    refine ⟨p, rfl, ⟨_, SqL.of upd_same⟩, for_list (xs := [wd, y, z, revS z, ""].map V.str) (fun _ σ H' => (∃ x2 x3 x4 x6 x7 x8 x9 x10 x11, σ = [some (.ref a), some (.ref B), x2, x3, x4, some (.str z), x6, x7, x8, x9, x10, x11]) ∧ Bag H' B L ∧ H' p = some (.lst ([wd, y, z, revS z, ""].map V.str)))
      ⟨⟨_, _, _, _, _, _, _, _, _, rfl⟩, hb5.same (same_new np), upd_same⟩ (fun i σ H' _ h => SqL.of h.2.2) (fun i x σ H6 hx h => ?_) (fun σ H6 h => ?_)⟩
    · obtain ⟨⟨x2, x3, x4, x6, x7, x8, x9, x10, x11, rfl⟩, hb6, ep⟩ := h
      obtain ⟨u, hu, rfl⟩ := List.mem_map.mp (List.mem_of_getElem? hx)
      have hu2 := all5 u hu
      refine ⟨.str u, rfl, .str z, rfl, u, z, rfl, hu2, fun H7 s7 => ?_⟩
      rw [set_same hz]
      refine ⟨.str u, rfl, .str z, rfl, .str u, z, rfl, .inl ⟨u, rfl, hu2, fun H8 s8 => ⟨.str u, rfl, .str z, rfl, .str u, z, rfl, .inl ⟨u, rfl, hu2, fun H9 s9 => ⟨(show 2 ≤ sizeLine by decide), fun p1 np1 => ⟨_, rfl, _, rfl, (show 2 ≤ sizeLine by decide), fun p2 np2 => ?_⟩⟩⟩⟩⟩⟩
      generalize (asc u.cps.toList && within u.cps.toList z.cps.toList) = g at np2 ⊢
      have sA := s7.trans (s8.trans (s9.trans ((same_new np1).trans (same_new (o := .lst [.bl g, .bl g]) np2))))
      refine ⟨.ref p1, .ref p2, .list [.bool g, .bool g], rfl, dk_two g g, .lst (SqL.of (same_new np2 _ _ upd_same)) (.cons (.bl _) (.cons (.bl _) .nil)), .lst (SqL.of upd_same) (.cons (.bl _) (.cons (.bl _) .nil)), fun H10 s10 => ⟨true, rfl, iteF ?_⟩⟩
      exact ⟨⟨_, _, _, _, _, _, _, _, _, rfl⟩, (hb6.same sA).same s10, s10 _ _ (sA _ _ ep)⟩
    obtain ⟨⟨x2, x3, x4, x6, x7, x8, x9, x10, x11, rfl⟩, hb6, ep⟩ := h
    -- a value that is none
    refine ⟨.ref B, rfl, (show 1 ≤ sizeLine by decide), fun q1 n1 => ⟨(show 1 ≤ sizeLine by decide), fun q2 n2 => ⟨(show 0 ≤ sizeLine by decide), fun q3 n3 => ⟨(show 10 ≤ sizeLine by decide), fun q4 n4 => ?_⟩⟩⟩⟩
    have s1 := same_new (o := .lst [.str "a"]) n1
    have s2 := same_new (o := .tup [.str "a"]) n2
    have s3 := same_new (o := .tup []) n3
    have s4 := same_new (o := .lst [.non, .int 3, .bl true, .ref q1, .ref q2, .str "A", .str "a b", .str "1", .str "aB", .ref q3]) n4
    have hb7 := (((hb6.same s1).same s2).same s3).same s4
    refine ⟨B, L, .ref q4, rfl, hb7, .inr ⟨q4, _, rfl, (((hb6.same s1).same s2).same s3).neB n4, SqL.of upd_same, (show 0 < 10 by decide), (show 10 < 1000 by decide), fun H7 v sm7 hb7 hv => ?_⟩⟩
    have hv2 : (∃ u ∈ odds, v = .str u) ∨ ∀ H8, Same H7 H8 → NoText K H8 v := by
      simp only [List.mem_cons, List.not_mem_nil, or_false] at hv
      rcases hv with rfl | rfl | rfl | rfl | rfl | rfl | rfl | rfl | rfl | rfl
      · exact .inr fun H8 _ => ⟨"NoneType", .base .non, by decide +kernel⟩
      · exact .inr fun H8 _ => ⟨"int", .base (.int 3), by decide +kernel⟩
      · exact .inr fun H8 _ => ⟨"bool", .base (.bl true), by decide +kernel⟩
      · exact .inr fun H8 s8 => ⟨"list", .base (.lst (s8 _ _ (sm7 _ _ (hb6.neB n1) (s4 _ _ (s3 _ _ (s2 _ _ upd_same)))))), by decide +kernel⟩
      · exact .inr fun H8 s8 => ⟨"tuple", .base (.tup (s8 _ _ (sm7 _ _ ((hb6.same s1).neB n2) (s4 _ _ (s3 _ _ upd_same))))), by decide +kernel⟩
      · exact .inl ⟨_, by decide, rfl⟩
      · exact .inl ⟨_, by decide, rfl⟩
      · exact .inl ⟨_, by decide, rfl⟩
      · exact .inl ⟨_, by decide, rfl⟩
      · exact .inr fun H8 s8 => ⟨"tuple", .base (.tup (s8 _ _ (sm7 _ _ (((hb6.same s1).same s2).neB n3) (s4 _ _ upd_same)))), by decide +kernel⟩
    rcases hv2 with ⟨u, hu, rfl⟩ | no
    · have hu2 : u.cps.toList.length ≤ 1000 := (show ∀ u ∈ odds, u.cps.toList.length ≤ 1000 by decide +kernel) u hu
      refine ⟨.str u, rfl, .str u, rfl, .inl ⟨u, rfl, hu2, fun H8 s8 => ⟨.str u, rfl, .str z, rfl, .str u, z, rfl, .inl ⟨u, rfl, hu2, fun H9 s9 => ⟨(show 2 ≤ sizeLine by decide), fun p1 np1 => ⟨(show 2 ≤ sizeLine by decide), fun p2 np2 => ?_⟩⟩⟩⟩⟩⟩
      rw [odd_lamps u hu, odd_set z hz u hu] at *
      have sA := s8.trans (s9.trans ((same_new np1).trans (same_new (o := .lst [.bl false, .bl false]) np2)))
      refine ⟨.ref p1, .ref p2, .list [.bool false, .bool false], rfl, dk_two _ _, .lst (SqL.of (same_new np2 _ _ upd_same)) (.cons (.bl _) (.cons (.bl _) .nil)), .lst (SqL.of upd_same) (.cons (.bl _) (.cons (.bl _) .nil)), fun H10 s10 => ⟨true, rfl, iteF ?_⟩⟩
      exact hD _ _ ⟨_, _, _, _, _, _, _, _, _, _, rfl, (hb7.same sA).same s10⟩
    · refine ⟨v, rfl, v, rfl, .inr ⟨no _ (Same.refl _), v, rfl, .str z, rfl, v, z, rfl, .inr ⟨no _ (Same.refl _), (show 2 ≤ sizeLine by decide), fun p1 np1 => ⟨(show 2 ≤ sizeLine by decide), fun p2 np2 => ?_⟩⟩⟩⟩
      have sA := (same_new (o := .lst [.bl false, .bl false]) np1).trans (same_new (o := .lst [.bl false, .bl false]) np2)
      refine ⟨.ref p1, .ref p2, .list [.bool false, .bool false], rfl, dk_two _ _, .lst (SqL.of (same_new np2 _ _ upd_same)) (.cons (.bl _) (.cons (.bl _) .nil)), .lst (SqL.of upd_same) (.cons (.bl _) (.cons (.bl _) .nil)), fun H10 s10 => ⟨true, rfl, iteF ?_⟩⟩
      exact hD _ _ ⟨_, _, _, _, _, _, _, _, _, _, rfl, (hb7.same sA).same s10⟩
  obtain ⟨t2, h2, r2⟩ : ∃ t2, PSs (cxOf CX0 P w K mg base ["_law_script", "_law_bag_here", "_law_turn", "_law_letters", "_law_value_z", "_law_lamps_z", "_law_word", "_law_lit", "_law_good", "_law_odd", "_law_told", "_law_k"] "law" (defScope s_law) f cdv A outer s H E).nox (turnB.drop 2) t2 ∧
      ∀ (D : Ends) (B L : Addr) (y2 y3 y5 y6 y7 y8 y9 y10 y11 : Option V) (v : Str) (H1 : Hp), v.cps.toList.length ≤ 1000 → Bag H1 B L → (∀ σ' H', LawAt a B L σ' H' → D.nx σ' H') → t2 D [some (.ref a), some (.ref B), y2, y3, some (.str v), y5, y6, y7, y8, y9, y10, y11] H1 := by
    refine ⟨_, pss_cons (ps_if (pt_not (pt_val (pe_call G_l_same (hr.mono (by decide)) (by rfl) g_l_same F_l_same.kp b_l_same .nil pass0 (pa_cons (pe_call G_is_lamps (hr.mono (by decide)) (by rfl) g_is_lamps F_is_lamps.kp b_is_lamps .nil pass0 (pa_cons (pv 4) pa_nil)) (pa_cons (pe_and (pe_call G_l_rising (hr.mono (by decide)) (by rfl) g_l_rising F_l_rising.kp b_l_rising .nil pass0 (pa_cons (pv 4) pa_nil)) (pe_one (pe_chain op_le op_le pe_int (pe_callB call_len (by rfl) m_len PySem.boot_len (pa_cons (pv 4) pa_nil)) pe_int))) pa_nil))))) (pss_one (ps_ret pe_bl)) pss_nil) h3, fun D B L y2 y3 y5 y6 y7 y8 y9 y10 y11 v H1 hv hB hD => ?_⟩
    have hl : v.length = v.cps.toList.length := (Array.length_toList).symm
    have hs : v.length ≤ sizeLine := Nat.le_of_lt (small1000 (by omega))
    refine ⟨.str v, rfl, .str v, rfl, .inl ⟨v, rfl, hv, fun H2 s2 => ⟨.str v, rfl, v, rfl, hv, fun H3 s3 => ⟨rising v.cps.toList, rfl, ?_⟩⟩⟩⟩
    have el : lampish v.cps.toList = (rising v.cps.toList && (decide (1 ≤ v.cps.toList.length) && decide (v.cps.toList.length ≤ 4))) := by
      unfold lampish rising
      rw [Bool.and_comm (asc v.cps.toList)]
    have hB3 : Bag H3 B L := (hB.same s2).same s3
    cases er : rising v.cps.toList with
    | false =>
      have e0 : lampish v.cps.toList = false := by
        rw [el, er]
        rfl
      refine iteF ⟨.bl (lampish v.cps.toList), .bl false, .bool false, rfl, trivial, by rw [e0]; exact .bl _, .bl _, fun H4 s4 => ⟨true, rfl, iteF ?_⟩⟩
      exact r3 D B L _ H4 ⟨_, _, _, _, _, _, _, _, _, _, rfl, hB3.same s4⟩ hD
    | true =>
      refine iteT ⟨.str v, rfl, .str v, v.length, rfl, ⟨hs, rfl⟩, 1, v.length, rfl, rfl, _, rfl, ite2 (fun e => ?_) (fun e => ?_)⟩
      · have e1 : decide (1 ≤ v.cps.toList.length) = true := decide_eq_true (by have := of_decide_eq_true e; omega)
        have e2 : decide ((v.length : Int) ≤ 4) = decide (v.cps.toList.length ≤ 4) := by
          rw [decide_eq_decide]
          omega
        have e0 : lampish v.cps.toList = decide ((v.length : Int) ≤ 4) := by
          rw [el, er, e1, e2]
          rfl
        refine ⟨v.length, 4, rfl, rfl, .bl (lampish v.cps.toList), .bl (decide ((v.length : Int) ≤ 4)), .bool (lampish v.cps.toList), rfl, trivial, .bl _, by rw [e0]; exact .bl _, fun H4 s4 => ⟨true, rfl, iteF ?_⟩⟩
        exact r3 D B L _ H4 ⟨_, _, _, _, _, _, _, _, _, _, rfl, hB3.same s4⟩ hD
      · have e1 : decide (1 ≤ v.cps.toList.length) = false := decide_eq_false fun c => e (decide_eq_true (by omega))
        have e0 : lampish v.cps.toList = false := by
          rw [el, er, e1]
          rfl
        refine ⟨.bl (lampish v.cps.toList), .bl false, .bool false, rfl, trivial, by rw [e0]; exact .bl _, .bl _, fun H4 s4 => ⟨true, rfl, iteF ?_⟩⟩
        exact r3 D B L _ H4 ⟨_, _, _, _, _, _, _, _, _, _, rfl, hB3.same s4⟩ hD
  refine ⟨_, pss_cons (ps_set (i := 1) sc_law.nd rfl (Or.inr rfl) (pe_call G_l_bag (hr.mono (by decide)) (by rfl) g_l_bag F_l_bag.kp b_l_bag .nil pass0 (pa_cons (pv 0) pa_nil))) (pss_cons (ps_for PassesOwn.never rfl (pi_range1 (by rfl) m_range (pa_cons pe_int pa_nil)) (pg_name (i := 2) sc_law.nd rfl (Or.inl rfl)) (pss_cons (ps_setLc (i := 3) (own := [("_law_k", 11)]) (g := gName 11) (tt := tYes) rfl sc_law.nd rfl rfl (sw_true rfl rfl rfl (by decide +kernel)) (pi_range1 (by rfl) m_range (pa_cons (pe_call G_l_pull (hr.mono (by decide)) (by rfl) g_l_pull F_l_pull.kp b_l_pull .nil pass0 (pa_cons (pv 1) (pa_cons pe_int pa_nil))) pa_nil)) (blkOk_by (own := [("_law_k", 11)]) (N := ["_law_script", "_law_bag_here", "_law_turn", "_law_letters", "_law_value_z", "_law_lamps_z", "_law_word", "_law_lit", "_law_good", "_law_odd", "_law_told", "_law_k"]) (sc := defScope s_law) (by decide +kernel)) (fun _ _ _ _ _ => (pg_name (i := 11) sc_law.nd rfl (Or.inl rfl))) (fun _ _ _ _ _ => pts_nil) (fun _ _ _ _ _ => (pe_call G_l_of (hr.mono (by decide)) (by rfl) g_l_of F_l_of.kp b_l_of .nil pass0 (pa_cons (pv 1) (pa_cons pe_str pa_nil))))) (pss_cons (ps_set (i := 4) sc_law.nd rfl (Or.inl rfl) (pe_join pe_str (pe_ifExp (pt_cmpR op_gt (pe_call G_l_pull (hr.mono (by decide)) (by rfl) g_l_pull F_l_pull.kp b_l_pull .nil pass0 (pa_cons (pv 1) (pa_cons pe_int pa_nil))) pe_int (nomark _)) (pe_callB cr_sortedS (by rfl) m_sorted (by decide +kernel) (pa_cons (pv 3) pa_nil)) (pv 3)))) h2))) (pss_cons (ps_set (i := 10) sc_law.nd rfl (Or.inl rfl) (pe_lst (pa_cons (pe_call G_is_lamps (hr.mono (by decide)) (by rfl) g_is_lamps F_is_lamps.kp b_is_lamps .nil pass0 (pa_cons pe_str pa_nil)) (pa_cons (pe_call G_is_lamps (hr.mono (by decide)) (by rfl) g_is_lamps F_is_lamps.kp b_is_lamps .nil pass0 (pa_cons pe_str pa_nil)) (pa_cons (pe_call G_is_lamps (hr.mono (by decide)) (by rfl) g_is_lamps F_is_lamps.kp b_is_lamps .nil pass0 (pa_cons pe_str pa_nil)) (pa_cons (pe_call G_is_lamps (hr.mono (by decide)) (by rfl) g_is_lamps F_is_lamps.kp b_is_lamps .nil pass0 (pa_cons pe_str pa_nil)) (pa_cons (pe_call G_is_lamps (hr.mono (by decide)) (by rfl) g_is_lamps F_is_lamps.kp b_is_lamps .nil pass0 (pa_cons pe_str pa_nil)) pa_nil))))))) (pss_one (ps_ret (pe_and (pe_cmpR (op_eqD hr.units) (pv 10) (pe_lst (pa_cons pe_bl (pa_cons pe_bl (pa_cons pe_bl (pa_cons pe_bl (pa_cons pe_bl pa_nil)))))) (nomark _)) (pe_one (pe_call G_is_set (hr.mono (by decide)) (by rfl) g_is_set F_is_set.kp b_is_set .nil pass0 (pa_cons pe_str (pa_cons pe_str pa_nil))))))))), ?_⟩
  refine ⟨.ref a, rfl, a, ns, rfl, hS, fun H1 B L s1 nB nL hB => ⟨8, rfl, by decide, by decide, for_range (n := 8) (fun _ σ H' => LawAt a B L σ H') ⟨_, _, _, _, _, _, _, _, _, _, rfl, hB⟩ (fun i σ H2 hi hA => ?_) (fun σ H2 hA => ?_)⟩⟩
  · obtain ⟨y2, y3, y4, y5, y6, y7, y8, y9, y10, y11, rfl, hB⟩ := hA
    -- the letters
    refine ⟨.ref B, rfl, B, L, 6, rfl, hB, by decide, by decide, fun H3 r sm3 hb3 r0 r1 => ⟨r, rfl, by omega, by omega, fun D nD => lc_range (lo := 0) (n := r.toNat) (fun i H' => SameB B H3 H' ∧ Bag H' B L ∧ ∃ cs : List Nat, cs.length = i ∧ H' D = some (.lst ((cs.map sgn).map V.str))) ⟨Same.toB (same_new nD), hb3.same (same_new nD), [], rfl, upd_same⟩ (fun i H4 hi h => ?_) (fun H4 h => ?_)⟩⟩
    · obtain ⟨sm4, hb4, cs, hcs, eD⟩ := h
      have nDB : D ≠ B := hb3.neB nD
      refine ⟨rfl, yes ⟨.ref B, rfl, B, L, .str az, rfl, hb4, .inl ⟨az, rfl, by decide, by decide, fun H5 c sm5 hb5 hc => ⟨_, sm5 _ _ nDB eD, ?_, ?_, hb5.upd nDB (hb3.neL nD), cs ++ [c], ?_, ?_⟩⟩⟩⟩
      · rw [List.length_map, List.length_map]
        exact small1000 (by omega)
      · intro b o n e
        rw [upd_ne (ne_of_none e nD)]
        exact (sm4.trans sm5) _ _ n e
      · rw [List.length_append, hcs]
        rfl
      · rw [upd_same, List.map_append, List.map_append]
        rfl
    · obtain ⟨sm4, hb4, cs, hcs, eD⟩ := h
      have nDB : D ≠ B := hb3.neB nD
      have hc5 : cs.length ≤ 5 := by omega
      refine ⟨⟨_, rfl⟩, .ref B, rfl, B, L, 3, rfl, hb4, by decide, by decide, fun H5 r sm5 hb5 r0 r1 => ⟨_, _, rfl, rfl, _, rfl, ite2 (fun e => ?_) (fun e => ?_)⟩⟩
      · refine ⟨.ref D, rfl, D, cs.map sgn, rfl, SqL.of (sm5 _ _ nDB eD), by rw [List.length_map]; omega, fun ys p perm srt np => ⟨"", p, ys, rfl, rfl, .inl (SqL.of upd_same), ?_, ?_⟩⟩
        · have h1 : ∀ y ∈ ys, y.cps.toList.length = 1 := fun y hy => sgn_ones cs y (perm.mem_iff.mp hy)
          have h2 := perm.length_eq
          rw [List.length_map] at h2
          rw [ones_sum ys h1]
          show ys.length + ys.length * 0 ≤ _
          omega
        · have h1 : ∀ y ∈ ys, y.cps.toList.length = 1 := fun y hy => sgn_ones cs y (perm.mem_iff.mp hy)
          have h2 := perm.length_eq
          rw [List.length_map] at h2
          exact r2 _ B L _ _ _ _ _ _ _ _ _ _ _ (by rw [ones_join ys h1]; omega) (hb5.same (same_new np)) fun σ' H' h => h
      · refine ⟨.ref D, rfl, "", D, cs.map sgn, rfl, rfl, .inl (SqL.of (sm5 _ _ nDB eD)), ?_, ?_⟩
        · rw [ones_sum _ (sgn_ones cs), List.length_map]
          show cs.length + cs.length * 0 ≤ _
          omega
        · exact r2 _ B L _ _ _ _ _ _ _ _ _ _ _ (by rw [ones_join _ (sgn_ones cs), List.length_map]; omega) hb5 fun σ' H' h => h
  · obtain ⟨y2, y3, y4, y5, y6, y7, y8, y9, y10, y11, rfl, hB⟩ := hA
    refine ⟨.str "ba", rfl, .inl ⟨"ba", rfl, by decide, fun H3 _ => ⟨.str "aa", rfl, .inl ⟨"aa", rfl, by decide, fun H4 _ => ⟨.str "abcd", rfl, .inl ⟨"abcd", rfl, by decide, fun H5 _ => ⟨.str "abcde", rfl, .inl ⟨"abcde", rfl, by decide, fun H6 _ => ⟨.str "", rfl, .inl ⟨"", rfl, by decide, fun H7 _ => ⟨(show 5 ≤ sizeLine by decide), fun p np => ?_⟩⟩⟩⟩⟩⟩⟩⟩⟩⟩⟩
    have l1 : lampish ("ba" : Str).cps.toList = false := by decide +kernel
    have l2 : lampish ("aa" : Str).cps.toList = false := by decide +kernel
    have l3 : lampish ("abcd" : Str).cps.toList = true := by decide +kernel
    have l4 : lampish ("abcde" : Str).cps.toList = false := by decide +kernel
    have l5 : lampish ("" : Str).cps.toList = false := by decide +kernel
    rw [l1, l2, l3, l4, l5]
    refine ⟨.ref p, rfl, (show 5 ≤ sizeLine by decide), fun p2 np2 => ⟨toldD, toldD, .lst (SqL.of (same_new np2 _ _ upd_same)) (.cons (.bl _) (.cons (.bl _) (.cons (.bl _) (.cons (.bl _) (.cons (.bl _) .nil))))), .lst (SqL.of upd_same) (.cons (.bl _) (.cons (.bl _) (.cons (.bl _) (.cons (.bl _) (.cons (.bl _) .nil))))), rfl, rfl, true, congrArg V.bl told_eqv, iteT ?_⟩⟩
    exact ⟨.str "", "a", rfl, .inl ⟨"", rfl, by decide, fun H8 _ => q H8⟩⟩
end
end Rg

set_option Elab.async false
set_option linter.all false
set_option maxRecDepth 100000
set_option maxHeartbeats 8500000
namespace Rg
open PySem PySem.Spec PyProof.Rows L2
theorem all_mk {l : PySem.W.OpenLaw} {w : World} {K : PySem.W.Frag} {h : Heap} {mg : Str → Option Value} {fa : Addr} (X : K.In h) (G : h.Ns mainGlobals mg) (hfa : mg "law" = some (.ref fa))
    {f0 : Addr} {od0 an0 : Option Addr} {sl0 : Array (Option Value)} {oc0 kV0 dc0 pm0 cd0 ct0 : Value}
    {f1 : Addr} {od1 an1 : Option Addr} {sl1 : Array (Option Value)} {oc1 kV1 dc1 pm1 cd1 ct1 : Value}
    {f2 : Addr} {od2 an2 : Option Addr} {sl2 : Array (Option Value)} {oc2 kV2 dc2 pm2 cd2 ct2 : Value}
    {f3 : Addr} {od3 an3 : Option Addr} {sl3 : Array (Option Value)} {oc3 kV3 dc3 pm3 cd3 ct3 : Value}
    {f4 : Addr} {od4 an4 : Option Addr} {sl4 : Array (Option Value)} {oc4 kV4 dc4 pm4 cd4 ct4 : Value}
    {f5 : Addr} {od5 an5 : Option Addr} {sl5 : Array (Option Value)} {oc5 kV5 dc5 pm5 cd5 ct5 : Value}
    {f6 : Addr} {od6 an6 : Option Addr} {sl6 : Array (Option Value)} {oc6 kV6 dc6 pm6 cd6 ct6 : Value}
    {f7 : Addr} {od7 an7 : Option Addr} {sl7 : Array (Option Value)} {oc7 kV7 dc7 pm7 cd7 ct7 : Value}
    {f8 : Addr} {od8 an8 : Option Addr} {sl8 : Array (Option Value)} {oc8 kV8 dc8 pm8 cd8 ct8 : Value}
    {f9 : Addr} {od9 an9 : Option Addr} {sl9 : Array (Option Value)} {oc9 kV9 dc9 pm9 cd9 ct9 : Value}
    {f10 : Addr} {od10 an10 : Option Addr} {sl10 : Array (Option Value)} {oc10 kV10 dc10 pm10 cd10 ct10 : Value}
    {f11 : Addr} {od11 an11 : Option Addr} {sl11 : Array (Option Value)} {oc11 kV11 dc11 pm11 cd11 ct11 : Value}
    {f12 : Addr} {od12 an12 : Option Addr} {sl12 : Array (Option Value)} {oc12 kV12 dc12 pm12 cd12 ct12 : Value}
    {f13 : Addr} {od13 an13 : Option Addr} {sl13 : Array (Option Value)} {oc13 kV13 dc13 pm13 cd13 ct13 : Value}
    {tk0 : Tok}
    {tk1 : Tok}
    (a0 : PySem.W.nsIn K mainGlobals "_law_bag" = some (some (.ref f0))) (l0 : K.lookup f0 = some ⟨oc0, od0, .func (PySem.W.fnOf "_law_bag" "_law_bag" (defArgs s_l_bag) (defBody s_l_bag) (defScope s_l_bag) .none kV0 dc0 pm0 an0 cd0 ct0), sl0⟩) (c0 : PySem.W.codeIn K cd0 "_law_bag" = true) (k0 : PySem.W.keepIn K (.ref f0) = true)
    (a1 : PySem.W.nsIn K mainGlobals "_law_pull" = some (some (.ref f1))) (l1 : K.lookup f1 = some ⟨oc1, od1, .func (PySem.W.fnOf "_law_pull" "_law_pull" (defArgs s_l_pull) (defBody s_l_pull) (defScope s_l_pull) .none kV1 dc1 pm1 an1 cd1 ct1), sl1⟩) (c1 : PySem.W.codeIn K cd1 "_law_pull" = true) (k1 : PySem.W.keepIn K (.ref f1) = true)
    (a2 : PySem.W.nsIn K mainGlobals "_law_of" = some (some (.ref f2))) (l2 : K.lookup f2 = some ⟨oc2, od2, .func (PySem.W.fnOf "_law_of" "_law_of" (defArgs s_l_of) (defBody s_l_of) (defScope s_l_of) .none kV2 dc2 pm2 an2 cd2 ct2), sl2⟩) (c2 : PySem.W.codeIn K cd2 "_law_of" = true) (k2 : PySem.W.keepIn K (.ref f2) = true)
    (a3 : PySem.W.nsIn K mainGlobals "_law_same" = some (some (.ref f3))) (l3 : K.lookup f3 = some ⟨oc3, od3, .func (PySem.W.fnOf "_law_same" "_law_same" (defArgs s_l_same) (defBody s_l_same) (defScope s_l_same) .none kV3 dc3 pm3 an3 cd3 ct3), sl3⟩) (c3 : PySem.W.codeIn K cd3 "_law_same" = true) (k3 : PySem.W.keepIn K (.ref f3) = true)
    (a4 : PySem.W.nsIn K mainGlobals "is_ascending" = some (some (.ref f4))) (l4 : K.lookup f4 = some ⟨oc4, od4, .func (PySem.W.fnOf "is_ascending" "is_ascending" (defArgs s_is_ascending) (defBody s_is_ascending) (defScope s_is_ascending) .none kV4 dc4 pm4 an4 cd4 ct4), sl4⟩) (c4 : PySem.W.codeIn K cd4 "is_ascending" = true) (k4 : PySem.W.keepIn K (.ref f4) = true)
    (a5 : PySem.W.nsIn K mainGlobals "is_within" = some (some (.ref f5))) (l5 : K.lookup f5 = some ⟨oc5, od5, .func (PySem.W.fnOf "is_within" "is_within" (defArgs s_is_within) (defBody s_is_within) (defScope s_is_within) .none kV5 dc5 pm5 an5 cd5 ct5), sl5⟩) (c5 : PySem.W.codeIn K cd5 "is_within" = true) (k5 : PySem.W.keepIn K (.ref f5) = true)
    (a6 : PySem.W.nsIn K mainGlobals "is_set" = some (some (.ref f6))) (l6 : K.lookup f6 = some ⟨oc6, od6, .func (PySem.W.fnOf "is_set" "is_set" (defArgs s_is_set) (defBody s_is_set) (defScope s_is_set) .none kV6 dc6 pm6 an6 cd6 ct6), sl6⟩) (c6 : PySem.W.codeIn K cd6 "is_set" = true) (k6 : PySem.W.keepIn K (.ref f6) = true)
    (a7 : PySem.W.nsIn K mainGlobals "is_lamps" = some (some (.ref f7))) (l7 : K.lookup f7 = some ⟨oc7, od7, .func (PySem.W.fnOf "is_lamps" "is_lamps" (defArgs s_is_lamps) (defBody s_is_lamps) (defScope s_is_lamps) .none kV7 dc7 pm7 an7 cd7 ct7), sl7⟩) (c7 : PySem.W.codeIn K cd7 "is_lamps" = true) (k7 : PySem.W.keepIn K (.ref f7) = true)
    (a8 : PySem.W.nsIn K mainGlobals "_law_within" = some (some (.ref f8))) (l8 : K.lookup f8 = some ⟨oc8, od8, .func (PySem.W.fnOf "_law_within" "_law_within" (defArgs s_l_within) (defBody s_l_within) (defScope s_l_within) .none kV8 dc8 pm8 an8 cd8 ct8), sl8⟩) (c8 : PySem.W.codeIn K cd8 "_law_within" = true) (k8 : PySem.W.keepIn K (.ref f8) = true)
    (a9 : PySem.W.nsIn K mainGlobals "_law_rising" = some (some (.ref f9))) (l9 : K.lookup f9 = some ⟨oc9, od9, .func (PySem.W.fnOf "_law_rising" "_law_rising" (defArgs s_l_rising) (defBody s_l_rising) (defScope s_l_rising) .none kV9 dc9 pm9 an9 cd9 ct9), sl9⟩) (c9 : PySem.W.codeIn K cd9 "_law_rising" = true) (k9 : PySem.W.keepIn K (.ref f9) = true)
    (a10 : PySem.W.nsIn K mainGlobals "_law_is_set" = some (some (.ref f10))) (l10 : K.lookup f10 = some ⟨oc10, od10, .func (PySem.W.fnOf "_law_is_set" "_law_is_set" (defArgs s_l_is_set) (defBody s_l_is_set) (defScope s_l_is_set) .none kV10 dc10 pm10 an10 cd10 ct10), sl10⟩) (c10 : PySem.W.codeIn K cd10 "_law_is_set" = true) (k10 : PySem.W.keepIn K (.ref f10) = true)
    (a11 : PySem.W.nsIn K mainGlobals "_law_lamps" = some (some (.ref f11))) (l11 : K.lookup f11 = some ⟨oc11, od11, .func (PySem.W.fnOf "_law_lamps" "_law_lamps" (defArgs s_l_lamps) (defBody s_l_lamps) (defScope s_l_lamps) .none kV11 dc11 pm11 an11 cd11 ct11), sl11⟩) (c11 : PySem.W.codeIn K cd11 "_law_lamps" = true) (k11 : PySem.W.keepIn K (.ref f11) = true)
    (a12 : PySem.W.nsIn K mainGlobals "_law_lits" = some (some (.ref f12))) (l12 : K.lookup f12 = some ⟨oc12, od12, .func (PySem.W.fnOf "_law_lits" "_law_lits" (defArgs s_l_lits) (defBody s_l_lits) (defScope s_l_lits) .none kV12 dc12 pm12 an12 cd12 ct12), sl12⟩) (c12 : PySem.W.codeIn K cd12 "_law_lits" = true) (k12 : PySem.W.keepIn K (.ref f12) = true)
    (a13 : PySem.W.nsIn K mainGlobals "law" = some (some (.ref f13))) (l13 : K.lookup f13 = some ⟨oc13, od13, .func (PySem.W.fnOf "law" "law" (defArgs s_law) (defBody s_law) (defScope s_law) .none kV13 dc13 pm13 an13 cd13 ct13), sl13⟩) (c13 : PySem.W.codeIn K cd13 "law" = true) (k13 : PySem.W.keepIn K (.ref f13) = true)
    (z0 : PySem.W.nsIn K mainGlobals "len" = some none)
    (z1 : PySem.W.nsIn K mainGlobals "abs" = some none)
    (z2 : PySem.W.nsIn K mainGlobals "int" = some none)
    (z3 : PySem.W.nsIn K mainGlobals "list" = some none)
    (z4 : PySem.W.nsIn K mainGlobals "isinstance" = some none)
    (z5 : PySem.W.nsIn K mainGlobals "bool" = some none)
    (z6 : PySem.W.nsIn K mainGlobals "tuple" = some none)
    (z7 : PySem.W.nsIn K mainGlobals "str" = some none)
    (z8 : PySem.W.nsIn K mainGlobals "all" = some none)
    (z9 : PySem.W.nsIn K mainGlobals "zip" = some none)
    (z10 : PySem.W.nsIn K mainGlobals "range" = some none)
    (z11 : PySem.W.nsIn K mainGlobals "sorted" = some none)
    (q0 : PySem.W.nsIn K mainGlobals "LETTERS" = some (some (.str az tk0)))
    (q1 : PySem.W.nsIn K mainGlobals "MOST_LAMPS" = some (some (.int 4 tk1))) :
    ∃ fd : FuncData, (∀ (s : Shared) (v : Value), BindsTo s fd ⟨[v], []⟩ [("_law_script", v)]) ∧ ∀ base : Heap, K.In base → base.Ns mainGlobals mg → FnOk l.prog w K mg base CX0 4 fa fd ["_law_script"] (sp_law K) := by
  have e := hfa.symm.trans (PySem.W.mg_of X G a13)
  cases e
  have F_l_bag := fun_mk (st := s_l_bag) l0 c0 k0
  have g_l_bag := PySem.W.mg_of X G a0
  have b_l_bag := F_l_bag.binds (ps := ["_law_script"]) fun _ _ _ _ _ _ us hl => match us, hl with | [_], _ => rfl
  have F_l_pull := fun_mk (st := s_l_pull) l1 c1 k1
  have g_l_pull := PySem.W.mg_of X G a1
  have b_l_pull := F_l_pull.binds (ps := ["_law_bag_here", "_law_many"]) fun _ _ _ _ _ _ us hl => match us, hl with | [_, _], _ => rfl
  have F_l_of := fun_mk (st := s_l_of) l2 c2 k2
  have g_l_of := PySem.W.mg_of X G a2
  have b_l_of := F_l_of.binds (ps := ["_law_bag_here", "_law_some"]) fun _ _ _ _ _ _ us hl => match us, hl with | [_, _], _ => rfl
  have F_l_same := fun_mk (st := s_l_same) l3 c3 k3
  have g_l_same := PySem.W.mg_of X G a3
  have b_l_same := F_l_same.binds (ps := ["_law_found", "_law_due"]) fun _ _ _ _ _ _ us hl => match us, hl with | [_, _], _ => rfl
  have F_is_ascending := fun_mk (st := s_is_ascending) l4 c4 k4
  have g_is_ascending := PySem.W.mg_of X G a4
  have b_is_ascending := F_is_ascending.binds (ps := ["text"]) fun _ _ _ _ _ _ us hl => match us, hl with | [_], _ => rfl
  have F_is_within := fun_mk (st := s_is_within) l5 c5 k5
  have g_is_within := PySem.W.mg_of X G a5
  have b_is_within := F_is_within.binds (ps := ["one", "other"]) fun _ _ _ _ _ _ us hl => match us, hl with | [_, _], _ => rfl
  have F_is_set := fun_mk (st := s_is_set) l6 c6 k6
  have g_is_set := PySem.W.mg_of X G a6
  have b_is_set := F_is_set.binds (ps := ["value", "lamps"]) fun _ _ _ _ _ _ us hl => match us, hl with | [_, _], _ => rfl
  have F_is_lamps := fun_mk (st := s_is_lamps) l7 c7 k7
  have g_is_lamps := PySem.W.mg_of X G a7
  have b_is_lamps := F_is_lamps.binds (ps := ["value"]) fun _ _ _ _ _ _ us hl => match us, hl with | [_], _ => rfl
  have F_l_within := fun_mk (st := s_l_within) l8 c8 k8
  have g_l_within := PySem.W.mg_of X G a8
  have b_l_within := F_l_within.binds (ps := ["_law_one", "_law_other"]) fun _ _ _ _ _ _ us hl => match us, hl with | [_, _], _ => rfl
  have F_l_rising := fun_mk (st := s_l_rising) l9 c9 k9
  have g_l_rising := PySem.W.mg_of X G a9
  have b_l_rising := F_l_rising.binds (ps := ["_law_value_z"]) fun _ _ _ _ _ _ us hl => match us, hl with | [_], _ => rfl
  have F_l_is_set := fun_mk (st := s_l_is_set) l10 c10 k10
  have g_l_is_set := PySem.W.mg_of X G a10
  have b_l_is_set := F_l_is_set.binds (ps := ["_law_value_z", "_law_lamps_z"]) fun _ _ _ _ _ _ us hl => match us, hl with | [_, _], _ => rfl
  have F_l_lamps := fun_mk (st := s_l_lamps) l11 c11 k11
  have g_l_lamps := PySem.W.mg_of X G a11
  have b_l_lamps := F_l_lamps.binds (ps := ["_law_bag_here", "_law_most"]) fun _ _ _ _ _ _ us hl => match us, hl with | [_, _], _ => rfl
  have F_l_lits := fun_mk (st := s_l_lits) l12 c12 k12
  have g_l_lits := PySem.W.mg_of X G a12
  have b_l_lits := F_l_lits.binds (ps := ["_law_bag_here", "_law_lamps_z"]) fun _ _ _ _ _ _ us hl => match us, hl with | [_, _], _ => rfl
  have F_law := fun_mk (st := s_law) l13 c13 k13
  have g_law := PySem.W.mg_of X G a13
  have m_len := PySem.W.mg_none_of X G z0
  have m_abs := PySem.W.mg_none_of X G z1
  have m_int := PySem.W.mg_none_of X G z2
  have m_list := PySem.W.mg_none_of X G z3
  have m_isinstance := PySem.W.mg_none_of X G z4
  have m_bool := PySem.W.mg_none_of X G z5
  have m_tuple := PySem.W.mg_none_of X G z6
  have m_str := PySem.W.mg_none_of X G z7
  have m_all := PySem.W.mg_none_of X G z8
  have m_zip := PySem.W.mg_none_of X G z9
  have m_range := PySem.W.mg_none_of X G z10
  have m_sorted := PySem.W.mg_none_of X G z11
  have c_LETTERS := PySem.W.mg_of X G q0
  have c_MOST_LAMPS := PySem.W.mg_of X G q1
  refine ⟨PySem.W.fnOf "law" "law" (defArgs s_law) (defBody s_law) (defScope s_law) .none kV13 dc13 pm13 an13 cd13 ct13, fun s v => .of_eq rfl, fun base _ _ => ?_⟩
  have G_l_bag := ok_bag (k := 0) (P := l.prog) (w := w) (mg := mg) (base := base) F_l_bag m_list
  have G_l_pull := ok_pull (k := 0) (P := l.prog) (w := w) (mg := mg) (base := base) F_l_pull m_len m_abs m_int
  have G_l_of := ok_of (k := 0) (P := l.prog) (w := w) (mg := mg) (base := base) F_l_of F_l_pull b_l_pull g_l_pull G_l_pull m_len
  have G_l_same := ok_same (P := l.prog) (w := w) (mg := mg) (base := base) F_l_same b_l_same g_l_same m_isinstance m_bool m_list m_tuple m_int m_str m_len m_all m_zip 2
  have G_is_ascending := ok_asc (k := 0) (P := l.prog) (w := w) (mg := mg) (base := base) F_is_ascending m_len m_all m_range
  have G_is_within := ok_within (k := 0) (P := l.prog) (w := w) (mg := mg) (base := base) F_is_within m_all
  have G_is_set := ok_set (k := 0) (P := l.prog) (w := w) (mg := mg) (base := base) F_is_set F_is_ascending b_is_ascending g_is_ascending G_is_ascending F_is_within b_is_within g_is_within G_is_within m_isinstance m_str
  have G_is_lamps := ok_lamps (k := 0) (P := l.prog) (w := w) (mg := mg) (base := base) F_is_lamps F_is_set b_is_set g_is_set G_is_set c_LETTERS c_MOST_LAMPS m_len
  have G_l_within := ok_lwithin (k := 0) (P := l.prog) (w := w) (mg := mg) (base := base) F_l_within m_all
  have G_l_rising := ok_rising (k := 0) (P := l.prog) (w := w) (mg := mg) (base := base) F_l_rising m_all m_zip
  have G_l_is_set := ok_lset (k := 0) (P := l.prog) (w := w) (mg := mg) (base := base) F_l_is_set F_l_rising b_l_rising g_l_rising G_l_rising F_l_within b_l_within g_l_within G_l_within m_isinstance m_str
  have G_l_lamps := ok_llamps (k := 0) (P := l.prog) (w := w) (mg := mg) (base := base) F_l_lamps F_l_of b_l_of g_l_of G_l_of
  have G_l_lits := ok_lits (k := 0) (P := l.prog) (w := w) (mg := mg) (base := base) F_l_lits F_l_pull b_l_pull g_l_pull G_l_pull
  exact ok_law F_law F_l_bag b_l_bag g_l_bag G_l_bag F_l_pull b_l_pull g_l_pull G_l_pull F_l_of b_l_of g_l_of G_l_of F_l_same b_l_same g_l_same G_l_same F_is_set b_is_set g_is_set G_is_set F_is_lamps b_is_lamps g_is_lamps G_is_lamps F_l_is_set b_l_is_set g_l_is_set G_l_is_set F_l_rising b_l_rising g_l_rising G_l_rising F_l_lamps b_l_lamps g_l_lamps G_l_lamps F_l_lits b_l_lits g_l_lits G_l_lits m_len m_range m_sorted
end Rg
open PySem PySem.W PyProof.Rows
set_option maxHeartbeats 0 in
theorem PySem.Challenge.cw_relitgoals_k01_lamps_and_sets_holds : PySem.Challenge.rw_relitgoals_k01_lamps_and_sets.Holds := by
  w_on; o_law; k_head; (case hw => w_witness2)
  k_fill
  refine L2.walk_of (l := PySem.Challenge.rw_relitgoals_k01_lamps_and_sets) (n := 63) (k := 4) (x := "_law_script") (CX := fun _ => L2.CX0) (sp := fun w => Rg.sp_law _) rfl (by decide) rfl ⟨rfl, by decide, by decide⟩ (fun w h Y => PySem.W.kIn_of Y) ?F (fun _ _ a ns hl _ hS => ⟨a, ns, rfl, hS, hl, fun _ => rfl⟩) (fun _ _ _ _ _ h => h)
  case F =>
    intro w mg fa h KX G hmg
    refine' Rg.all_mk KX G hmg ?a0 ?l0 ?c0 ?k0 ?a1 ?l1 ?c1 ?k1 ?a2 ?l2 ?c2 ?k2 ?a3 ?l3 ?c3 ?k3 ?a4 ?l4 ?c4 ?k4 ?a5 ?l5 ?c5 ?k5 ?a6 ?l6 ?c6 ?k6 ?a7 ?l7 ?c7 ?k7 ?a8 ?l8 ?c8 ?k8 ?a9 ?l9 ?c9 ?k9 ?a10 ?l10 ?c10 ?k10 ?a11 ?l11 ?c11 ?k11 ?a12 ?l12 ?c12 ?k12 ?a13 ?l13 ?c13 ?k13 ?z0 ?z1 ?z2 ?z3 ?z4 ?z5 ?z6 ?z7 ?z8 ?z9 ?z10 ?z11 ?q0 ?q1
    (case a0 => k_is); (case l0 => k_is); (case c0 => k_is); (case k0 => k_is); (case a1 => k_is); (case l1 => k_is); (case c1 => k_is); (case k1 => k_is); (case a2 => k_is); (case l2 => k_is); (case c2 => k_is); (case k2 => k_is); (case a3 => k_is); (case l3 => k_is); (case c3 => k_is); (case k3 => k_is); (case a4 => k_is); (case l4 => k_is); (case c4 => k_is); (case k4 => k_is); (case a5 => k_is); (case l5 => k_is); (case c5 => k_is); (case k5 => k_is); (case a6 => k_is); (case l6 => k_is); (case c6 => k_is); (case k6 => k_is); (case a7 => k_is); (case l7 => k_is); (case c7 => k_is); (case k7 => k_is); (case a8 => k_is); (case l8 => k_is); (case c8 => k_is); (case k8 => k_is); (case a9 => k_is); (case l9 => k_is); (case c9 => k_is); (case k9 => k_is); (case a10 => k_is); (case l10 => k_is); (case c10 => k_is); (case k10 => k_is); (case a11 => k_is); (case l11 => k_is); (case c11 => k_is); (case k11 => k_is); (case a12 => k_is); (case l12 => k_is); (case c12 => k_is); (case k12 => k_is); (case a13 => k_is); (case l13 => k_is); (case c13 => k_is); (case k13 => k_is); (case z0 => k_is); (case z1 => k_is); (case z2 => k_is); (case z3 => k_is); (case z4 => k_is); (case z5 => k_is); (case z6 => k_is); (case z7 => k_is); (case z8 => k_is); (case z9 => k_is); (case z10 => k_is); (case z11 => k_is); (case q0 => k_is); (case q1 => k_is)
