import PyProof.Rows.All
import Wide.All
import OpenK.AllK
import Wide.FinOn
import HandS.ForMost
import HandS.Flow
import HandS.Wide
import HandS.Walk
import KE.GoesMore
import HandS.OwnEq
import PyProof.InstNe
import PyProof.NeKinds
import PyProof.IsRules
import HandS.Strs
import HandS.IsInst
import HandS.TupAny
import HandS.Defaults
import HandS.MakeKw
import HandS.ExcInit
import HandS.ExcField
import HandS.WordsExc
import HandS.Exc
import HandS.TryMany
import HandS.RaiseMore
import HandS.Lambda
import HandS.EndTab
import HandS.ExcOwn
import PyProof.P3In
import HandS.Deep
import HandS.TupLen
import HandS.DictTup
import HandS.Conv
import HandS.Style
import KE.KDictDisplayH
import HandS.Zip
import HandS.TupMul
import PySem.Challenge.RW_betweenlooks_k05_states_that_rows_part
set_option Elab.async false
set_option maxRecDepth 100000
namespace K1
open PySem L2
def top (i : Nat) : Stmt := PySem.Challenge.pw_betweenlooks_k05_states_that_rows_part.main.body.getD i (.Pass ⟨0, 0, 0, 0⟩)
abbrev sPen : Stmt := top 40
abbrev sDraw : Stmt := top 41
abbrev sPick : Stmt := top 42
abbrev sWords : Stmt := top 43
/-! the pen: a dict of three -/
abbrev kCells : Key := Sum.inr "cells"
abbrev kAt : Key := Sum.inr "at"
abbrev kLeft : Key := Sum.inr "left"
theorem n_ca : ¬ (kCells = kAt) := by decide +kernel
theorem n_cl : ¬ (kCells = kLeft) := by decide +kernel
theorem n_al : ¬ (kAt = kLeft) := by decide +kernel
theorem n_la : ¬ (kLeft = kAt) := by decide +kernel
theorem n_ac : ¬ (kAt = kCells) := by decide +kernel
theorem n_lc : ¬ (kLeft = kCells) := by decide +kernel
def penK (c : Addr) (a l : Int) : List (Key × V) := [(kCells, .ref c), (kAt, .int a), (kLeft, .int l)]
theorem penK_cells (c : Addr) (a l : Int) : valV (penK c a l) kCells = some (.ref c) := valV_pos rfl
theorem penK_at (c : Addr) (a l : Int) : valV (penK c a l) kAt = some (.int a) := by
  unfold penK; rw [valV_neg n_ca]; exact valV_pos rfl
theorem penK_left (c : Addr) (a l : Int) : valV (penK c a l) kLeft = some (.int l) := by
  unfold penK; rw [valV_neg n_cl, valV_neg n_al]; exact valV_pos rfl
theorem penK_put_at (c : Addr) (a l b : Int) : putK (penK c a l) kAt (.int b) = penK c b l := by
  have h1 : ¬ (("cells" : Str) = "at") := by decide +kernel
  have h2 : ¬ (("left" : Str) = "at") := by decide +kernel
  unfold penK putK; simp [h1, h2]
theorem penK_put_left (c : Addr) (a l b : Int) : putK (penK c a l) kLeft (.int b) = penK c a b := by
  have h1 : ¬ (("cells" : Str) = "left") := by decide +kernel
  have h2 : ¬ (("at" : Str) = "left") := by decide +kernel
  unfold penK putK; simp [h1, h2]
/-- at d stands a pen that was drawn from at most n times -/
def PenAt (H : Hp) (d c : Addr) (n : Nat) : Prop := ∃ (ns : List Int) (a l : Int), H d = some (.dK (penK c a l)) ∧ H c = some (.lst (ns.map V.int)) ∧ ns.length ≤ 63 ∧ 0 ≤ a ∧ a ≤ n
/-- all but d is kept -/
def Kept (d : Addr) (H H' : Hp) : Prop := ∀ b o, H b = some o → b ≠ d → H' b = some o
theorem Kept.refl (d : Addr) (H : Hp) : Kept d H H := fun _ _ e _ => e
theorem Kept.trans {d : Addr} {H H1 H2 : Hp} (a : Kept d H H1) (b : Kept d H1 H2) : Kept d H H2 := fun c o e n => b c o (a c o e n) n
theorem Kept.same {d : Addr} {H H1 : Hp} (a : Same H H1) : Kept d H H1 := fun c o e _ => a c o e
theorem same_upd {H : Hp} {p : Addr} {o : HO} (h : H p = none) : Same H (upd H p o) := fun b u e => by rw [upd_ne (ne_of_none e h)]; exact e
theorem PenAt.mono {H : Hp} {d c : Addr} {n m : Nat} (h : PenAt H d c n) (l : n ≤ m) : PenAt H d c m := by
  obtain ⟨ns, a, x, h1, h2, h3, h4, h5⟩ := h
  exact ⟨ns, a, x, h1, h2, h3, h4, by omega⟩
theorem PenAt.same {H H' : Hp} {d c : Addr} {n : Nat} (h : PenAt H d c n) (s : Same H H') : PenAt H' d c n := by
  obtain ⟨ns, a, x, h1, h2, h3⟩ := h
  exact ⟨ns, a, x, s _ _ h1, s _ _ h2, h3⟩
theorem PenAt.ne {H : Hp} {d c D : Addr} {n : Nat} (h : PenAt H d c n) (z : H D = none) : D ≠ d ∧ D ≠ c := by
  obtain ⟨ns, a, x, h1, h2, h3⟩ := h
  exact ⟨(ne_of_none h1 z).symm, (ne_of_none h2 z).symm⟩
theorem PenAt.upd {H : Hp} {d c D : Addr} {n : Nat} {o : HO} (h : PenAt H d c n) (n1 : D ≠ d) (n2 : D ≠ c) : PenAt (upd H D o) d c n := by
  obtain ⟨ns, a, x, h1, h2, h3⟩ := h
  exact ⟨ns, a, x, by rw [upd_ne n1.symm]; exact h1, by rw [upd_ne n2.symm]; exact h2, h3⟩
theorem Kept.upd {d D : Addr} {H0 H : Hp} {o : HO} (k : Kept d H0 H) (h : H0 D = none) : Kept d H0 (upd H D o) := fun b u e nb => by
  rw [upd_ne (ne_of_none e h)]; exact k b u e nb
theorem Kept.free {d c : Addr} {H H' : Hp} {n : Nat} (k : Kept d H H') (p : PenAt H' d c n) {l : Addr} (h : H' l = none) : H l = none := by
  cases q : H l with
  | none => rfl
  | some o =>
    by_cases e : l = d
    · obtain ⟨ns, a, x, h1, _⟩ := p
      subst e; rw [h] at h1; cases h1
    · have := k l o q e; rw [h] at this; cases this
theorem penK_len (c : Addr) (a l : Int) : (penK c a l).length < sizeLine := by show 3 < sizeLine; decide
theorem dp_ints {K : PySem.W.Frag} {H : Hp} : ∀ ns : List Int, DpAll K H (ns.map V.int) (ns.map PyData.int)
  | [] => .nil
  | n :: r => .cons (.int n) (dp_ints r)
theorem canLay_ints : ∀ ns : List Int, PyData.canLayAll0 (ns.map PyData.int) = true
  | [] => rfl
  | n :: r => by simp [PyData.canLayAll0, PyData.canLay0, canLay_ints r]
theorem eqv_ints_nil (ns : List Int) : PyData.eqv (.list (ns.map PyData.int)) (.list []) = ns.isEmpty := by
  cases ns <;> simp [PyData.eqv, PyData.eqvAll]
theorem shaped_ints (ns : List Int) : SeqAt.shaped (.list (ns.map PyData.int)) = true := by
  have h : ∀ ns : List Int, PyData.depthAll (ns.map PyData.int) ≤ 1 := by
    intro ns
    induction ns with
    | nil => decide
    | cons n r ih => simp only [List.map_cons, PyData.depthAll, PyData.depth]; omega
  have h1 := h ns
  unfold SeqAt.shaped
  rw [PyData.canLay0, canLay_ints, PyData.depth]
  simp only [Bool.true_and, decide_eq_true_eq]
  omega
theorem map_get {ns : List Int} {j : Nat} (h : j < ns.length) : (ns.map V.int)[j]? = some (V.int (ns.getD j 0)) := by
  simp [List.getElem?_eq_getElem h, h]
theorem fmod_nat {a m : Int} (hm : 0 < m) : ∃ j : Nat, a.fmod m = (j : Int) ∧ (j : Int) < m := by
  have h1 := Int.fmod_nonneg_of_pos a hm
  have h2 := Int.fmod_lt_of_pos a hm
  exact ⟨(a.fmod m).toNat, by omega, by omega⟩
theorem fmod_bd {a m : Int} (hm : 0 < m) (hM : m ≤ 2147483648) : -(2 ^ 64) < a.fmod m ∧ a.fmod m < 2 ^ 64 := by
  have h1 := Int.fmod_nonneg_of_pos a hm
  have h2 := Int.fmod_lt_of_pos a hm
  exact ⟨by omega, by omega⟩
structure Bt (mg : Str → Option Value) : Prop where
  int : mg "int" = none
  len : mg "len" = none
  list : mg "list" = none
  range : mg "range" = none
  tuple : mg "tuple" = none
/-- draw: r below many; the pen has been drawn from once more; all else is kept -/
def spDraw : Sp := fun vs H Q _ => ∃ (d c : Addr) (n : Nat) (many : Int), vs = [.ref d, .int many] ∧ PenAt H d c n ∧ n ≤ 1000000 ∧ 0 < many ∧ many < 1073741824 ∧
  ∀ (r : Int) (H' : Hp), 0 ≤ r → r < many → PenAt H' d c (n + 1) → Kept d H H' → Q (.int r) H'
section
variable {P : Program} {w : World} {K : PySem.W.Frag} {mg : Str → Option Value} {base : Heap}
theorem scDraw : FnScope ["_law_pen_here", "_law_many", "_law_digit", "_law_at", "_law_cell", "_law_mixed"] ["_law_pen_here", "_law_many"] (defScope sDraw) := ⟨rfl, rfl, rfl, by decide +kernel, rfl, by decide +kernel, by decide +kernel⟩
theorem ok_draw {f : Addr} {fd : FuncData} (F : Fun K "_law_draw" "_law_draw" sDraw f fd) (T : Bt mg) : FnOk P w K mg base CX0 1 f fd ["_law_pen_here", "_law_many"] spDraw := by
  refine F.ok scDraw (fun vs H Q E h => ?_) (fun cdv A outer s H vs Q E hr h => ?_)
  · obtain ⟨d, c, n, many, rfl, _⟩ := h
    rfl
  · obtain ⟨d, c, n, many, rfl, ⟨ns, a, l, hd, hc, hns, ha0, ha1⟩, hn, hm0, hm1, k⟩ := h
    have hu := hu_of hr
    have ncd : c ≠ d := ne_of hc hd (by intro z; cases z)
    have gL : DGet H d (.str "left") (some (.int l)) := by have := DGet.k (k := kLeft) hd; rw [penK_left] at this; exact this
    refine ⟨_, pss_cons (ps_if (pt_cmpR op_ge (pe_dget hu (pv 0) pe_str (fun _ _ => rfl)) (pv 1) (nomark _))
        (pss_cons (ps_set (i := 2) scDraw.nd rfl (Or.inl rfl) (pe_op op_modN (pe_callTy call_int1 (by rfl) T.int (by decide +kernel) (pa_cons (pe_dget hu (pv 0) pe_str (fun _ _ => rfl)) pa_nil)) (pv 1)))
        (pss_cons (ps_dput hu (pv 0) pe_str (pe_op op_fdivN (pe_dget hu (pv 0) pe_str (fun _ _ => rfl)) (pv 1)) rfl)
        (pss_one (ps_ret (pv 2))))) pss_nil)
      (pss_cons (ps_set (i := 3) scDraw.nd rfl (Or.inl rfl) (pe_dget hu (pv 0) pe_str (fun _ _ => rfl)))
      (pss_cons (ps_dput hu (pv 0) pe_str (pe_op op_add (pv 3) pe_int) rfl)
      (pss_cons (ps_set (i := 4) scDraw.nd rfl (Or.inl rfl) (pe_op op_add (pe_op op_mul pe_int (pv 3)) pe_int))
      (pss_cons (ps_if (pt_cmpR (op_neD hr.units) (pe_dget hu (pv 0) pe_str (fun _ _ => rfl)) (pe_lst pa_nil) (nomark _))
          (pss_one (ps_set (i := 4) scDraw.nd rfl (Or.inl rfl) (pe_ix ix_list (pe_dget hu (pv 0) pe_str (fun _ _ => rfl)) (pe_op op_modN (pe_callTy call_int1 (by rfl) T.int (by decide +kernel) (pa_cons (pv 3) pa_nil)) (pe_callB call_len (by rfl) T.len PySem.boot_len (pa_cons (pe_dget hu (pv 0) pe_str (fun _ _ => rfl)) pa_nil))) (fun _ _ => rfl)))) pss_nil)
      (pss_cons (ps_if (PW.pt (pw_and (pt_cmpR op_lt (pv 3) (pe_callB call_len (by rfl) T.len PySem.boot_len (pa_cons (pe_dget hu (pv 0) pe_str (fun _ _ => rfl)) pa_nil)) (nomark _)) (pw_and1 (pt_cmpR op_ge (pv 4) (pe_op op_pow pe_int pe_int) (nomark _)))))
          (pss_cons (ps_dput hu (pv 0) pe_str (pe_op op_fdivN (pe_op op_sub (pv 4) (pe_op op_pow pe_int pe_int)) (pv 1)) rfl)
          (pss_one (ps_ret (pe_op op_modN (pe_callTy call_int1 (by rfl) T.int (by decide +kernel) (pa_cons (pe_op op_sub (pv 4) (pe_op op_pow pe_int pe_int)) pa_nil)) (pv 1))))) pss_nil)
      (pss_cons (ps_set (i := 5) scDraw.nd rfl (Or.inl rfl) (pe_op op_add (pe_op op_add (pe_op op_add (pe_op op_mul (pe_op op_modN (pe_callTy call_int1 (by rfl) T.int (by decide +kernel) (pa_cons (pv 4) pa_nil)) pe_int) pe_int) (pe_op op_mul (pe_op op_mul pe_int (pv 3)) (pv 3))) (pe_op op_mul pe_int (pv 3))) pe_int))
      (pss_cons (ps_set (i := 5) scDraw.nd rfl (Or.inl rfl) (pe_op op_modN (pe_callTy call_int1 (by rfl) T.int (by decide +kernel) (pa_cons (pv 5) pa_nil)) pe_int))
      (pss_cons (ps_set (i := 5) scDraw.nd rfl (Or.inl rfl) (pe_op op_modN (pe_callTy call_int1 (by rfl) T.int (by decide +kernel) (pa_cons (pe_op op_mul (pv 5) (pe_op op_add (pv 5) pe_int)) pa_nil)) pe_int))
      (pss_one (ps_ret (pe_op op_modN (pe_callTy call_int1 (by rfl) T.int (by decide +kernel) (pa_cons (pe_op op_fdivN (pe_op op_modN (pe_callTy call_int1 (by rfl) T.int (by decide +kernel) (pa_cons (pe_op op_mul (pv 5) (pv 5)) pa_nil)) pe_int) pe_int) pa_nil)) (pv 1)))))))))))), ?_⟩
    -- pen['left'] >= many
    refine ⟨_, rfl, d, _, rfl, gL, _, rfl, _, _, rfl, rfl, _, rfl, ?_⟩
    refine ite2 (fun _ => ?_) (fun _ => ?_)
    · refine ⟨_, rfl, d, _, rfl, gL, .inl ⟨_, rfl, ?_⟩⟩
      refine ⟨_, rfl, _, _, rfl, rfl, (by omega), ?_⟩
      refine ⟨_, rfl, d, _, rfl, gL, _, rfl, _, _, rfl, rfl, ⟨by omega, by omega⟩, ?_⟩
      refine ⟨_, rfl, d, _, rfl, DPut.k (k := kLeft) hd (penK_len _ _ _), ?_⟩
      refine ⟨_, rfl, ?_⟩
      refine k _ _ (Int.fmod_nonneg_of_pos _ hm0) (Int.fmod_lt_of_pos _ hm0) ⟨ns, a, l.fdiv many, ?_, ?_, hns, ha0, by omega⟩ ?_
      · rw [upd_same, penK_put_left]
      · rw [upd_ne ncd]; exact hc
      · intro b o e nb; rw [upd_ne nb]; exact e
    · have gA : DGet H d (.str "at") (some (.int a)) := by have := DGet.k (k := kAt) hd; rw [penK_at] at this; exact this
      refine ⟨_, rfl, d, _, rfl, gA, ?_⟩
      refine ⟨_, rfl, _, _, rfl, rfl, _, rfl, d, _, rfl, DPut.k (k := kAt) hd (penK_len _ _ _), ?_⟩
      rw [penK_put_at]
      have hd1 : upd H d (.dK (penK c (a + 1) l)) d = some (.dK (penK c (a + 1) l)) := upd_same
      have hc1 : upd H d (.dK (penK c (a + 1) l)) c = some (.lst (ns.map V.int)) := by rw [upd_ne ncd]; exact hc
      have kp1 : Kept d H (upd H d (.dK (penK c (a + 1) l))) := fun b o e nb => by rw [upd_ne nb]; exact e
      generalize upd H d (.dK (penK c (a + 1) l)) = H1 at hd1 hc1 kp1 ⊢
      refine ⟨_, rfl, _, _, rfl, rfl, .inl ⟨by decide, by decide⟩, _, _, rfl, rfl, ?_⟩
      have gC1 : DGet H1 d (.str "cells") (some (.ref c)) := by have := DGet.k (k := kCells) hd1; rw [penK_cells] at this; exact this
      refine ⟨_, rfl, d, _, rfl, gC1, Nat.zero_le _, fun q hq => ?_⟩
      have sm : Same H1 (upd H1 q (.lst [])) := same_upd hq
      have hq1 : upd H1 q (.lst []) q = some (.lst []) := upd_same
      have hd2 := sm _ _ hd1
      have hc2 := sm _ _ hc1
      have kp2 : Kept d H (upd H1 q (.lst [])) := kp1.trans (.same sm)
      generalize upd H1 q (.lst []) = H2 at hq1 hd2 hc2 kp2 ⊢
      have gC2 : DGet H2 d (.str "cells") (some (.ref c)) := by have := DGet.k (k := kCells) hd2; rw [penK_cells] at this; exact this
      refine ⟨_, _, .lst (SqL.of hc2) (dp_ints ns), .lst (SqL.of hq1) .nil, shaped_ints ns, by decide +kernel, _, rfl, ?_⟩
      rw [eqv_ints_nil]
      have len2 : LenV K (.ref c) H2 ns.length := .inl ⟨_, SqL.of hc2, (List.length_map _).symm⟩
      have hpos : (!ns.isEmpty) = true → 0 < ns.length := fun hne => by
        cases ns with
        | nil => cases hne
        | cons _ _ => exact Nat.succ_pos _
      have hix : (!ns.isEmpty) = true → atI (ns.map V.int) (a.fmod (ns.length : Int)) = some (V.int (ns.getD (a.fmod (ns.length : Int)).toNat 0)) := fun hne => by
        have hp := hpos hne
        obtain ⟨j, ej, hj⟩ := fmod_nat (a := a) (m := (ns.length : Int)) (by omega)
        rw [ej]
        exact atI_nat (map_get (by omega))
      refine ite2 (fun hne => ⟨_, rfl, d, _, rfl, gC2, _, rfl, .inl ⟨_, rfl, ⟨_, rfl, d, _, rfl, gC2, _, _, rfl, len2, _, _, rfl, rfl, (by have := hpos hne; omega), c, _, _, _, rfl, rfl, SqL.of hc2, hix hne, ?_⟩⟩⟩) (fun _ => ?_)
      all_goals
        refine ⟨_, rfl, _, rfl, d, _, rfl, gC2, _, _, rfl, len2, _, _, rfl, rfl, _, rfl, ?_⟩
        have fin : ∀ (H3 : Hp) (l' : Int) (r : Int), H3 d = some (.dK (penK c (a + 1) l')) → H3 c = some (.lst (ns.map V.int)) → Kept d H H3 → Q (.int (r.fmod many)) H3 := fun H3 l' r e1 e2 e3 =>
          k _ _ (Int.fmod_nonneg_of_pos _ hm0) (Int.fmod_lt_of_pos _ hm0) ⟨ns, a + 1, l', e1, e2, hns, by omega, by omega⟩ e3
        refine ite2 (fun _ => ⟨_, rfl, _, _, rfl, rfl, ⟨by decide, by decide, by decide⟩, _, _, rfl, rfl, _, rfl, ite2 (fun _ => ?_) (fun _ => ?_)⟩) (fun _ => ?_)
        ·
          refine ⟨_, rfl, _, _, rfl, rfl, ⟨by decide, by decide, by decide⟩, _, _, rfl, rfl, _, rfl, _, _, rfl, rfl, ⟨by omega, by omega⟩, _, rfl, d, _, rfl, DPut.k (k := kLeft) hd2 (penK_len _ _ _), ?_⟩
          rw [penK_put_left]
          refine ⟨_, rfl, _, _, rfl, rfl, ⟨by decide, by decide, by decide⟩, _, _, rfl, rfl, .inl ⟨_, rfl, ?_⟩⟩
          refine ⟨_, rfl, _, _, rfl, rfl, (by omega), ?_⟩
          refine fin _ _ _ upd_same (by rw [upd_ne ncd]; exact hc2) (fun b o e nb => by rw [upd_ne nb]; exact kp2 b o e nb)
        all_goals
          refine ⟨_, rfl, .inl ⟨_, rfl, ?_⟩⟩
          refine ⟨_, _, rfl, rfl, (by omega), ?_⟩
          refine ⟨_, _, rfl, rfl, .inr ⟨by decide, by decide⟩, ?_⟩
          refine ⟨_, rfl, _, _, rfl, rfl, .inl ⟨by decide, by decide⟩, _, rfl, _, _, rfl, rfl, .inr ⟨by omega, by omega⟩, ?_⟩
          refine ⟨_, _, rfl, rfl, _, rfl, _, _, rfl, rfl, .inl ⟨by decide, by decide⟩, ?_⟩
          refine ⟨_, _, rfl, rfl, _, _, rfl, rfl, ?_⟩
          -- mixed = int(mixed) % 2147483647
          refine ⟨_, rfl, .inl ⟨_, rfl, ?_⟩⟩
          refine ⟨_, _, rfl, rfl, (by omega), ?_⟩
          refine ⟨_, rfl, _, rfl, _, _, rfl, rfl, _, _, rfl, rfl, .inl (fmod_bd (by decide) (by decide)), .inl ⟨_, rfl, ?_⟩⟩
          refine ⟨_, _, rfl, rfl, (by omega), ?_⟩
          refine ⟨_, rfl, _, rfl, _, _, rfl, rfl, .inl (fmod_bd (by decide) (by decide)), .inl ⟨_, rfl, ?_⟩⟩
          refine ⟨_, _, rfl, rfl, (by omega), _, _, rfl, rfl, ⟨by decide, by decide⟩, .inl ⟨_, rfl, ?_⟩⟩
          refine ⟨_, rfl, _, _, rfl, rfl, (by omega), ?_⟩
          exact fin _ _ _ hd2 hc2 kp2
end
end K1
set_option Elab.async false
set_option linter.all false
set_option maxRecDepth 100000
namespace EO
open PySem
open AutoSeq1 (wpAny_loadPart')
set_option maxHeartbeats 1000000 in
theorem meets_enumerate_newT (l : Addr) (items : Array Value) (n : Nat) (dct : Option Addr) (sl : Array (Option Value)) :
    Meets (Builtin.«enumerate.__new__» ⟨[.type "enumerate", .ref l], []⟩) (fun _ R s => s.heap.get? l = some { cls := .type "tuple", dict := dct, data := .seq items n, slots := sl } ∧
      R (.ok (.ret (.ref (s.heap.push { cls := .type "tuple_iterator", data := .fields #[.ref l, .int 0 0] }).objs.size)))
        { s with heap := (s.heap.push { cls := .type "tuple_iterator", data := .fields #[.ref l, .int 0 0] }).push { cls := .type "enumerate", data := .fields #[.none, .bool false, .ref s.heap.objs.size, rawInt 0, .none, .none] } }) :=
  .of_wp fun prog w A R s h => by
    obtain ⟨hp, g, d, tk, os⟩ := s; obtain ⟨hl, h⟩ := h
    have hsub := sub_enumerate
    have hL : Heap.IsTuple (Shared.heap ⟨hp, g, d, tk, os⟩) l items := ⟨_, hl, rfl, n, rfl⟩
    wp_walk using wpAny_loadPart' hl
    refine wpAny_stack_any fun st => wpAny_pure ?_
    split
    · rename_i c _ _ _ _ _
      cases (c == Value.type "enumerate")
      · wp_walk using wpAny_loadPart' hl, wpAny_pyIter_tuple hL
        exact ⟨_, rfl, h⟩
      · wp_walk using wpAny_loadPart' hl, wpAny_pyIter_tuple hL
        exact ⟨_, rfl, h⟩
    · wp_walk using wpAny_loadPart' hl, wpAny_pyIter_tuple hL
      exact ⟨_, rfl, h⟩
section
variable {prog : Program} {w : World} {A : Around} {E : Value → Shared → Prop} {s : Shared}
theorem call_enumerate_tuple {l : Addr} {items : Array Value} {Q : Value → Shared → Prop} (hL : s.heap.IsTuple l items)
    (h : ∀ h', IsEnum h' (s.heap.objs.size + 1) s.heap.objs.size 0 .none → h'.IsTupleIter s.heap.objs.size l 0 → h'.objs.size = s.heap.objs.size + 2 →
      (∀ b o, s.heap.get? b = some o → h'.get? b = some o) → Q (.ref (s.heap.objs.size + 1)) { s with heap := h' }) :
    wpAny (model prog w) A (call (.type "enumerate") [.ref l]) Q E s := by
  obtain ⟨⟨c, dct, dt, sl⟩, hl, hc, n, hd⟩ := hL
  replace hc : c = .type "tuple" := hc
  replace hd : dt = .seq items n := hd
  subst hc hd
  refine callType_new F.called_enumerate (by decide) (F.typeCall_enumerate_1 _) (F.newCall_enumerate_1 _) (fun obj => F.args_object_init_2 obj _) F.entry_enumerate_new
    (meets_enumerate_newT l items n dct sl) ⟨hl, ?_⟩
  have hz : (s.heap.push { cls := .type "tuple_iterator", data := .fields #[.ref l, .int 0 0] }).objs.size = s.heap.objs.size + 1 := Heap.size_push ..
  show _ ∧ _
  rw [hz]
  have he : IsEnum ((s.heap.push { cls := .type "tuple_iterator", data := .fields #[.ref l, .int 0 0] }).push
      { cls := .type "enumerate", data := .fields #[.none, .bool false, .ref s.heap.objs.size, rawInt 0, .none, .none] }) (s.heap.objs.size + 1) s.heap.objs.size 0 .none := by
    have := Heap.get?_push_size (s.heap.push { cls := .type "tuple_iterator", data := .fields #[.ref l, .int 0 0] })
      (o := { cls := .type "enumerate", data := .fields #[.none, .bool false, .ref s.heap.objs.size, rawInt 0, .none, .none] }) rfl
    rw [hz] at this; exact this
  refine ⟨⟨_, he, rfl⟩, h _ he ⟨_, Heap.get?_push_of_some _ (Heap.get?_push_size _ rfl), rfl, rfl⟩ (by rw [Heap.size_push, hz]) fun b o x => Heap.get?_push_of_some _ (Heap.get?_push_of_some _ x)⟩
theorem enumT_end {e it t : Addr} {i : Nat} {k : Int} {items : Array Value} {old : Value} {Q : Option Value → Shared → Prop} (hh : A.handled = none)
    (he : IsEnum s.heap e it k old) (hit : s.heap.IsTupleIter it t i) (ht : s.heap.IsTuple t items) (hx : items[i]? = none)
    (hQ : ∀ h', Heap.ExtBut it s.heap h' → Q none { s with heap := h' }) : wpAny (model prog w) A (pyNext (.ref e)) Q E s := by
  have hT : s.TypeIs (.ref e) "enumerate" := ⟨_, he, rfl⟩
  unfold pyNext
  refine wpAny_bind (wpAny_attempt (wpAny_callSpecial?_slot (name := Str.ofString "__next__") hT F.slot_enumerate_next
    (wpAny_call_entry F.slot_enumerate_next hT F.entry_enumerate_next ?_ (F.args_enumerate_next_1 _))))
  show wpAny _ _ (field (.ref e) 2 >>= _) _ _ _
  refine wpAny_bind (wpAny_field he rfl (x := .ref it) rfl ?_)
  refine wpAny_bind (wpAny_nextOf_tuple_end hh hit ht hx fun h' x he' hx' => ?_)
  obtain ⟨o, ho, hc⟩ := hx'
  refine wpAny_bind (wpAny_isInstance (T := "StopIteration") (b := true) ⟨o, ho, hc⟩ isSubtype_stop ?_)
  exact wpAny_pure (hQ _ he')
end
end EO
namespace L2
open PySem PySem.Spec PyProof.Rows
/-! ### enumerate(tuple) -/
def IteT (K : PySem.W.Frag) (a : Addr) : It :=
  ⟨fun i H => ∃ (xs : List V) (x : V), SqT K H a xs ∧ xs[i]? = some x, fun i H v H' => ∃ T x, v = .ref T ∧ H T = none ∧ H' = upd H T (.tup [.int (i : Nat), x]) ∧ ∀ xs, SqT K H a xs → xs[i]? = some x, fun i H => ∃ xs : List V, SqT K H a xs ∧ xs.length ≤ i⟩
theorem turn_enumT {P : Program} {w : World} {K : PySem.W.Frag} {elts : List Expr} {kk : Nat} {tpos : Pos} (a e it : Addr) :
    Turn P w K (.Tuple elts kk tpos) (IteT K a) [e, it] e (fun i h => (∃ old, IsEnum h e it ((i : Nat) : Int) old) ∧ h.IsTupleIter it a i ∧ e ≠ it) where
  mem := by simp
  obj := fun i h st b hb => by
    obtain ⟨⟨old, he⟩, ⟨o, ho, hc, hd⟩, _⟩ := st
    have e' : b = e ∨ b = it := by simpa using hb
    rcases e' with z | z
    · rw [z]; exact ⟨_, he, fun v q => nomatch q⟩
    · rw [z]; exact ⟨o, ho, fun v q => by rw [hd] at q; cases q⟩
  keep := fun i h h' st k => let ⟨⟨old, he⟩, hi, hne⟩ := st; ⟨⟨old, k e (by simp) _ he⟩, hi.at fun o q => k it (by simp) o q, hne⟩
  item := by
    intro X hP hw hK hc i pins s σ H E I hf st hg
    subst hP hw hK
    obtain ⟨⟨old, he⟩, hit, hne⟩ := st
    obtain ⟨xs, x, hq, hx⟩ := hg
    obtain ⟨its, rv, p, hz⟩ := I.tuple hq
    obtain ⟨u, hu, ru⟩ := rv.get hx
    have hil' : i < its.length := (List.getElem?_eq_some_iff.mp hu).1
    have hel : e < s.heap.objs.size := Heap.lt_size he
    have hil : it < s.heap.objs.size := by obtain ⟨_, q, _⟩ := hit; exact Heap.lt_size q
    have hai : a ≠ it := by
      intro z
      obtain ⟨o1, q1, c1, _⟩ := p
      obtain ⟨o2, q2, c2, _⟩ := hit
      rw [z, q2] at q1; cases q1; rw [c2] at c1; exact absurd c1 (by simp)
    have hea : e ≠ a := by
      intro z
      obtain ⟨o1, q1, c1, _⟩ := p
      rw [← z] at q1
      have q2 := he
      unfold IsEnum at q2
      rw [q1] at q2; cases q2; exact absurd c1 (by simp)
    refine wpAny_pyNext_enum_itemD (Draws.tuple (A := X.A.in1) (I.ok.hd hc) it a hai its.toArray) he ⟨hit, p⟩ (by simpa using hil') hne (by simp [hne, hea]) fun y h' tk hy ho hit' hT hsz hk => ?_
    have hyu : y = u := by
      have : its.toArray[i]? = some u := by simpa using hu
      rw [this] at hy; exact (Option.some.inj hy).symm
    subst hyu
    refine ⟨_, rfl, wpAny_letOwnedTupleGo_enum (s := { s with heap := h', toks := tk + 1 }) ho fun h'' he' sb => ?_⟩
    have hT2 : h''.get? s.heap.objs.size = some { cls := .type "tuple", data := .seq #[.int i tk, y] } := (sb.2 _ (Nat.ne_of_gt hel)).trans hT
    have new : ObjOk X.prog X.w (upd H s.heap.objs.size (.tup [.int (i : Nat), x])) h'' s.heap.objs.size (.tup [.int (i : Nat), x]) :=
      ⟨by show 2 ≤ sizeLine; decide, [.int i tk, y], .cons ⟨_, rfl⟩ (.cons ru .nil), ⟨_, hT2, rfl, _, rfl⟩⟩
    have I1 : Inv X pins σ (upd H s.heap.objs.size (.tup [.int (i : Nat), x])) { s with heap := h'', toks := tk + 1 } :=
      I.turnedNew (ch := [e, it]) (fun b ob hb q => (sb.2 b (fun z => hb (by simp [z]))).trans (hk b ob (fun z => hb (by simp [z])) (fun z => hb (by simp [z])) q)) hf (Nat.le_refl _) new
    refine ⟨.ref s.heap.objs.size, _, I1, rfl, ⟨_, x, rfl, I.hok.fresh (Nat.le_refl _), rfl, fun ys hy => by rw [I.tuple_inj hy hq]; exact hx⟩, ⟨⟨y, ?_⟩, hit'.1.at fun o q => (sb.2 it (Ne.symm hne)).trans q, hne⟩, fun b hb => ?_⟩
    · have e1 : ((i + 1 : Nat) : Int) = (i : Int) + 1 := by omega
      rw [e1]; exact he'
    · have hb' : b < s.heap.objs.size := by
        have e' : b = e ∨ b = it := by simpa using hb
        rcases e' with z | z
        · rw [z]; exact hel
        · rw [z]; exact hil
      rw [upd_ne (Nat.ne_of_lt hb')]
      exact (hf b hb).1
  done := by
    intro X hP hw hK hc i pins s σ H E I hf st hg
    subst hP hw hK
    obtain ⟨⟨old, he⟩, hit, hne⟩ := st
    obtain ⟨xs, hq, hx⟩ := hg
    obtain ⟨its, rv, p, hz⟩ := I.tuple hq
    obtain ⟨f0, f1, f2, f3, f4, f5⟩ := hf it (by simp)
    have hl := rv.length
    exact EO.enumT_end (I.ok.hd hc) he hit p (by simp; omega) fun h' eb => ⟨rfl, I.turned (t' := s.toks) (fun b o hb q => eb b o hb q) f0 f1 f3 f4 f5⟩
  self := fun A i s Q E st h => let ⟨⟨_, he⟩, _⟩ := st; wpAny_pyIter_enum he h
def iEnumT (K : PySem.W.Frag) (ta : TA) : TI := fun σ H R => ta σ H fun vs H1 => ∃ a xs, vs = [.ref a] ∧ SqT K H1 a xs ∧ R (IteT K a) H1
theorem pi_enumT {X : Cx} {e : Expr} {ta : TA} {p pos tpos : Pos} {elts : List Expr} {kk : Nat} (hg : Gl X "enumerate") (hm : X.mg "enumerate" = none) (ha : PA X [e] ta) (hs : starEach [e] X.env = [(false, eval e X.env)] := by rfl) :
    PI X (.Tuple elts kk tpos) (.Call (.Name "enumerate" p) [e] [] pos) (iEnumT X.K ta) := by
  refine ⟨fun pins s σ H R I h => ?_⟩
  refine Call_ (ld_blt I hg hm boot_enumerate (PyProof.Rows.callWith_type1 (thn (ha.run pos pins s σ H _ I h) fun us s1 ⟨vs, H1, I1, r1, q1⟩ => ?_) hs rfl))
  obtain ⟨a, xs, ex, hq, q⟩ := q1
  subst ex
  cases r1 with
  | cons r rr =>
    cases rr
    cases r
    obtain ⟨its, rv, p', hz⟩ := I1.tuple hq
    refine EO.call_enumerate_tuple (by exact p') fun h' he hit hsz hk => wpAny_pyIter_enum he ?_
    have I2 : Inv X pins σ H1 { s1 with heap := h' } := I1.kept (t' := s1.toks) hk
    refine ⟨s1.heap.objs.size + 1, [s1.heap.objs.size + 1, s1.heap.objs.size], _, _, H1, rfl, I2, turn_enumT a (s1.heap.objs.size + 1) s1.heap.objs.size, ⟨⟨.none, he⟩, hit, Nat.succ_ne_self _⟩, fun b hb => ?_, q⟩
    have e' : b = s1.heap.objs.size + 1 ∨ b = s1.heap.objs.size := by simpa using hb
    have hle : s1.heap.objs.size ≤ b := by
      rcases e' with z | z
      · rw [z]; exact Nat.le_add_right _ _
      · rw [z]; exact Nat.le_refl _
    exact I1.fpOk hle (I1.hok.fresh hle)
theorem walk_enumT {K : PySem.W.Frag} {a : Addr} {xs : List V} : Walk (IteT K a) xs.length (fun H => SqT K H a xs) (YPair (fun i => some (.int (i : Nat))) (fun i => xs[i]?)) := by
  refine ⟨fun i _ hi q => ⟨xs, xs[i], q, by simp [hi]⟩, fun _ q => ⟨xs, q, Nat.le_refl _⟩, fun i H v H' _ q y => ?_⟩
  obtain ⟨T, x, h1, h2, h3, h4⟩ := y
  exact ⟨T, .int (i : Nat), x, h1, h2, h3, rfl, h4 xs q⟩
end L2
set_option Elab.async false
set_option maxRecDepth 100000
namespace EO
open PySem PySem.W PySem.Spec PyProof.Rows L2
section
variable {prog : Program} {w : World} {A : Around} {E : Value → Shared → Prop} {s : Shared} {K : Frag} {x C L f : Addr} {h₀ : Heap} {m : Str → Option Value} {ox : Obj} {od : Option Obj} {name : Str} {b tb : Value}
theorem cmp_dec_K {Q : Value → Shared → Prop} (hu : A.units < cLine) (X : K.In s.heap) (I : InstAt s.heap x ox C od) (hb : Looks (model prog w) s.heap (typeOf b) tb) (hn : notFirst K C tb = true)
    (hs : findIn K (.ref C) "__eq__" = some (some (.ref f))) (hf : isFn K (.ref f) = true)
    (h : wpAny (model prog w) A (call (.ref f) [.ref x, b]) (fun v s' => v = .notImplemented ∧ wpAny (model prog w) A (tryCompare b "__eq__" (.ref x)) (fun r s2 => r = none ∧ wpAny (model prog w) A (isSame (.ref x) b) (fun k s3 => Q (.bool k) s3) E s2) E s') E s) :
    wpAny (model prog w) A (richCompare .Eq (.ref x) b) Q E s := by
  have one : wpAny (model prog w) A (tryCompare (.ref x) "__eq__" b) (fun r s' => r = none ∧ wpAny (model prog w) A (tryCompare b "__eq__" (.ref x)) (fun r s2 => r = none ∧ wpAny (model prog w) A (isSame (.ref x) b) (fun k s3 => Q (.bool k) s3) E s2) E s') E s := by
    unfold tryCompare
    refine wpAny_bind (ifBound_K X I hs hf (wpAny_mono h (fun v s' hv => ?_) fun _ _ e => e))
    obtain ⟨rfl, hv⟩ := hv
    exact wpAny_pure ⟨rfl, hv⟩
  unfold richCompare
  simp only [oneThing_ref]
  refine wpAny_holding (wpAny_bind (wpAny_cRoomFor hu ?_))
  refine wpAny_bind (I.type.here (wpAny_bind (hb.here ?_)))
  split
  · rename_i q
    have e : subIn K tb (.ref C) = some false := by
      rcases Bool.or_eq_true_iff.mp hn with e | e
      · rw [beq_iff_eq.mp e] at q; simp at q
      · exact beq_iff_eq.mp e
    refine wpAny_bind ((looks_subIn X e).here ?_)
    simp only [Bool.false_eq_true, if_false]
    refine wpAny_bind (wpAny_mono one (fun r s' z => ?_) fun _ _ e => e)
    obtain ⟨rfl, z⟩ := z
    simp only [Bool.not_false, if_true]
    refine wpAny_bind (wpAny_mono z (fun r s' z => ?_) fun _ _ e => e)
    obtain ⟨rfl, z⟩ := z
    refine wpAny_bind (wpAny_rule ?_)
    exact wpAny_bind (wpAny_mono z (fun k s3 q => wpAny_pure q) fun _ _ e => e)
  · refine wpAny_bind (wpAny_pure ?_)
    simp only [Bool.false_eq_true, if_false]
    refine wpAny_bind (wpAny_mono one (fun r s' z => ?_) fun _ _ e => e)
    obtain ⟨rfl, z⟩ := z
    simp only [Bool.not_false, if_true]
    refine wpAny_bind (wpAny_mono z (fun r s' z => ?_) fun _ _ e => e)
    obtain ⟨rfl, z⟩ := z
    refine wpAny_bind (wpAny_rule ?_)
    exact wpAny_bind (wpAny_mono z (fun k s3 q => wpAny_pure q) fun _ _ e => e)
/-- a special method that is a built-in slot -/
theorem ifBound_B {M : Model} {id : String} {args : List Value} {Q : Option Value → Shared → Prop} (X : K.In s.heap) (I : InstAt s.heap x ox C od) (hs : findIn K (.ref C) name = some (some (.builtin id))) (hb : bindSpecial (.builtin id) (.ref x) = pure (.builtin id, [.ref x]))
    (h : wpAny M A (call (.builtin id) (.ref x :: args)) (fun v => Q (some v)) E s) : wpAny M A (callSpecialIfBound? (.ref x) name args) Q E s := by
  simp only [callSpecialIfBound?, bindSpecialIfBound?, hb]
  refine wpAny_holding (wpAny_bind (wpAny_bind (wpAny_bind (I.type.here ((looks_findIn X hs).here ?_)))))
  refine wpAny_bind (wpAny_askSetting (wpAny_ite ?_))
  have fin : wpAny M A (call (.builtin id) ([.ref x] ++ args) >>= fun v => pure (some v)) Q E s := wpAny_bind (wpAny_mono h (fun v s' h' => wpAny_pure h') fun _ _ h' => h')
  simp only [hb, pure_bind]
  split
  · exact wpAny_pure (by exact fin)
  · exact wpAny_tryCatch (wpAny_pure (by exact fin))
/-- the check of a slot of object's, called of an instance -/
theorem check_obj {M : Model} {id n : String} {rest : List Value} {Q : Unit → Shared → Prop} (hk : builtinKind id = some .slot) (hs : splitId id = some ("object", n)) (ha : argsOk id ⟨.ref x :: rest, []⟩)
    (X : K.In s.heap) (I : InstAt s.heap x ox C od) (hm : mroIn K C (.type "object") = some true) (hq : Q () s) : wpAny M A (checkBuiltinCall id ⟨.ref x :: rest, []⟩) Q E s := by
  simp only [checkBuiltinCall, hk, hs]
  refine wpAny_bind ?_
  unfold isInstance
  refine wpAny_bind (I.type.here ((looks_mroIn X hm).here ?_))
  simp only [Bool.not_true, Bool.false_eq_true, if_false]
  cases hsig : Manifest.signature? id with
  | none => exact wpAny_pure hq
  | some sig =>
    simp only [argsOk, hsig] at ha
    have h2 : Bind.checkArgs id sig ⟨.ref x :: rest, []⟩ = pure () := ha
    show wpAny M A (Bind.checkArgs id sig ⟨.ref x :: rest, []⟩) Q E _
    rw [h2]; exact wpAny_pure hq
/-- a != b by object's own, over an own == that answers True or False -/
theorem ne_K {Q : Value → Shared → Prop} (hu : A.units + 1 < cLine) (X : K.In s.heap) (I : InstAt s.heap x ox C od) (hb : Looks (model prog w) s.heap (typeOf b) tb) (hn : notFirst K C tb = true)
    (hs : findIn K (.ref C) "__eq__" = some (some (.ref f))) (hf : isFn K (.ref f) = true) (hne : findIn K (.ref C) "__ne__" = some (some (.builtin "object.__ne__"))) (hm : mroIn K C (.type "object") = some true)
    (h : wpAny (model prog w) A.in1 (call (.ref f) [.ref x, b]) (fun v s' => ∃ c, v = .bool c ∧ Q (.bool (!c)) s') E s) :
    wpAny (model prog w) A (richCompare .NotEq (.ref x) b) Q E s := by
  have body : wpAny (model prog w) A (call (.builtin "object.__ne__") [.ref x, b]) (fun v s' => ∃ c, v = .bool c ∧ Q (.bool c) s') E s := by
    refine wpAny_call ?_
    refine codeAny_call_builtin F.cmp_object.ne.plain F.cmpEntry_ne ?_
    refine check_obj (id := "object.__ne__") (n := "__ne__") (rest := [b]) (x := x) F.cmpKind_ne F.cmpSplit_ne (F.cmpArgs_ne _ _) X I hm ?_
    have h' : wpAny (model prog w) A.in1 (callSpecialIfBound? (.ref x) (Str.ofString "__eq__") [b]) (fun r s' => ∃ c, r = some (.bool c) ∧ Q (.bool (!c)) s') E s :=
      ifBound_K X I hs hf (wpAny_mono h (fun r s' hr => by obtain ⟨c, rfl, hq⟩ := hr; exact ⟨c, rfl, hq⟩) fun _ _ e => e)
    unfold Builtin.«object.__ne__»
    repeat (first
      | with_reducible refine wpAny_cRoomFor (A := A.in1) hu ?_
      | (refine wpAny_bind (m := callSpecialIfBound? (.ref x) (Str.ofString "__eq__") [b]) (wpAny_mono h' (fun r s' hr => ?_) fun _ _ e => e)
         obtain ⟨c, rfl, hq⟩ := hr)
      | wp_step)
    exact ⟨_, rfl, hq⟩
  have one : wpAny (model prog w) A (tryCompare (.ref x) "__ne__" b) (fun r s' => ∃ v, r = some v ∧ Q v s') E s := by
    unfold tryCompare
    refine wpAny_bind (ifBound_B X I hne (F.cmp_object.ne.bind _) (wpAny_mono body (fun v s' hv => ?_) fun _ _ e => e))
    obtain ⟨c, rfl, hq⟩ := hv
    exact wpAny_pure ⟨_, rfl, hq⟩
  unfold richCompare
  simp only [oneThing_ref]
  refine wpAny_holding (wpAny_bind (wpAny_cRoomFor (Nat.lt_of_succ_lt hu) ?_))
  refine wpAny_bind (I.type.here (wpAny_bind (hb.here ?_)))
  split
  · rename_i q
    have e : subIn K tb (.ref C) = some false := by
      rcases Bool.or_eq_true_iff.mp hn with e | e
      · rw [beq_iff_eq.mp e] at q; simp at q
      · exact beq_iff_eq.mp e
    refine wpAny_bind ((looks_subIn X e).here ?_)
    simp only [Bool.false_eq_true, if_false]
    refine wpAny_bind (wpAny_mono one (fun r s' z => ?_) fun _ _ e => e)
    obtain ⟨v, rfl, hq⟩ := z
    exact wpAny_pure hq
  · refine wpAny_bind (wpAny_pure ?_)
    simp only [Bool.false_eq_true, if_false]
    refine wpAny_bind (wpAny_mono one (fun r s' z => ?_) fun _ _ e => e)
    obtain ⟨v, rfl, hq⟩ := z
    exact wpAny_pure hq
end
end EO

namespace L2
open PySem PySem.Spec PyProof.Rows
/-- two instances of the class at C, compared by the text's own ==, that answers True or False -/
structure OwnE (K : PySem.W.Frag) (C f : Addr) : Prop where
  eq : PySem.W.findIn K (.ref C) "__eq__" = some (some (.ref f))
  fn : PySem.W.isFn K (.ref f) = true
  ne : PySem.W.findIn K (.ref C) "__ne__" = some (some (.builtin "object.__ne__"))
  mo : PySem.W.mroIn K C (.type "object") = some true
def rOwn (C : Addr) (sp : Sp) (g : Bool → Bool) (E : XK) : R2 := fun x y H Q => ∃ a b dx dy fs gs, x = .ref a ∧ y = .ref b ∧ H a = some (.ins C dx fs) ∧ H b = some (.ins C dy gs) ∧
  sp [x, y] H (fun v H' => ∃ c, v = .bl c ∧ Q (.bl (g c)) H') E
section
variable {X : Cx} {n : Nat} {CX : CXT} {C f : Addr} {fd : FuncData} {ps : List Str} {sp : Sp} {E : XK}
theorem own_call {A : Around} {pins : List (Addr × Obj)} {s : Shared} {σ : St} {H : Hp} {vs : List V} {us : List Value} {Q : VK} (F : FnOk X.prog X.w X.K X.mg X.base CX n f fd ps sp) (hb : Binds X.K fd ps []) (hx : Passes CX X E) (hr : Room n A) (hfr : A.frames = X.A.frames)
    (I : Inv X pins σ H s) (r : Vals vs us) (h : sp vs H Q E) : wpAny (model X.prog X.w) A (call (.ref f) us) (fun u s' => ∃ v H', Inv X pins σ H' s' ∧ RelV v u ∧ Q v H') X.xe s := by
  have e0 : Env0 X.prog X.w X.K X.mg X.base A X.stack s H := by
    have e := I.env0
    exact ⟨by rw [hfr]; exact e.frames, e.mod, e.bs, e.bsz, e.funs, e.frf, e.hok, e.bare⟩
  have hl := F.len _ _ _ _ h
  refine wpAny_call (codeAny_mono (F.run A X.stack s H ⟨us, []⟩ us vs _ E hr e0 (by
    have := hb s us I.kIn (by have := r.length; rw [List.append_nil, ← this, hl])
    simpa using this) r h) fun r s' hq => ?_)
  cases r with
  | error e => exact hx pins σ H s e s' I hq
  | ok fl =>
    cases fl with
    | ret w =>
      obtain ⟨z, H', I', rz, q⟩ := I.after hq
      exact ⟨z, H', I', rz, q⟩
    | next => exact False.elim hq
    | brk => exact False.elim hq
    | cont => exact False.elim hq
theorem op_eqOwn (O : OwnE X.K C f) (F : FnOk X.prog X.w X.K X.mg X.base CX n f fd ps sp) (hr : Room n X.A) (hb : Binds X.K fd ps []) (hx : Passes CX X E) : OpR X (compareOp .Eq) (rOwn C sp (fun c => c) E) := by
  intro pins s σ H x y u v Q I rx ry h
  obtain ⟨a, b, dx, dy, fs, gs, rfl, rfl, ha, hb', hs⟩ := h
  cases rx
  cases ry
  obtain ⟨mA, J, _⟩ := ins_get I.hok ha
  obtain ⟨mB, J', _⟩ := ins_get I.hok hb'
  obtain ⟨od, J, _⟩ := J.look
  obtain ⟨od', J', _⟩ := J'.look
  obtain ⟨m, hF⟩ := I.fr
  show wpAny (model X.prog X.w) X.A (richCompare .Eq (.ref a) (.ref b)) (EP X pins σ Q) X.xe s
  refine PySem.W.cmp_K (op := .Eq) (tb := .ref C) hr.units0 hF I.ok.mod.kin J J'.type (by simp [PySem.W.notFirst]) O.eq O.fn ?_
  refine wpAny_mono (own_call (vs := [V.ref a, V.ref b]) F hb hx hr rfl I (.cons rfl (.cons rfl .nil)) hs) (fun u s' q => ?_) fun _ _ e => e
  obtain ⟨z, H', I', rz, c, rfl, q⟩ := q
  cases rz
  exact ⟨.bl c, H', I', rfl, q⟩
theorem op_neOwn (O : OwnE X.K C f) (F : FnOk X.prog X.w X.K X.mg X.base CX n f fd ps sp) (hr : Room (n + 1) X.A) (hb : Binds X.K fd ps []) (hx : Passes CX X E) : OpR X (compareOp .NotEq) (rOwn C sp (fun c => !c) E) := by
  intro pins s σ H x y u v Q I rx ry h
  obtain ⟨a, b, dx, dy, fs, gs, rfl, rfl, ha, hb', hs⟩ := h
  cases rx
  cases ry
  obtain ⟨mA, J, _⟩ := ins_get I.hok ha
  obtain ⟨mB, J', _⟩ := ins_get I.hok hb'
  obtain ⟨od, J, _⟩ := J.look
  obtain ⟨od', J', _⟩ := J'.look
  show wpAny (model X.prog X.w) X.A (richCompare .NotEq (.ref a) (.ref b)) (EP X pins σ Q) X.xe s
  refine EO.ne_K (tb := .ref C) (by have := hr.units; omega) I.kIn J J'.type (by simp [PySem.W.notFirst]) O.eq O.fn O.ne O.mo ?_
  refine wpAny_mono (own_call (vs := [V.ref a, V.ref b]) F hb hx hr.in1 rfl I (.cons rfl (.cons rfl .nil)) hs) (fun u s' q => ?_) fun _ _ e => e
  obtain ⟨z, H', I', rz, c, rfl, q⟩ := q
  cases rz
  exact ⟨c, rfl, ⟨.bl (!c), H', I', rfl, q⟩⟩
/-! a def that begins with «if TEST: return NotImplemented», called where TEST holds -/
structure FnNI (P : Program) (w : World) (K : PySem.W.Frag) (mg : Str → Option Value) (base : Heap) (k : Nat) (f : Addr) (fd : FuncData) (ps : List Str) (pre : List V → Hp → Prop) : Prop where
  len : ∀ vs H, pre vs H → vs.length = ps.length
  run : ∀ (A : Around) (outer : List Env) (s : Shared) (H : Hp) (args : Args) (us : List Value) (vs : List V), Room k A → Env0 P w K mg base A outer s H → BindsTo s fd args (ps.zip us) → Vals vs us → pre vs H →
    codeAny (model P w) A (.call (.ref f) args) (fun r s' => r = .ok (.ret .notImplemented) ∧ CE outer P w H s (fun v H' => v = .non ∧ Same H H') .none s') s
theorem fn_NI {P : Program} {w : World} {K : PySem.W.Frag} {mg : Str → Option Value} {base : Heap} {k : Nat} {f : Addr} {name qual : Str} {params : Arguments} {body rest : List Stmt} {tst : Expr} {p1 p2 p3 : Pos} {scope : Scope} {dV kV doc pm cdv ct oc : Value} {an od : Option Addr}
    {osl : Array (Option Value)} {N ps : List Str} {pre : List V → Hp → Prop} (lk : K.lookup f = some ⟨oc, od, .func (PySem.W.fnOf name qual params body scope dV kV doc pm an cdv ct), osl⟩) (hcd : PySem.W.codeIn K cdv qual = true) (S : FnScope N ps scope)
    (len : ∀ vs H, pre vs H → vs.length = ps.length) (hbd : body = .If tst [.Return (some (.Name "NotImplemented" p1)) p2] [] p3 :: rest)
    (hg : scope.names.lookup ("NotImplemented" : Str) = some .globalImplicit) (hm : mg "NotImplemented" = none) (hv : bootBuiltins "NotImplemented" = some .notImplemented)
    (htest : ∀ (A : Around) (outer : List Env) (s : Shared) (H : Hp) (vs : List V), Room k (A.deeper (envOfC qual scope s.heap.objs.size f cdv)) → pre vs H →
      ∃ t, PT (cxOf CX0 P w K mg base N qual scope f cdv A outer s H E0).nox tst t ∧ t (start N vs) H (fun b H1 => b = true ∧ Same H H1)) :
    FnNI P w K mg base (k + 1) f (PySem.W.fnOf name qual params body scope dV kV doc pm an cdv ct) ps pre := by
  refine ⟨len, fun A outer s H args us vs hr e0 hb r hsp => ?_⟩
  have hl := len _ _ hsp
  have KX : K.In s.heap := e0.mod.kin.keeps fun b o e => (e0.bs b o e).1
  have lim : s.heap.NoLimit := e0.mod.nolimit.keeps fun b o e => (e0.bs b o e).1
  have hkind : ∀ y ∈ ps.zip us, scope.names.lookup y.1 = some .local ∨ (scope.names.lookup y.1 = some .cell ∧ ((cellsFrom (s.heap.objs.size + 1) scope.names []).lookup y.1).isSome = true) := fun ⟨n, v⟩ hy => by
    rcases S.par n (List.of_mem_zip hy).1 with q | q
    · exact .inl q
    · exact .inr ⟨q, PySem.W.cellsFrom_some _ _ _ (.inl q)⟩
  refine codeAny_call_function hr.depth (KX _ _ lk) rfl S.co S.gen rfl (PySem.W.codeRec_of KX hcd) (hb _ _ _ _ ?_)
  refine wpAny_newFunctionEnv_cells S.kind hkind fun env he s1 x => ?_
  subst he
  refine ⟨lim.keeps x.toInCall.keep, codeAny_func ?_⟩
  obtain ⟨t, ht, hq⟩ := htest A outer s H vs (hr.deeper _) hsp
  have I : Inv (cxOf CX0 P w K mg base N qual scope f cdv A outer s H E0) [] (start N vs) H s1 := inv_start S hr.hd e0 hl r x
  subst hbd
  have run : wpAny (model P w) (cxOf CX0 P w K mg base N qual scope f cdv A outer s H E0).A (execs (.If tst [.Return (some (.Name "NotImplemented" p1)) p2] [] p3 :: rest) (cxOf CX0 P w K mg base N qual scope f cdv A outer s H E0).env)
      (fun fl s' => fl = .ret .notImplemented ∧ CE outer P w H s (fun v H' => v = .non ∧ Same H H') .none s') (fun _ _ => False) s1 := by
    refine wpAny_execs_cons (wpAny_mono (wpAny_If (wpAny_mono (ht.run [] s1 (start N vs) H (fun b H1 => b = true ∧ Same H H1) (I.wish _) hq) (fun d s2 q2 => ?_) fun _ _ z => z))
      (fun fl s' (z : fl = .ret .notImplemented ∧ CE outer P w H s (fun v H' => v = .non ∧ Same H H') .none s') => ?_) fun _ _ z => z)
    · obtain ⟨H2, I2, rfl, sm⟩ := q2
      refine wpAny_execs_cons (wpAny_mono (wpAny_Return_some (Q := fun fl s' => fl = .ret .notImplemented ∧ CE outer P w H s (fun v H' => v = .non ∧ Same H H') .none s') (ld_blt I2.unwish hg hm hv ?_)) (fun fl s' z => ?_) fun _ _ z => z)
      · exact ⟨rfl, ⟨.non, H2, I2.os, I2.bare, I2.base, I2.hok, rfl, rfl, sm⟩⟩
      · obtain ⟨rfl, z⟩ := z
        exact ⟨rfl, z⟩
    · obtain ⟨rfl, z⟩ := z
      exact ⟨rfl, z⟩
  exact wpAny_mono run (fun fl s' z => by obtain ⟨rfl, z⟩ := z; exact ⟨rfl, z⟩) fun _ _ z => z.elim
end
end L2
namespace EO
open PySem PySem.W PySem.Spec PyProof.Rows L2
open SeqAt
open AutoSeq1 (wpAny_loadPart')
section
variable {prog : Program} {w : World} {A : Around} {E : Value → Shared → Prop} {s : Shared} {K : Frag} {x C : Addr} {ox : Obj} {od : Option Obj}
theorem int_declines_ins (b : Int) (u : Tok) (l dx : Addr) : Meets (Builtin.«int.__eq__» ⟨[.int b u, .ref l], []⟩) (fun _ R s => s.heap.get? l = some (instObj C dx) ∧ R (.ok (.ret .notImplemented)) s) :=
  .of_wp fun prog w A R s h => by
    obtain ⟨hp, g, d, tk, os⟩ := s; obtain ⟨hl, h⟩ := h
    wp_walk using wpAny_loadPart' hl, wpAny_load hl
    exact ⟨_, rfl, h⟩
theorem list_declines_ins {l : Addr} {items : Array Value} {R : Result → Shared → Prop} (hl : s.heap.IsList l items) (X : K.In s.heap) (I : InstAt s.heap x ox C od) (hm : mroIn K C (.type "list") = some false) (h : R (.ok (.ret .notImplemented)) s) :
    wpAny (model prog w) A.in1 (Builtin.«list.__eq__» ⟨[.ref l, .ref x], []⟩) (fun fin s' => match fin with | .done f => R (.ok f) s' | .again c' => c'.quiet = true ∧ codeAny (model prog w) A c' R s') (fun e s' => R (.error e) s') s := by
  have hx := I.at_
  have hcl := I.cls
  obtain ⟨⟨cls, dd, data, sl⟩, ho, hc, n, hd⟩ := id hl
  simp only at hc hd
  subst hc hd
  obtain ⟨cls2, dd2, data2, sl2⟩ := ox
  simp only at hcl
  subst hcl
  obtain ⟨hp, g, d, tk, os⟩ := s
  wp_walk using wpAny_loadPart' ho, wpAny_loadPart' hx
  refine (looks_mroIn X hm).here ?_
  simp only [Bool.not_false, if_true]
  wp_walk
  exact h
theorem nf {K : Frag} {C : Addr} {T : String} {l : List Value} (h : fastBuiltinMro T = some l) (hc : l.contains (.ref C) = false) : notFirst K C (.type T) = true := by
  unfold notFirst subIn
  simp only [h, Option.map_some, hc]
  simp
theorem mro_None : fastBuiltinMro "NoneType" = some [.type "NoneType", .type "object"] := by decide +kernel
theorem mro_int : fastBuiltinMro "int" = some [.type "int", .type "object"] := by decide +kernel
theorem mro_list : fastBuiltinMro "list" = some [.type "list", .type "object"] := by decide +kernel
end
end EO
namespace L2
open PySem PySem.Spec PyProof.Rows
/-- an instance compared with None, an int, a list: its own == says NotImplemented, the other's too; so False -/
def rNI (C : Addr) (pre : List V → Hp → Prop) : R2 := fun x y H Q => ∃ a dx fs, x = .ref a ∧ H a = some (.ins C dx fs) ∧ pre [x, y] H ∧ (y = .non ∨ (∃ i, y = .int i) ∨ ∃ l xs, y = .ref l ∧ H l = some (.lst xs)) ∧ ∀ H', Same H H' → Q (.bl false) H'
theorem op_eqNI {X : Cx} {n : Nat} {C f : Addr} {fd : FuncData} {ps : List Str} {pre : List V → Hp → Prop} (O : OwnE X.K C f) (ml : PySem.W.mroIn X.K C (.type "list") = some false)
    (G : FnNI X.prog X.w X.K X.mg X.base n f fd ps pre) (hr : Room n X.A) (hb : Binds X.K fd ps []) : OpR X (compareOp .Eq) (rNI C pre) := by
  intro pins s σ H x y u v Q I rx ry h
  obtain ⟨a, dx, fs, rfl, ha, hp, hy, hQ⟩ := h
  cases rx
  obtain ⟨mA, J, _⟩ := ins_get I.hok ha
  obtain ⟨od, J, _⟩ := J.look
  show wpAny (model X.prog X.w) X.A (richCompare .Eq (.ref a) v) (EP X pins σ Q) X.xe s
  have hl := G.len _ _ hp
  have call : ∀ (T : String), PySem.W.Looks (model X.prog X.w) s.heap (typeOf v) (.type T) → PySem.W.notFirst X.K C (.type T) = true →
      (∀ s' H', Inv X pins σ H' s' → Same H H' → wpAny (model X.prog X.w) X.A (tryCompare v "__eq__" (.ref a)) (fun r s2 => r = none ∧ wpAny (model X.prog X.w) X.A (isSame (.ref a) v) (fun k s3 => k = false ∧ Inv X pins σ H' s3) X.xe s2) X.xe s') →
      wpAny (model X.prog X.w) X.A (richCompare .Eq (.ref a) v) (EP X pins σ Q) X.xe s := fun T lk nf tr => by
    refine EO.cmp_dec_K (tb := .type T) hr.units0 I.kIn J lk nf O.eq O.fn ?_
    refine wpAny_call (codeAny_mono (G.run X.A X.stack s H ⟨[.ref a, v], []⟩ [.ref a, v] [.ref a, y] hr I.env0 (by
      have := hb s [.ref a, v] I.kIn (by rw [List.append_nil, ← hl]; rfl)
      simpa using this) (.cons rfl (.cons ry .nil)) hp) fun r s' hq => ?_)
    obtain ⟨rfl, hq⟩ := hq
    obtain ⟨z, H', I', rz, ez, sm⟩ := I.after hq
    refine ⟨rfl, wpAny_mono (tr s' H' I' sm) (fun r s2 q => ⟨q.1, wpAny_mono q.2 (fun k s3 q => ?_) fun _ _ e => e⟩) fun _ _ e => e⟩
    obtain ⟨rfl, I3⟩ := q
    exact ⟨.bl false, H', I3, rfl, hQ H' sm⟩
  have at' : ∀ s' H', Inv X pins σ H' s' → Same H H' → ∃ od, PySem.W.InstAt s'.heap a (PySem.W.instObj C dx) C (some od) := fun s' H' I' sm => by
    obtain ⟨mA, J, _⟩ := ins_get I'.hok (sm _ _ ha)
    obtain ⟨od, J, _⟩ := J.look
    exact ⟨od, J⟩
  rcases hy with rfl | ⟨i, rfl⟩ | ⟨l, xs, rfl, hl'⟩
  · cases ry
    refine call "NoneType" (PySem.W.Looks.of_pure rfl) (EO.nf EO.mro_None (by simp)) fun s' H' I' sm => ?_
    exact wpAny_tryCompare_declines rfl F.slot_NoneType_eq (call_gives F.slot_NoneType_eq rfl F.entry_NoneType_eq (F.args_NoneType_eq_2 _ _) (SeqAt.NoneType___eq___none_ref_0 a)
      ⟨rfl, rfl, wpAny_of_eq (rfl : isSame (.ref a) .none = pure false) ⟨rfl, I'⟩⟩)
  · obtain ⟨t, rfl⟩ := ry
    refine call "int" (PySem.W.Looks.of_pure rfl) (EO.nf EO.mro_int (by simp)) fun s' H' I' sm => ?_
    obtain ⟨od', J'⟩ := at' s' H' I' sm
    exact wpAny_tryCompare_declines (typeIs_int s' i t) F.slot_int_eq (call_meets F.slot_int_eq (typeIs_int s' i t) F.entry_int_eq (F.args_int_eq_2 _ _) (EO.int_declines_ins (C := C) i t a dx)
      ⟨J'.at_, rfl, rfl, wpAny_of_eq (rfl : isSame (.ref a) (.int i t) = pure false) ⟨rfl, I'⟩⟩)
  · cases ry
    obtain ⟨_, its, k, r, e⟩ := I.hok l _ hl'
    refine call "list" ((PySem.W.Looks.ld (part := none) e).andThen .now) (EO.nf EO.mro_list (by simp)) fun s' H' I' sm => ?_
    obtain ⟨od', J'⟩ := at' s' H' I' sm
    obtain ⟨_, its', k', r', e'⟩ := I'.hok l _ (sm _ _ hl')
    have nal : a ≠ l := ne_of ha hl' (by intro z; cases z)
    refine wpAny_tryCompare_declines ⟨_, e', rfl⟩ F.slot_list_eq (GQ.call_here F.slot_list_eq ⟨_, e', rfl⟩ F.entry_list_eq (F.args_list_eq_2 _ _) ?_)
    exact EO.list_declines_ins (R := wants _ _) ⟨_, e', rfl, _, rfl⟩ I'.kIn J' ml ⟨rfl, rfl, SeqAt.wpAny_isSame_ref_other' nal J'.at_ e' (by show Value.type "list" ≠ Value.type "tuple"; decide) ⟨rfl, I'⟩⟩
end L2
set_option Elab.async false
set_option linter.all false
set_option maxRecDepth 100000
namespace K1
open PySem L2
/-- a def of the text, by its name -/
structure Df (K : PySem.W.Frag) (mg : Str → Option Value) (x : Str) (st : Stmt) (ps : List Str) (f : Addr) (fd : FuncData) : Prop where
  F : Fun K x x st f fd
  g : mg x = some (.ref f)
  b : Binds K fd ps []
theorem Kept.seq {K : PySem.W.Frag} {d : Addr} {H H' : Hp} {a : Addr} {xs : List V} (e : Kept d H H') (n : a ≠ d) (h : SqL K H a xs) : SqL K H' a xs := by
  rcases h with (h | ⟨o, h⟩) | h
  · exact .inl (.inl (e _ _ h n))
  · exact .inl (.inr ⟨o, e _ _ h n⟩)
  · exact .inr h
theorem Kept.seqT {K : PySem.W.Frag} {d : Addr} {H H' : Hp} {a : Addr} {xs : List V} (e : Kept d H H') (n : a ≠ d) (h : SqT K H a xs) : SqT K H' a xs := by
  rcases h with (h | ⟨o, h⟩) | h
  · exact .inl (.inl (e _ _ h n))
  · exact .inl (.inr ⟨o, e _ _ h n⟩)
  · exact .inr h
def spPickL (K : PySem.W.Frag) : Sp := fun vs H Q _ => ∃ (d c p : Addr) (n : Nat) (xs : List V), vs = [.ref d, .ref p] ∧ PenAt H d c n ∧ n ≤ 1000000 ∧ p ≠ d ∧ SqL K H p xs ∧ 0 < xs.length ∧ xs.length < 1073741824 ∧
  ∀ (x : V) (H' : Hp), x ∈ xs → PenAt H' d c (n + 1) → Kept d H H' → Q x H'
def spPickS : Sp := fun vs H Q _ => ∃ (d q : Addr) (n : Nat) (z : Str), vs = [.ref d, .str z] ∧ PenAt H d q n ∧ n ≤ 1000000 ∧ 0 < z.length ∧ z.length < 10000 ∧
  ∀ (c : Nat) (H' : Hp), c ∈ z.cps.toList → PenAt H' d q (n + 1) → Kept d H H' → Q (.str ⟨#[c]⟩) H'
section
variable {P : Program} {w : World} {K : PySem.W.Frag} {mg : Str → Option Value} {base : Heap}
theorem scPick : FnScope ["_law_pen_here", "_law_some"] ["_law_pen_here", "_law_some"] (defScope sPick) := ⟨rfl, rfl, rfl, by decide +kernel, rfl, by decide +kernel, by decide +kernel⟩
abbrev pDraw : List Str := ["_law_pen_here", "_law_many"]
abbrev pPick : List Str := ["_law_pen_here", "_law_some"]
theorem ok_pickL {f fD : Addr} {fd fdD : FuncData} (D : Df K mg "_law_pick" sPick pPick f fd) (DD : Df K mg "_law_draw" sDraw pDraw fD fdD) (T : Bt mg) : FnOk P w K mg base CX0 2 f fd pPick (spPickL K) := by
  have GD : FnOk P w K mg base CX0 1 fD fdD pDraw spDraw := ok_draw DD.F T
  refine D.F.ok scPick (fun vs H Q E h => ?_) (fun cdv A outer s H vs Q E hr h => ?_)
  · obtain ⟨d, c, p, n, xs, rfl, _⟩ := h
    rfl
  · obtain ⟨d, c, p, n, xs, rfl, hp, hn, npd, hx, h0, h1, k⟩ := h
    refine ⟨_, pss_one (ps_ret (pe_ix ix_list (pv 1) (pe_call GD hr rfl DD.g DD.F.kp DD.b .nil pass0 (pa_cons (pv 0) (pa_cons (pe_callB call_len (by rfl) T.len PySem.boot_len (pa_cons (pv 1) pa_nil)) pa_nil))) (fun _ _ => rfl))), ?_⟩
    refine ⟨_, rfl, _, rfl, _, rfl, _, xs.length, rfl, .inl ⟨_, hx, rfl⟩, d, c, n, xs.length, rfl, hp, hn, by omega, by omega, fun r H' r0 r1 hp' kp => ?_⟩
    obtain ⟨j, rfl⟩ : ∃ j : Nat, r = (j : Int) := ⟨r.toNat, by omega⟩
    have hj : j < xs.length := by omega
    exact ⟨p, xs, _, xs[j], rfl, rfl, kp.seq npd hx, atI_nat (by simp [hj]), k _ _ (List.getElem_mem _) hp' kp⟩
theorem ok_pickS {f fD : Addr} {fd fdD : FuncData} (D : Df K mg "_law_pick" sPick pPick f fd) (DD : Df K mg "_law_draw" sDraw pDraw fD fdD) (T : Bt mg) : FnOk P w K mg base CX0 2 f fd pPick spPickS := by
  have GD : FnOk P w K mg base CX0 1 fD fdD pDraw spDraw := ok_draw DD.F T
  refine D.F.ok scPick (fun vs H Q E h => ?_) (fun cdv A outer s H vs Q E hr h => ?_)
  · obtain ⟨d, q, n, z, rfl, _⟩ := h
    rfl
  · obtain ⟨d, q, n, z, rfl, hp, hn, h0, h1, k⟩ := h
    have hz : z.length ≤ sizeLine := Nat.le_trans (Nat.le_of_lt h1) (by decide)
    refine ⟨_, pss_one (ps_ret (pe_ix ix_str (pv 1) (pe_call GD hr rfl DD.g DD.F.kp DD.b .nil pass0 (pa_cons (pv 0) (pa_cons (pe_callB call_len (by rfl) T.len PySem.boot_len (pa_cons (pv 1) pa_nil)) pa_nil))) (fun _ _ => rfl))), ?_⟩
    refine ⟨_, rfl, _, rfl, _, rfl, _, z.length, rfl, ⟨hz, rfl⟩, d, q, n, z.length, rfl, hp, hn, by omega, by omega, fun r H' r0 r1 hp' kp => ?_⟩
    obtain ⟨j, rfl⟩ : ∃ j : Nat, r = (j : Int) := ⟨r.toNat, by omega⟩
    have hj : j < z.cps.toList.length := by
      have : z.length = z.cps.toList.length := by simp [Str.length]
      omega
    exact ⟨z, _, z.cps.toList[j], rfl, rfl, hz, atI_nat (by simp [hj]), k _ _ (List.getElem_mem _) hp' kp⟩
end
end K1
set_option Elab.async false
set_option linter.all false
set_option maxRecDepth 100000
namespace K1
open PySem L2
/-! the words -/
abbrev zLE : Str := "abcdefghijklmnopqrstuvwxyz"
abbrev zDG : Str := "0123456789"
def LE : List Nat := zLE.cps.toList
def AL : List Nat := LE ++ zDG.cps.toList
theorem LE_eq : LE = (List.range 26).map (· + 97) := by decide +kernel
def one (c : Nat) : Str := ⟨#[c]⟩
theorem joinL_nil : ∀ l : List (List Nat), TL.joinL [] l = l.flatten
  | [] => rfl
  | [p] => by simp [TL.joinL]
  | p :: q :: r => by rw [TL.joinL, joinL_nil (q :: r)]; simp
theorem join_ones (cs : List Nat) : (Txt.join ("" : Str) (cs.map one)).cps.toList = cs := by
  have e1 : ((cs.map one).map TL.tl).flatten = cs := by
    induction cs with
    | nil => rfl
    | cons c r ih => simp [one, TL.tl] at ih ⊢; exact ih
  have e := TL.tl_join ("" : Str) (cs.map one)
  rw [TL.join_eq]
  have e0 : TL.tl ("" : Str) = [] := by decide +kernel
  rw [e0, joinL_nil, e1] at e
  exact e
theorem sum_ones : ∀ cs : List Nat, ((cs.map one).map (·.length)).sum = cs.length
  | [] => rfl
  | c :: r => by
    have := sum_ones r
    simp only [List.map_cons, List.sum_cons, List.length_cons, this]
    show 1 + r.length = _
    omega
/-- a word as the pen makes it -/
def Wd (z : Str) : Prop := ∃ c r, z.cps.toList = c :: r ∧ c ∈ LE ∧ (∀ x ∈ r, x ∈ AL) ∧ r.length ≤ 6
theorem AL_eq : AL = (zLE ++ zDG).cps.toList := by decide +kernel
def wordAt (zF zB : Str) (a b k : Nat) : Str := zF ++ one (LE.getD ((a + b * k) % 26) 0) ++ zB
theorem tl_wordAt (zF zB : Str) (a b k : Nat) : (wordAt zF zB a b k).cps.toList = zF.cps.toList ++ (LE.getD ((a + b * k) % 26) 0 :: zB.cps.toList) := by
  unfold wordAt
  have e1 := TL.tl_append (zF ++ one (LE.getD ((a + b * k) % 26) 0)) zB
  have e2 := TL.tl_append zF (one (LE.getD ((a + b * k) % 26) 0))
  unfold TL.tl at e1 e2
  rw [e1, e2]
  simp [one]
theorem LE_len : LE.length = 26 := by decide +kernel
theorem LE_getD {i : Nat} (h : i < 26) : LE.getD i 0 = i + 97 := by
  rw [LE_eq]
  simp [h]
theorem LE_mem {i : Nat} (h : i < 26) : LE.getD i 0 ∈ LE := by
  have : i < LE.length := by rw [LE_len]; exact h
  rw [List.getD_eq_getElem?_getD, List.getElem?_eq_getElem this]
  exact List.getElem_mem _
theorem LE_AL {c : Nat} (h : c ∈ LE) : c ∈ AL := List.mem_append_left _ h
theorem wordAt_wd {zF zB : Str} {a b k : Nat} (hF : ∀ c ∈ zF.cps.toList, c ∈ LE) (lF : zF.cps.toList.length ≤ 3) (hB : ∀ c ∈ zB.cps.toList, c ∈ AL) (lB : zB.cps.toList.length ≤ 3) : Wd (wordAt zF zB a b k) := by
  unfold Wd
  rw [tl_wordAt]
  have hm := LE_mem (i := (a + b * k) % 26) (Nat.mod_lt _ (by decide))
  generalize LE.getD ((a + b * k) % 26) 0 = c at hm
  generalize zF.cps.toList = F at hF lF
  generalize zB.cps.toList = B at hB lB
  cases F with
  | nil => exact ⟨c, B, rfl, hm, hB, by omega⟩
  | cons x r =>
    simp only [List.length_cons] at lF
    refine ⟨x, r ++ c :: B, rfl, hF x (List.mem_cons_self ..), fun y hy => ?_, by simp; omega⟩
    rcases List.mem_append.mp hy with h | h
    · exact LE_AL (hF y (List.mem_cons_of_mem _ h))
    · rcases List.mem_cons.mp h with rfl | h
      · exact LE_AL hm
      · exact hB y h
theorem step_inj {a b i j : Nat} (hb : b = 1 ∨ b = 3 ∨ b = 5 ∨ b = 7 ∨ b = 9 ∨ b = 11) (hi : i < 26) (hj : j < 26) (h : (a + b * i) % 26 = (a + b * j) % 26) : i = j := by
  rcases hb with rfl | rfl | rfl | rfl | rfl | rfl <;> omega
theorem wordAt_inj {zF zB : Str} {a b i j : Nat} (hb : b = 1 ∨ b = 3 ∨ b = 5 ∨ b = 7 ∨ b = 9 ∨ b = 11) (hi : i < 26) (hj : j < 26) (h : wordAt zF zB a b i = wordAt zF zB a b j) : i = j := by
  have e := congrArg (fun z : Str => z.cps.toList) h
  simp only [tl_wordAt] at e
  have e2 := List.append_cancel_left e
  injection e2 with e3 _
  rw [LE_getD (Nat.mod_lt _ (by decide)), LE_getD (Nat.mod_lt _ (by decide))] at e3
  exact step_inj (a := a) hb hi hj (by omega)
theorem words_nodup {zF zB : Str} {a b : Nat} (hb : b = 1 ∨ b = 3 ∨ b = 5 ∨ b = 7 ∨ b = 9 ∨ b = 11) : ∀ m, m ≤ 26 → ((List.range m).map (wordAt zF zB a b)).Nodup := fun m hm => by
  rw [List.nodup_iff_pairwise_ne, List.pairwise_map]
  refine List.Pairwise.imp_of_mem ?_ (List.nodup_iff_pairwise_ne.mp List.nodup_range)
  intro i j hi hj hne h
  exact hne (wordAt_inj hb (Nat.lt_of_lt_of_le (List.mem_range.mp hi) hm) (Nat.lt_of_lt_of_le (List.mem_range.mp hj) hm) h)
theorem one_len (c : Nat) : (one c).length = 1 := rfl
theorem len_tl (z : Str) : z.length = z.cps.toList.length := by simp [Str.length]
/-- words: many new words, no two equal -/
def spWords (K : PySem.W.Frag) : Sp := fun vs H Q _ => ∃ (d c : Addr) (n m : Nat), vs = [.ref d, .int (m : Int)] ∧ PenAt H d c n ∧ n ≤ 900000 ∧ m ≤ 26 ∧
  ∀ (p : Addr) (ws : List Str) (H' : Hp), H p = none → H' p = some (.lst (ws.map V.str)) → ws.length = m → ws.Nodup → (∀ z ∈ ws, Wd z) → (∃ k, ∀ z ∈ ws, z.cps.toList.length = k) → PenAt H' d c (n + 20) → Kept d H H' → Q (.ref p) H'
section
variable {P : Program} {w : World} {K : PySem.W.Frag} {mg : Str → Option Value} {base : Heap}
abbrev nWords : List Str := ["_law_pen_here", "_law_many", "_law_letters", "_law_front", "_law_back", "_law_first", "_law_step", "_law_k"]
theorem scWords : FnScope nWords ["_law_pen_here", "_law_many"] (defScope sWords) := ⟨rfl, rfl, rfl, by decide +kernel, rfl, by decide +kernel, by decide +kernel⟩
theorem ok_words {f fD fP : Addr} {fd fdD fdP : FuncData} (D : Df K mg "_law_words" sWords pDraw f fd) (DD : Df K mg "_law_draw" sDraw pDraw fD fdD) (DP : Df K mg "_law_pick" sPick pPick fP fdP) (T : Bt mg) : FnOk P w K mg base CX0 3 f fd pDraw (spWords K) := by
  have GD : FnOk P w K mg base CX0 1 fD fdD pDraw spDraw := ok_draw DD.F T
  have GS : FnOk P w K mg base CX0 2 fP fdP pPick spPickS := ok_pickS DP DD T
  refine D.F.ok scWords (fun vs H Q E h => ?_) (fun cdv A outer s H vs Q E hr h => ?_)
  · obtain ⟨d, c, n, m, rfl, _⟩ := h
    rfl
  · obtain ⟨d, q, n, m, rfl, hp, hn, hm, k⟩ := h
    have hr1 : Room 1 _ := hr.mono (by decide)
    refine ⟨_, pss_cons (ps_set (i := 2) scWords.nd rfl (Or.inr rfl) pe_str)
      (pss_cons (ps_set (i := 3) scWords.nd rfl (Or.inr rfl) (pe_join pe_str (pe_lc (own := [("_law_k", 7)]) (g := gName 7) (by rfl) scWords.nd
        (pi_range1 rfl T.range (pa_cons (pe_call GD hr1 rfl DD.g DD.F.kp DD.b .nil pass0 (pa_cons (pv 0) (pa_cons pe_int pa_nil))) pa_nil))
        (blkOk_by (own := [("_law_k", 7)]) (N := nWords) (sc := defScope sWords) (by decide +kernel)) (fun _ _ _ _ _ => pg_name (i := 7) scWords.nd rfl (Or.inl rfl)) (fun _ _ _ _ _ => pts_nil)
        (fun _ _ _ _ _ => pe_call GS hr rfl DP.g DP.F.kp DP.b .nil pass0 (pa_cons (pv 0) (pa_cons (pv 2) pa_nil))))))
      (pss_cons (ps_set (i := 4) scWords.nd rfl (Or.inr rfl) (pe_join pe_str (pe_lc (own := [("_law_k", 7)]) (g := gName 7) (by rfl) scWords.nd
        (pi_range1 rfl T.range (pa_cons (pe_call GD hr1 rfl DD.g DD.F.kp DD.b .nil pass0 (pa_cons (pv 0) (pa_cons pe_int pa_nil))) pa_nil))
        (blkOk_by (own := [("_law_k", 7)]) (N := nWords) (sc := defScope sWords) (by decide +kernel)) (fun _ _ _ _ _ => pg_name (i := 7) scWords.nd rfl (Or.inl rfl)) (fun _ _ _ _ _ => pts_nil)
        (fun _ _ _ _ _ => pe_call GS hr rfl DP.g DP.F.kp DP.b .nil pass0 (pa_cons (pv 0) (pa_cons (pe_op op_add_str (pv 2) pe_str) pa_nil))))))
      (pss_cons (ps_asg (pe_tup (pa_cons (pe_call GD hr1 rfl DD.g DD.F.kp DD.b .nil pass0 (pa_cons (pv 0) (pa_cons pe_int pa_nil)))
          (pa_cons (pe_ix ix_list (pe_lst (pa_cons pe_int (pa_cons pe_int (pa_cons pe_int (pa_cons pe_int (pa_cons pe_int (pa_cons pe_int pa_nil))))))) (pe_call GD hr1 rfl DD.g DD.F.kp DD.b .nil pass0 (pa_cons (pv 0) (pa_cons pe_int pa_nil))) (fun _ _ => rfl)) pa_nil)))
          (pg_tup (by rfl) (pgs_cons (pg_name (i := 5) scWords.nd rfl (Or.inr rfl)) (pgs_cons (pg_name (i := 6) scWords.nd rfl (Or.inr rfl)) pgs_nil))))
      (pss_one (ps_ret (pe_lc (own := [("_law_k", 7)]) (g := gName 7) (by rfl) scWords.nd
        (pi_range1 rfl T.range (pa_cons (pv 1) pa_nil))
        (blkOk_by (own := [("_law_k", 7)]) (N := nWords) (sc := defScope sWords) (by decide +kernel)) (fun _ _ _ _ _ => pg_name (i := 7) scWords.nd rfl (Or.inl rfl)) (fun _ _ _ _ _ => pts_nil)
        (fun _ _ _ _ _ => pe_op op_add_str (pe_op op_add_str (pv 3) (pe_ix ix_str (pv 2) (pe_op op_modN (pe_callTy call_int1 (by rfl) T.int (by decide +kernel) (pa_cons (pe_op op_add (pv 5) (pe_op op_mul (pv 6) (pv 7))) pa_nil)) pe_int) (fun _ _ => rfl))) (pv 4)))))))), ?_⟩
    -- front
    refine ⟨⟨_, rfl⟩, _, rfl, d, q, n, 4, rfl, hp, by omega, by decide, by decide, fun r H1 r0 r1 hp1 kp1 => ⟨r, rfl, by omega, by omega, fun D1 hD1 => ?_⟩⟩
    obtain ⟨j, rfl⟩ : ∃ j : Nat, r = (j : Int) := ⟨r.toNat, by omega⟩
    rw [Int.toNat_natCast]
    have zD1 : H D1 = none := kp1.free hp1 hD1
    obtain ⟨nDd, nDq⟩ := hp.ne zD1
    refine lc_range (lo := 0) (n := j) (fun i H' => ∃ cs : List Nat, cs.length = i ∧ (∀ c ∈ cs, c ∈ LE) ∧ H' D1 = some (.lst ((cs.map one).map V.str)) ∧ PenAt H' d q (n + 1 + i) ∧ Kept d H H') ?_ ?_ ?_
    · exact ⟨[], rfl, by simp, upd_same, hp1.upd nDd nDq, kp1.upd zD1⟩
    · rintro i H2 hi ⟨cs, hcs, hc, hD, hp2, kp2⟩
      refine ⟨rfl, _, rfl, _, rfl, d, q, _, zLE, rfl, hp2, by omega, by decide +kernel, by decide +kernel, fun c H3 hcm hp3 kp3 => ?_⟩
      have hD3 := kp3 _ _ hD nDd
      refine ⟨_, hD3, ?_, cs ++ [c], by simp [hcs], ?_, ?_, ?_, ?_⟩
      · simp; exact small1000 (by omega)
      · intro x hx
        rcases List.mem_append.mp hx with h | h
        · exact hc x h
        · rw [List.mem_singleton.mp h]; exact hcm
      · rw [upd_same]; simp [one]
      · exact (hp3.upd nDd nDq).mono (by omega)
      · exact (kp2.trans kp3).upd zD1
    · rintro H2 ⟨F, hF, hFm, hD, hp2, kp2⟩
      clear hp1 kp1 hD1
      refine ⟨_, D1, F.map one, rfl, rfl, .inl (SqL.of hD), ?_, ?_⟩
      · rw [sum_ones, List.length_map]
        show F.length + F.length * 0 ≤ 16777216
        omega
      have eF := join_ones F
      generalize Txt.join ("" : Str) (F.map one) = zF at eF ⊢
      -- back
      refine ⟨⟨_, rfl⟩, _, rfl, d, q, _, 4, rfl, hp2, by omega, by decide, by decide, fun r H3 s0 s1 hp3 kp3 => ⟨r, rfl, by omega, by omega, fun D2 hD2 => ?_⟩⟩
      obtain ⟨j', rfl⟩ : ∃ j' : Nat, r = (j' : Int) := ⟨r.toNat, by omega⟩
      rw [Int.toNat_natCast]
      have zD2 : H D2 = none := (kp2.trans kp3).free hp3 hD2
      obtain ⟨mDd, mDq⟩ := hp.ne zD2
      refine lc_range (lo := 0) (n := j') (fun i H' => ∃ cs : List Nat, cs.length = i ∧ (∀ c ∈ cs, c ∈ AL) ∧ H' D2 = some (.lst ((cs.map one).map V.str)) ∧ PenAt H' d q (n + 5 + i) ∧ Kept d H H') ?_ ?_ ?_
      · exact ⟨[], rfl, by simp, upd_same, (hp3.upd mDd mDq).mono (by omega), (kp2.trans kp3).upd zD2⟩
      · rintro i H4 hi ⟨cs, hcs, hc, hD', hp4, kp4⟩
        refine ⟨rfl, _, rfl, _, rfl, _, _, rfl, rfl, by decide +kernel, d, q, _, zLE ++ zDG, rfl, hp4, by omega, by decide +kernel, by decide +kernel, fun c H5 hcm hp5 kp5 => ?_⟩
        have hD5 := kp5 _ _ hD' mDd
        refine ⟨_, hD5, ?_, cs ++ [c], by simp [hcs], ?_, ?_, ?_, ?_⟩
        · simp; exact small1000 (by omega)
        · intro x hx
          rcases List.mem_append.mp hx with h | h
          · exact hc x h
          · rw [List.mem_singleton.mp h, AL_eq]; exact hcm
        · rw [upd_same]; simp [one]
        · exact (hp5.upd mDd mDq).mono (by omega)
        · exact (kp4.trans kp5).upd zD2
      · rintro H4 ⟨B, hB, hBm, hD', hp4, kp4⟩
        clear hp3 kp3 hD2
        refine ⟨_, D2, B.map one, rfl, rfl, .inl (SqL.of hD'), ?_, ?_⟩
        · rw [sum_ones, List.length_map]
          show B.length + B.length * 0 ≤ 16777216
          omega
        have eB := join_ones B
        generalize Txt.join ("" : Str) (B.map one) = zB at eB ⊢
        -- first, step
        refine ⟨_, rfl, d, q, _, 26, rfl, hp4, by omega, by decide, by decide, fun a H5 a0 a1 hp5 kp5 => ?_⟩
        refine ⟨by decide, fun l hl => ?_⟩
        have zl : H l = none := (kp4.trans kp5).free hp5 hl
        obtain ⟨nld, nlq⟩ := hp.ne zl
        refine ⟨_, rfl, d, q, _, 6, rfl, hp5.upd nld nlq, by omega, by decide, by decide, fun b H6 b0 b1 hp6 kp6 => ?_⟩
        obtain ⟨a, rfl⟩ : ∃ j : Nat, a = (j : Int) := ⟨a.toNat, by omega⟩
        obtain ⟨b, rfl⟩ : ∃ j : Nat, b = (j : Int) := ⟨b.toNat, by omega⟩
        have hl6 := kp6 l _ upd_same nld
        obtain ⟨st, hst, hst2⟩ : ∃ st : Nat, ([V.int 1, V.int 3, V.int 5, V.int 7, V.int 9, V.int 11] : List V)[b]? = some (.int (st : Int)) ∧ (st = 1 ∨ st = 3 ∨ st = 5 ∨ st = 7 ∨ st = 9 ∨ st = 11) := by
          have : b < 6 := by omega
          rcases b with _ | _ | _ | _ | _ | _ | b
          · exact ⟨1, rfl, by simp⟩
          · exact ⟨3, rfl, by simp⟩
          · exact ⟨5, rfl, by simp⟩
          · exact ⟨7, rfl, by simp⟩
          · exact ⟨9, rfl, by simp⟩
          · exact ⟨11, rfl, by simp⟩
          · omega
        refine ⟨l, _, _, _, rfl, rfl, SqL.of hl6, atI_nat hst, ?_⟩
        refine ⟨by show 2 ≤ sizeLine; decide, fun t ht => ?_⟩
        refine ⟨t, _, rfl, SqT.of upd_same, rfl, ?_⟩
        have hp7 : PenAt (upd H6 t (.tup [V.int (a : Int), V.int (st : Int)])) d q (n + 20) := (hp6.same (same_upd ht)).mono (by omega)
        have kp7 : Kept d H (upd H6 t (.tup [V.int (a : Int), V.int (st : Int)])) := (((kp4.trans kp5).upd zl).trans kp6).trans (.same (same_upd ht))
        generalize upd H6 t (.tup [V.int (a : Int), V.int (st : Int)]) = H7 at hp7 kp7 ⊢
        refine ⟨_, _, rfl, _, _, rfl, rfl, ?_⟩
        -- the words
        refine ⟨_, rfl, (m : Int), rfl, by omega, by omega, fun D3 hD3 => ?_⟩
        rw [Int.toNat_natCast]
        have zD3 : H D3 = none := kp7.free hp7 hD3
        obtain ⟨oDd, oDq⟩ := hp.ne zD3
        have lzF : zF.length ≤ 3 := by rw [len_tl, eF, hF]; omega
        have lzB : zB.length ≤ 3 := by rw [len_tl, eB, hB]; omega
        refine lc_range (lo := 0) (n := m) (fun i H' => H' D3 = some (.lst (((List.range i).map (wordAt zF zB a st)).map V.str)) ∧ PenAt H' d q (n + 20) ∧ Kept d H H') ?_ ?_ ?_
        · exact ⟨upd_same, hp7.upd oDd oDq, kp7.upd zD3⟩
        · rintro i H8 hi ⟨hD8, hp8, kp8⟩
          have hi26 : i < 26 := by omega
          refine ⟨rfl, _, rfl, _, rfl, _, rfl, _, rfl, _, rfl, _, _, rfl, rfl, .inl ⟨by omega, by omega⟩, _, _, rfl, rfl, .inl ⟨_, rfl, ?_⟩⟩
          refine ⟨_, _, rfl, rfl, by show (26 : Int) ≠ 0; decide, ?_⟩
          have ei : ((a : Int) + (st : Int) * (0 + (i : Int))).fmod 26 = (((a + st * i) % 26 : Nat) : Int) := by
            rw [Int.fmod_eq_emod_of_nonneg _ (by decide)]
            simp
          have hlt : (a + st * i) % 26 < 26 := Nat.mod_lt _ (by decide)
          refine ⟨zLE, _, LE.getD ((a + st * i) % 26) 0, rfl, rfl, by decide +kernel, ?_, _, _, rfl, rfl, ?_, _, rfl, _, _, rfl, rfl, ?_, _, hD8, ?_, ?_, ?_, ?_⟩
          · show atI LE (((a : Int) + (st : Int) * (0 + (i : Int))).fmod 26) = _
            rw [ei]
            refine atI_nat ?_
            show LE[(a + st * i) % 26]? = _
            have : (a + st * i) % 26 < LE.length := by rw [LE_len]; exact hlt
            rw [List.getD_eq_getElem?_getD, List.getElem?_eq_getElem this]
            rfl
          · show zF.length + 1 ≤ sizeLine
            exact Nat.le_trans (by omega : zF.length + 1 ≤ 100) (by decide)
          · have e1 : (zF ++ (⟨#[LE.getD ((a + st * i) % 26) 0]⟩ : Str)).length = zF.length + 1 := by
              rw [len_tl, len_tl]
              have := TL.tl_append zF (⟨#[LE.getD ((a + st * i) % 26) 0]⟩ : Str)
              unfold TL.tl at this
              rw [this]
              simp
            rw [e1]
            exact Nat.le_trans (by omega : zF.length + 1 + zB.length ≤ 100) (by decide)
          · simp; exact small1000 (by omega)
          · rw [upd_same, List.range_succ]
            simp [wordAt, one]
          · exact hp8.upd oDd oDq
          · exact kp8.upd zD3
        · rintro H8 ⟨hD8, hp8, kp8⟩
          refine k D3 _ H8 zD3 hD8 (by simp) (words_nodup hst2 m hm) (fun z hz => ?_) ⟨zF.cps.toList.length + 1 + zB.cps.toList.length, fun z hz => by
            obtain ⟨i, _, rfl⟩ := List.mem_map.mp hz
            rw [tl_wordAt]; simp; omega⟩ hp8 kp8
          obtain ⟨i, _, rfl⟩ := List.mem_map.mp hz
          refine wordAt_wd (fun c hc => hFm c (eF ▸ hc)) (by rw [eF, hF]; omega) (fun c hc => hBm c (eB ▸ hc)) (by rw [eB, hB]; omega)
end
end K1
set_option Elab.async false
set_option linter.all false
set_option maxRecDepth 100000
/-! tuples whose object is known to have no dict: their methods can be called -/
namespace L2
open PySem PySem.Spec PyProof.Rows
def SqF (H : Hp) (a : Addr) (xs : List V) : Prop := ∃ o, H a = some (.frz o (.tup xs)) ∧ o.dict = none
theorem SqF.sq {K : PySem.W.Frag} {H : Hp} {a : Addr} {xs : List V} (h : SqF H a xs) : SqT K H a xs := by
  obtain ⟨o, h, _⟩ := h
  exact .inl (.inr ⟨o, h⟩)
section
variable {X : Cx}
/-- tuple(xs): a new tuple, known to be one that was made -/
def rTuF (K : PySem.W.Frag) : List V → Hp → VK → Prop := fun xs H Q => ∃ p ys, xs = [.ref p] ∧ ((SqL K H p ys ∧ ∀ l o, H l = none → o.dict = none → Q (.ref l) (upd H l (.frz o (.tup ys)))) ∨ (SqT K H p ys ∧ Q (.ref p) H))
theorem call_tuple_F : CallR X (.type "tuple") (rTuF X.K) := by
  intro pins s σ H xs us Q I r h
  obtain ⟨p, ys, rfl, h⟩ := h
  obtain ⟨u, rfl, rx⟩ := vals1 r
  cases rx
  rcases h with ⟨hq, q⟩ | ⟨hq, q⟩
  · obtain ⟨its, r', pl, hz⟩ := I.list hq
    have hlen := r'.length
    refine call_tuple_list pl.isList (fun h' kp => ?_) (by simp only [List.size_toArray] <;> omega)
    have I1 : Inv X pins σ H { s with heap := h' } := I.kept (t' := s.toks) kp
    have I2 : Inv X pins σ (upd H h'.objs.size (.frz { cls := .type "tuple", data := .seq its.toArray } (.tup ys))) { s with heap := h'.push { cls := .type "tuple", data := .seq its.toArray } } :=
      I1.laid (t' := s.toks) (fun b o e => Heap.get?_push_of_some _ e) (Nat.le_refl _) (show ObjOk X.prog X.w _ _ _ (.frz _ (.tup ys)) from ⟨Heap.get?_push_size _ rfl, hz, its, r', IsTup.new _ _⟩)
    exact ⟨.ref h'.objs.size, _, I2, rfl, q _ _ (I1.hok.fresh (Nat.le_refl _)) rfl⟩
  · obtain ⟨its, r', pl, hz⟩ := I.tuple hq
    exact call_tuple_same pl ⟨.ref p, H, I, rfl, q⟩
def tBMF (r : V → List V → Hp → VK → Prop) (to : TE) (t : TA) : TE := fun σ H Q => to σ H fun x H1 => (∃ p xs, x = .ref p ∧ SqF H1 p xs) ∧ t σ H1 fun xs H2 => r x xs H2 Q
theorem pe_bmF {o e : Expr} {es : List Expr} {to : TE} {t : TA} {name : Str} {apos cpos : Pos} {id : String} {r : V → List V → Hp → VK → Prop}
    (slot : Slot "tuple" name id) (hty : typeOf (.builtin id) = pure (.type "method_descriptor")) (hm : MtR X id r) (ho : PE X o to) (ha : PA X (e :: es) t)
    (hbase : attributeBase o name X.env (eval o X.env) = eval o X.env := by rfl)
    (hfew : ((backTo cpos (starEach (e :: es) X.env)).all (fun x => !x.1) && (backToKw cpos (keywordEach [] X.env)).all (fun x => x.1.isSome)
      && decide ((e :: es).length + ([] : List Keyword).length + (if ([] : List Keyword).isEmpty then 0 else 1) < 30)) = true := by rfl)
    (hline : (apos.endLine == cpos.line) = true := by rfl) (hs : starEach (e :: es) X.env = (false, eval e X.env) :: starEach es X.env := by rfl) (hplain : (backTo cpos (starEach es X.env)).any (·.1) = false := by rfl) :
    PE X (.Call (.Attribute o name apos) (e :: es) [] cpos) (tBMF r to t) := by
  refine ⟨fun pins s σ H Q I h => ?_⟩
  refine wpAny_Call_method_late hbase hfew hline rfl (thn (ho.run pins s σ H _ I h) fun v s1 ⟨x, H1, I1, r1, ⟨p, ys, ex, fz⟩, q1⟩ => ?_)
  subst ex
  cases (show v = Value.ref p from r1)
  obtain ⟨ob, hF, hd⟩ := fz
  obtain ⟨hg, _, its, _, o2, ho2, hc2, _⟩ := I1.hok p _ hF
  rw [hg] at ho2
  cases ho2
  refine ⟨"tuple", id, PySem.F.plainAttrs_tuple, slot, hty, ⟨ob, hg, hc2⟩, fun a ea => by cases ea; exact ⟨ob, hg, hd⟩, ?_⟩
  have hA := ha.run cpos pins s1 σ H1 _ I1 q1
  rw [hs] at hA ⊢
  refine Calls.callWith_builtin (by show (false || (backTo cpos (starEach es X.env)).any (·.1)) = false; rw [hplain] <;> rfl) (Calls.evalArgs_plain ?_)
  exact thn hA fun us s2 ⟨vs, H2, I2, r2, q2⟩ => hm pins s2 σ H2 (.ref p) vs (.ref p) us Q I2 r1 r2 q2
end
theorem SqF.same {H H' : Hp} {a : Addr} {xs : List V} (h : SqF H a xs) (s : Same H H') : SqF H' a xs := by
  obtain ⟨o, h, e⟩ := h
  exact ⟨o, s _ _ h, e⟩
theorem SqF.upd {H : Hp} {a D : Addr} {o : HO} {xs : List V} (h : SqF H a xs) (n : a ≠ D) : SqF (upd H D o) a xs := by
  obtain ⟨o, h, e⟩ := h
  exact ⟨o, by rw [upd_ne n]; exact h, e⟩
end L2
namespace K1
open PySem L2
theorem Kept.seqF {d : Addr} {H H' : Hp} {a : Addr} {xs : List V} (k : Kept d H H') {u : HO} (hd : H d = some u) (n : ∀ o ys, u ≠ .frz o (.tup ys)) (h : SqF H a xs) : SqF H' a xs := by
  obtain ⟨o, h, e⟩ := h
  exact ⟨o, k _ _ h (fun z => by rw [z, hd] at h; cases h; exact n _ _ rfl), e⟩
end K1
set_option Elab.async false
set_option linter.all false
set_option maxRecDepth 100000
namespace K1
open PySem L2
abbrev sPlain : Stmt := top 46
def valOf : Stmt → Expr
  | .Assign _ v _ => v
  | .Return (some v) _ => v
  | _ => .Constant .none 0 ⟨0, 0, 0, 0⟩
def compScope : Expr → Scope
  | .ListComp _ _ sc _ => sc
  | _ => { kind := .function, names := [], isGenerator := false, isCoroutine := false }
def eltOf : Expr → Expr
  | .ListComp e _ _ _ => e
  | e => e
def stOf (s : Stmt) (i : Nat) : Stmt := (defBody s).getD i (.Pass ⟨0, 0, 0, 0⟩)
def spPen (K : PySem.W.Frag) : Sp := fun vs H Q _ => ∃ (a : Addr) (ns : List Int), vs = [.ref a] ∧ SqL K H a (ns.map V.int) ∧ ns.length ≤ 63 ∧
  ∀ (d c : Addr) (H' : Hp), H d = none → H c = none → PenAt H' d c 0 → Same H H' → Q (.ref d) H'
abbrev kDeeds : Key := Sum.inr "deeds"
abbrev kRows : Key := Sum.inr "rows"
abbrev kTells : Key := Sum.inr "tells"
abbrev kStart : Key := Sum.inr "start"
def plainK (t r l : Addr) (s : Int) : List (Key × V) := [(kDeeds, .ref t), (kRows, .ref r), (kTells, .ref l), (kStart, .int s)]
/-- lists of ints at the addresses as, row by row -/
def RowsAt (H : Hp) (as : List Addr) (rs : List (List Int)) : Prop := as.length = rs.length ∧ ∀ (i : Nat) (a : Addr) (r : List Int), as[i]? = some a → rs[i]? = some r → H a = some (.lst (r.map V.int))
structure PlainAt (H : Hp) (p : Addr) (ws : List Str) (rs : List (List Int)) (ss : List Str) (st : Int) : Prop where
  ex : ∃ (t r l : Addr) (as : List Addr), H p = some (.dK (plainK t r l st)) ∧ SqF H t (ws.map V.str) ∧ H r = some (.lst (as.map V.ref)) ∧ H l = some (.lst (ss.map V.str)) ∧ RowsAt H as rs
/-- a machine's parts as they must be -/
structure GoodP (ws : List Str) (rs : List (List Int)) (ss : List Str) (st : Int) (tells : List Str) : Prop where
  many : 1 ≤ rs.length ∧ rs.length ≤ 12
  row : ∀ r ∈ rs, r.length = ws.length ∧ ∀ x ∈ r, 0 ≤ x ∧ x < rs.length
  tl : ss.length = rs.length ∧ ∀ z ∈ ss, z ∈ tells
  st : 0 ≤ st ∧ st < rs.length
def spPlain (K : PySem.W.Frag) : Sp := fun vs H Q _ => ∃ (d c dl tl : Addr) (n : Nat) (m : Int) (ws ts : List Str), vs = [.ref d, .ref dl, .int m, .ref tl] ∧ PenAt H d c n ∧ n ≤ 800000 ∧ SqL K H dl (ws.map V.str) ∧ dl ≠ d ∧ ws.length ≤ 26 ∧
  SqL K H tl (ts.map V.str) ∧ tl ≠ d ∧ 0 < ts.length ∧ ts.length ≤ 10 ∧ 1 ≤ m ∧ m ≤ 12 ∧
  ∀ (p : Addr) (rs : List (List Int)) (ss : List Str) (st : Int) (H' : Hp), H p = none → PlainAt H' p ws rs ss st → GoodP ws rs ss st ts → (rs.length : Int) ≤ m → PenAt H' d c (n + 400) → Kept d H H' → Q (.ref p) H'
theorem plainK_merge (t r l : Addr) (s : Int) : mergeK [] (plainK t r l s) = plainK t r l s := by
  have h1 : ¬ (("deeds" : Str) = "rows") := by decide +kernel
  have h2 : ¬ (("deeds" : Str) = "tells") := by decide +kernel
  have h3 : ¬ (("deeds" : Str) = "start") := by decide +kernel
  have h4 : ¬ (("rows" : Str) = "tells") := by decide +kernel
  have h5 : ¬ (("rows" : Str) = "start") := by decide +kernel
  have h6 : ¬ (("tells" : Str) = "start") := by decide +kernel
  unfold mergeK plainK putK
  simp [h1, h2, h3, h4, h5, h6]
theorem RowsAt.kept {d : Addr} {H H' : Hp} {as : List Addr} {rs : List (List Int)} (h : RowsAt H as rs) (k : Kept d H H') (nd : ∀ a ∈ as, a ≠ d) : RowsAt H' as rs :=
  ⟨h.1, fun i a r e1 e2 => k _ _ (h.2 i a r e1 e2) (nd a (List.mem_of_getElem? e1))⟩
theorem RowsAt.snoc {H : Hp} {as : List Addr} {rs : List (List Int)} {a : Addr} {r : List Int} (h : RowsAt H as rs) (e : H a = some (.lst (r.map V.int))) : RowsAt H (as ++ [a]) (rs ++ [r]) := by
  refine ⟨by simp [h.1], fun i b q e1 e2 => ?_⟩
  by_cases hi : i < as.length
  · rw [List.getElem?_append_left hi] at e1
    rw [List.getElem?_append_left (by rw [← h.1]; exact hi)] at e2
    exact h.2 i b q e1 e2
  · rw [List.getElem?_append_right (by omega)] at e1
    rw [List.getElem?_append_right (by rw [← h.1]; omega), ← h.1] at e2
    cases hj : i - as.length with
    | zero =>
      rw [hj] at e1 e2
      simp at e1 e2
      rw [← e1, ← e2]; exact e
    | succ j => rw [hj] at e1; simp at e1
section
variable {P : Program} {w : World} {K : PySem.W.Frag} {mg : Str → Option Value} {base : Heap}
theorem scPen : FnScope ["_law_script"] ["_law_script"] (defScope sPen) := ⟨rfl, rfl, rfl, by decide +kernel, rfl, by decide +kernel, by decide +kernel⟩
theorem cut63 {xs : List V} (h : xs.length ≤ 63) : cutV xs none (some 63) = xs := by
  have e : HT.sIx xs.length xs.length (some 63) = min 63 xs.length := HT.sIx_nat xs.length xs.length 63
  unfold cutV
  rw [HT.sIx_none, e, Nat.min_eq_right h]
  simp
theorem ok_pen {f : Addr} {fd : FuncData} (D : Df K mg "_law_pen" sPen ["_law_script"] f fd) (T : Bt mg) : FnOk P w K mg base CX0 1 f fd ["_law_script"] (spPen K) := by
  refine D.F.ok scPen (fun vs H Q E h => ?_) (fun cdv A outer s H vs Q E hr h => ?_)
  · obtain ⟨a, ns, rfl, _⟩ := h
    rfl
  · obtain ⟨a, ns, rfl, ha, hl, k⟩ := h
    refine ⟨_, pss_one (ps_ret (pe_disp (pps_cons pe_str (pe_callTy call_list_of (by rfl) T.list (by decide +kernel) (pa_cons (pe_slice sl_list (pv 0) po_none (po_some pe_int)) pa_nil))
      (pps_cons pe_str pe_int (pps_cons pe_str pe_int pps_nil))) (by rfl) (by rfl) (fun z => by cases z) (by decide))), ?_⟩
    intro p hp
    have ha1 := (same_upd (o := .dK []) hp).seq ha
    refine ⟨_, rfl, 63, rfl, a, _, rfl, ha1, fun q hq => ?_⟩
    rw [cut63 (by simpa using hl)]
    refine ⟨q, _, rfl, .inl (SqL.of upd_same), fun c hc => ?_⟩
    have npq : p ≠ q := by intro z; rw [z, upd_same] at hq; cases hq
    have nqp := npq.symm
    have zq : H q = none := by rw [upd_ne nqp] at hq; exact hq
    have npc : p ≠ c := by
      intro z; rw [z] at npq; rw [← z, upd_ne (by rw [z]; exact npq), upd_same] at hc; cases hc
    have nqc : q ≠ c := by intro z; rw [← z, upd_same] at hc; cases hc
    have zc : H c = none := by rw [upd_ne nqc.symm, upd_ne npc.symm] at hc; exact hc
    refine ⟨by rw [upd_ne npc, upd_ne npq, upd_same], penK c 0 0, rfl, by show 3 ≤ 15; decide, ?_⟩
    have em : mergeK [] (penK c 0 0) = penK c 0 0 := by
      have h1 : ¬ (("cells" : Str) = "at") := by decide +kernel
      have h2 : ¬ (("cells" : Str) = "left") := by decide +kernel
      have h3 : ¬ (("at" : Str) = "left") := by decide +kernel
      unfold mergeK penK putK
      simp [h1, h2, h3]
    rw [em]
    refine k p c _ hp zc ⟨ns, 0, 0, upd_same, ?_, hl, by decide, by decide⟩ ?_
    · rw [upd_ne npc.symm, upd_same]
    · intro b o e
      rw [upd_ne (ne_of_none e hp), upd_ne (ne_of_none e zc), upd_ne (ne_of_none e zq), upd_ne (ne_of_none e hp)]
      exact e
abbrev nPlain : List Str := ["_law_pen_here", "_law_deeds", "_law_most", "_law_tells", "_law_many", "_law_rows_here", "_law_told", "_law_spot", "_law_deed"]
abbrev pPlain : List Str := ["_law_pen_here", "_law_deeds", "_law_most", "_law_tells"]
theorem scPlain : FnScope nPlain pPlain (defScope sPlain) := ⟨rfl, rfl, rfl, by decide +kernel, rfl, by decide +kernel, by decide +kernel⟩
abbrev scO : Scope := compScope (valOf (stOf sPlain 1))
theorem ok_plain {f fD fP : Addr} {fd fdD fdP : FuncData} (D : Df K mg "_law_plain" sPlain pPlain f fd) (DD : Df K mg "_law_draw" sDraw pDraw fD fdD) (DP : Df K mg "_law_pick" sPick pPick fP fdP) (T : Bt mg) : FnOk P w K mg base CX0 3 f fd pPlain (spPlain K) := by
  have GD : FnOk P w K mg base CX0 1 fD fdD pDraw spDraw := ok_draw DD.F T
  have GL : FnOk P w K mg base CX0 2 fP fdP pPick (spPickL K) := ok_pickL DP DD T
  refine D.F.ok scPlain (fun vs H Q E h => ?_) (fun cdv A outer s H vs Q E hr h => ?_)
  · obtain ⟨d, c, dl, tl, n, m, ws, ts, rfl, _⟩ := h
    rfl
  · obtain ⟨d, c, dl, tl, n, m, ws, ts, rfl, hp, hn, hdl, ndl, hws, htl, ntl, ht0, ht1, hm0, hm1, k⟩ := h
    have hr1 : Room 1 _ := hr.mono (by decide)
    have hin : ∀ (s' : Shared) (H' : Hp) (C' : Addr) (cl' : List (Str × Addr)) (fp' : List Addr), PE (Cx.blk (cxOf CX0 P w K mg base nPlain "_law_plain" (defScope sPlain) f cdv A outer s H E).nox s' H' scO (compEnvC scO cl' C' (cxOf CX0 P w K mg base nPlain "_law_plain" (defScope sPlain) f cdv A outer s H E).nox.env) fp')
        (eltOf (valOf (stOf sPlain 1))) (tLc (iList K (tVar 1)) (gName 8) tYes (tCall spDraw [] E0 (tCons (tVar 0) (tCons (tVar 4) tNil))) [8]) := fun s' H' C' cl' fp' =>
      pe_lc (own := [("_law_deed", 8)]) (g := gName 8) (by rfl) scPlain.nd (pi_list (pv 1))
          (blkOk_by (own := [("_law_deed", 8)]) (N := nPlain) (sc := relS scO (defScope sPlain)) (by decide +kernel)) (fun _ _ _ _ _ => pg_name (i := 8) scPlain.nd rfl (Or.inl rfl)) (fun _ _ _ _ _ => pts_nil)
          (fun _ _ _ _ _ => pe_call GD hr1 rfl DD.g DD.F.kp DD.b .nil pass0 (pa_cons (pv 0) (pa_cons (pv 4) pa_nil)))
    refine ⟨_, pss_cons (ps_set (i := 4) scPlain.nd rfl (Or.inr rfl) (pe_op op_add pe_int (pe_call GD hr1 rfl DD.g DD.F.kp DD.b .nil pass0 (pa_cons (pv 0) (pa_cons (pv 2) pa_nil)))))
      (pss_cons (ps_setLc (i := 5) (own := [("_law_spot", 7)]) (g := gName 7) (by rfl) scPlain.nd rfl rfl (sw_true rfl rfl rfl (by decide +kernel))
        (pi_range1 rfl T.range (pa_cons (pv 4) pa_nil))
        (blkOk_by (own := [("_law_spot", 7)]) (N := nPlain) (sc := defScope sPlain) (by decide +kernel)) (fun _ _ _ _ _ => pg_name (i := 7) scPlain.nd rfl (Or.inl rfl)) (fun _ _ _ _ _ => pts_nil)
        hin)
      (pss_cons (ps_setLc (i := 6) (own := [("_law_spot", 7)]) (g := gName 7) (by rfl) scPlain.nd rfl rfl (sw_true rfl rfl rfl (by decide +kernel))
        (pi_range1 rfl T.range (pa_cons (pv 4) pa_nil))
        (blkOk_by (own := [("_law_spot", 7)]) (N := nPlain) (sc := defScope sPlain) (by decide +kernel)) (fun _ _ _ _ _ => pg_name (i := 7) scPlain.nd rfl (Or.inl rfl)) (fun _ _ _ _ _ => pts_nil)
        (fun _ _ _ _ _ => pe_call GL hr rfl DP.g DP.F.kp DP.b .nil pass0 (pa_cons (pv 0) (pa_cons (pv 3) pa_nil))))
      (pss_one (ps_ret (pe_disp (pps_cons pe_str (pe_callTy (r := rTuF K) call_tuple_F (by rfl) T.tuple (by decide +kernel) (pa_cons (pv 1) pa_nil))
        (pps_cons pe_str (pv 5) (pps_cons pe_str (pv 6) (pps_cons pe_str (pe_call GD hr1 rfl DD.g DD.F.kp DD.b .nil pass0 (pa_cons (pv 0) (pa_cons (pv 4) pa_nil))) pps_nil)))) (by rfl) (by rfl) (fun z => by cases z) (by decide)))))), ?_⟩
    refine ⟨_, rfl, _, rfl, d, c, n, m, rfl, hp, by omega, by omega, by omega, fun r H1 r0 r1 hp1 kp1 => ⟨_, _, rfl, rfl, ?_⟩⟩
    obtain ⟨M, eM⟩ : ∃ M : Nat, 1 + r = (M : Int) := ⟨(1 + r).toNat, by omega⟩
    show _
    have hM : 1 ≤ M ∧ M ≤ 12 := by omega
    simp only [eM]
    refine ⟨_, rfl, (M : Int), rfl, by omega, by omega, fun D1 hD1 => ?_⟩
    rw [Int.toNat_natCast]
    have zD1 : H D1 = none := kp1.free hp1 hD1
    obtain ⟨n1d, n1c⟩ := hp.ne zD1
    refine lc_range (lo := 0) (n := M) (fun i H' => ∃ (as : List Addr) (rs : List (List Int)), rs.length = i ∧ H' D1 = some (.lst (as.map V.ref)) ∧ RowsAt H' as rs ∧ (∀ r ∈ rs, r.length = ws.length ∧ ∀ x ∈ r, 0 ≤ x ∧ x < (M : Int)) ∧
      (∀ a ∈ as, H a = none ∧ a ≠ D1) ∧ PenAt H' d c (n + 1 + 27 * i) ∧ Kept d H H') ?_ ?_ ?_
    · exact ⟨[], [], rfl, upd_same, ⟨rfl, fun i a r e => by simp at e⟩, by simp, by simp, hp1.upd n1d n1c, kp1.upd zD1⟩
    · rintro i H2 hi ⟨as, rs, hrs, hD, hR, hrow, has, hp2, kp2⟩
      refine ⟨rfl, _, rfl, dl, rfl, ⟨_, kp2.seq ndl hdl⟩, fun D2 hD2 => ?_⟩
      have zD2 : H D2 = none := kp2.free hp2 hD2
      obtain ⟨n2d, n2c⟩ := hp.ne zD2
      have n12 : D1 ≠ D2 := ne_of_none hD hD2
      refine lc_list (K := K) (a := dl) (xs := ws.map V.str) (fun j H' => ∃ r : List Int, r.length = j ∧ (∀ x ∈ r, 0 ≤ x ∧ x < (M : Int)) ∧ H' D2 = some (.lst (r.map V.int)) ∧ PenAt H' d c (n + 1 + 27 * i + j) ∧ Kept d H2 H' ∧ Kept d H H') ?_ ?_ ?_ ?_
      · exact ⟨[], rfl, by simp, upd_same, hp2.upd n2d n2c, (Kept.refl d H2).upd hD2, kp2.upd zD2⟩
      · rintro j H3 hj ⟨r, _, _, _, _, _, kp3⟩
        exact kp3.seq ndl hdl
      · rintro j x H3 hj ⟨r, hrj, hrb, hD3, hp3, kp3, kq3⟩
        have hj2 : j < ws.length := by
          have := (List.getElem?_eq_some_iff.mp hj).1
          rwa [List.length_map] at this
        refine ⟨rfl, _, rfl, _, rfl, d, c, _, (M : Int), rfl, hp3, by omega, by omega, by omega, fun y H4 y0 y1 hp4 kp4 => ?_⟩
        refine ⟨_, kp4 _ _ hD3 n2d, ?_, r ++ [y], by simp [hrj], ?_, ?_, ?_, ?_, ?_⟩
        · rw [List.length_map]; exact small1000 (by omega)
        · intro z hz
          rcases List.mem_append.mp hz with h | h
          · exact hrb z h
          · rw [List.mem_singleton.mp h]; exact ⟨y0, y1⟩
        · rw [upd_same]; simp
        · exact hp4.upd n2d n2c
        · exact (kp3.trans kp4).upd hD2
        · exact (kq3.trans kp4).upd zD2
      · rintro H3 ⟨r, hrj, hrb, hD3, hp3, kp3, kq3⟩
        rw [List.length_map] at hrj hp3
        have hDD := kp3 _ _ hD n1d
        have hR3 := hR.kept kp3 (fun a ha => (hp.ne (has a ha).1).1)
        refine ⟨_, hDD, ?_, as ++ [D2], rs ++ [r], by simp [hrs], ?_, ?_, ?_, ?_, ?_, ?_⟩
        · rw [List.length_map, hR.1]; exact small1000 (by omega)
        · rw [upd_same]; simp
        · have hq : RowsAt H3 (as ++ [D2]) (rs ++ [r]) := hR3.snoc hD3
          refine ⟨hq.1, fun i a q e1 e2 => ?_⟩
          have hm := List.mem_of_getElem? e1
          have : a ≠ D1 := by
            rcases List.mem_append.mp hm with h | h
            · exact (has a h).2
            · rw [List.mem_singleton.mp h]; exact n12.symm
          rw [upd_ne this]
          exact hq.2 i a q e1 e2
        · intro q hq
          rcases List.mem_append.mp hq with h | h
          · exact hrow q h
          · rw [List.mem_singleton.mp h]; exact ⟨hrj, hrb⟩
        · intro a ha
          rcases List.mem_append.mp ha with h | h
          · exact has a h
          · rw [List.mem_singleton.mp h]; exact ⟨zD2, n12.symm⟩
        · exact (hp3.upd n1d n1c).mono (by omega)
        · exact kq3.upd zD1
    · rintro H5 ⟨as, rs, hrs, hD5, hR5, hrow, has, hp5, kp5⟩
      -- told
      refine ⟨_, rfl, (M : Int), rfl, by omega, by omega, fun D3 hD3 => ?_⟩
      rw [Int.toNat_natCast]
      have zD3 : H D3 = none := kp5.free hp5 hD3
      obtain ⟨n3d, n3c⟩ := hp.ne zD3
      refine lc_range (lo := 0) (n := M) (fun i H' => ∃ ss : List Str, ss.length = i ∧ (∀ z ∈ ss, z ∈ ts) ∧ H' D3 = some (.lst (ss.map V.str)) ∧ PenAt H' d c (n + 340 + i) ∧ Kept d H5 H' ∧ Kept d H H') ?_ ?_ ?_
      · exact ⟨[], rfl, by simp, upd_same, (hp5.upd n3d n3c).mono (by omega), (Kept.refl d H5).upd hD3, kp5.upd zD3⟩
      · rintro i H6 hi ⟨ss, hss, hst, hD6, hp6, kp6, kq6⟩
        refine ⟨rfl, _, rfl, _, rfl, d, c, tl, _, ts.map V.str, rfl, hp6, by omega, ntl, kq6.seq ntl htl, by rw [List.length_map]; exact ht0, by rw [List.length_map]; omega, fun x H7 hx hp7 kp7 => ?_⟩
        obtain ⟨z, hz, rfl⟩ := List.mem_map.mp hx
        refine ⟨_, kp7 _ _ hD6 n3d, ?_, ss ++ [z], by simp [hss], ?_, ?_, ?_, ?_, ?_⟩
        · rw [List.length_map]; exact small1000 (by omega)
        · intro y hy
          rcases List.mem_append.mp hy with h | h
          · exact hst y h
          · rw [List.mem_singleton.mp h]; exact hz
        · rw [upd_same]; simp
        · exact hp7.upd n3d n3c
        · exact (kp6.trans kp7).upd hD3
        · exact (kq6.trans kp7).upd zD3
      · rintro H7 ⟨ss, hss, hst, hD7, hp7, kp7, kq7⟩
        intro p hp'
        have zp : H p = none := kq7.free hp7 hp'
        have kq8 : Kept d H (upd H7 p (.dK [])) := kq7.upd zp
        obtain ⟨npd, npc⟩ := hp.ne zp
        refine ⟨_, rfl, dl, _, rfl, .inl ⟨kq8.seq ndl hdl, fun t ob ht hob => ?_⟩⟩
        have zt : H t = none := by
          refine kq8.free (hp7.upd npd npc) ht
        obtain ⟨ntd, ntc⟩ := hp.ne zt
        have npt : p ≠ t := by intro z; rw [← z, upd_same] at ht; cases ht
        refine ⟨_, rfl, _, rfl, _, rfl, _, rfl, d, c, _, (M : Int), rfl, (hp7.upd npd npc).upd ntd ntc, by omega, by omega, by omega, fun st H9 s0 s1 hp9 kp9 => ?_⟩
        have zt7 : H7 t = none := by rw [upd_ne npt.symm] at ht; exact ht
        have sm : Same H7 (upd (upd H7 p (.dK [])) t (.frz ob (.tup (ws.map V.str)))) := fun b o e => by
          rw [upd_ne (ne_of_none e zt7), upd_ne (ne_of_none e hp')]; exact e
        have k79 : Kept d H7 H9 := (Kept.same sm).trans kp9
        have hp9' : H9 p = some (.dK []) := kp9 _ _ (by rw [upd_ne npt, upd_same]) npd
        have ht9 : H9 t = some (.frz ob (.tup (ws.map V.str))) := kp9 _ _ upd_same ntd
        have hD79 := k79 _ _ hD7 n3d
        have k59 : Kept d H5 H9 := kp7.trans k79
        have hD59 := k59 _ _ hD5 n1d
        have hR9 := hR5.kept k59 (fun a ha => (hp.ne (has a ha).1).1)
        refine ⟨hp9', plainK t D1 D3 st, rfl, by show 4 ≤ 15; decide, ?_⟩
        rw [plainK_merge]
        have kq9 : Kept d H H9 := kq7.trans k79
        have n1p : D1 ≠ p := ne_of hD59 hp9' (by intro z; cases z)
        have n3p : D3 ≠ p := ne_of hD79 hp9' (by intro z; cases z)
        refine k p rs ss st _ zp ⟨t, D1, D3, as, upd_same, ?_, ?_, ?_, hR9.1, fun i a q e1 e2 => ?_⟩ ⟨by rw [hrs]; exact hM, fun r hr => by rw [hrs]; exact hrow r hr, ⟨by rw [hss, hrs], hst⟩, by rw [hrs]; exact ⟨s0, s1⟩⟩ (by rw [hrs]; omega) ((hp9.upd npd npc).mono (by omega)) (kq9.upd zp)
        · exact ⟨ob, by rw [upd_ne npt.symm]; exact ht9, hob⟩
        · rw [upd_ne n1p]; exact hD59
        · rw [upd_ne n3p]; exact hD79
        · have := hR9.2 i a q e1 e2
          rw [upd_ne (ne_of this hp9' (by intro z; cases z))]
          exact this
end
end K1
set_option Elab.async false
set_option linter.all false
set_option maxRecDepth 100000
namespace K1
open PySem L2
abbrev sIsInt : Stmt := top 26
abbrev sIsIndex : Stmt := top 27
abbrev sIsWord : Stmt := top 28
abbrev sIsTell : Stmt := top 29
/-- the names of the built-ins, and the constants -/
structure Bt2 (mg : Str → Option Value) : Prop extends Bt mg where
  isinstance : mg "isinstance" = none
  bool : mg "bool" = none
  str : mg "str" = none
  all : mg "all" = none
  enumerate : mg "enumerate" = none
  min : mg "min" = none
  LETTERS : ∃ t, mg "LETTERS" = some (.str zLE t)
  DIGITS : ∃ t, mg "DIGITS" = some (.str zDG t)
  LONGEST_WORD : ∃ t, mg "LONGEST_WORD" = some (.int 12 t)
  LONGEST_TELL : ∃ t, mg "LONGEST_TELL" = some (.int 60 t)
  MOST_DEEDS : ∃ t, mg "MOST_DEEDS" = some (.int 6 t)
  MOST_STATES : ∃ t, mg "MOST_STATES" = some (.int 60 t)
def spIsInt : Sp := fun vs H Q _ => ∃ i : Int, vs = [.int i] ∧ Q (.bl true) H
def spIsIndex : Sp := fun vs H Q _ => ∃ i m : Int, vs = [.int i, .int m] ∧ 0 ≤ i ∧ i < m ∧ Q (.bl true) H
def spIsWord : Sp := fun vs H Q _ => ∃ z : Str, vs = [.str z] ∧ Wd z ∧ ∀ H', Same H H' → Q (.bl true) H'
abbrev zSL : Str := "/"
def TL' : List Nat := AL ++ zSL.cps.toList
def Tl (z : Str) : Prop := 1 ≤ z.cps.toList.length ∧ z.cps.toList.length ≤ 60 ∧ ∀ x ∈ z.cps.toList, x ∈ TL'
def spIsTell : Sp := fun vs H Q _ => ∃ z : Str, vs = [.str z] ∧ Tl z ∧ ∀ H', Same H H' → Q (.bl true) H'
section
variable {P : Program} {w : World} {K : PySem.W.Frag} {mg : Str → Option Value} {base : Heap}
theorem scIsInt : FnScope ["value"] ["value"] (defScope sIsInt) := ⟨rfl, rfl, rfl, by decide +kernel, rfl, by decide +kernel, by decide +kernel⟩
theorem ok_isint {f : Addr} {fd : FuncData} (D : Df K mg "is_integer" sIsInt ["value"] f fd) (T : Bt2 mg) : FnOk P w K mg base CX0 1 f fd ["value"] spIsInt := by
  refine D.F.ok scIsInt (fun vs H Q E h => ?_) (fun cdv A outer s H vs Q E hr h => ?_)
  · obtain ⟨i, rfl, _⟩ := h
    rfl
  · obtain ⟨i, rfl, k⟩ := h
    refine ⟨_, pss_one (ps_ret (pe_and (pe_callB call_isi (by rfl) T.isinstance PyProof.Rows.boot_isinstance (pa_cons (pv 0) (pa_cons (pe_bltn (v := .ty "int") (by rfl) T.int PyProof.Rows.boot_int rfl) pa_nil)))
      (pe_one (pe_not (pe_callB call_isi (by rfl) T.isinstance PyProof.Rows.boot_isinstance (pa_cons (pv 0) (pa_cons (pe_bltn (v := .ty "bool") (by rfl) T.bool PyProof.Rows.boot_bool rfl) pa_nil))))))), ?_⟩
    refine ⟨_, rfl, _, _, _, _, true, rfl, .ty "int", .base (.int i), kit_ty (by decide +kernel), true, rfl, ?_⟩
    refine ⟨_, rfl, _, _, _, _, false, rfl, .ty "bool", .base (.int i), kit_ty (by decide +kernel), false, rfl, k⟩
theorem scIsIndex : FnScope ["value", "many"] ["value", "many"] (defScope sIsIndex) := ⟨rfl, rfl, rfl, by decide +kernel, rfl, by decide +kernel, by decide +kernel⟩
theorem ok_isindex {f fI : Addr} {fd fdI : FuncData} (D : Df K mg "is_index" sIsIndex ["value", "many"] f fd) (DI : Df K mg "is_integer" sIsInt ["value"] fI fdI) (T : Bt2 mg) : FnOk P w K mg base CX0 2 f fd ["value", "many"] spIsIndex := by
  have GI : FnOk P w K mg base CX0 1 fI fdI ["value"] spIsInt := ok_isint DI T
  refine D.F.ok scIsIndex (fun vs H Q E h => ?_) (fun cdv A outer s H vs Q E hr h => ?_)
  · obtain ⟨i, m, rfl, _⟩ := h
    rfl
  · obtain ⟨i, m, rfl, h0, h1, k⟩ := h
    refine ⟨_, pss_one (ps_ret (pe_and (pe_call GI hr rfl DI.g DI.F.kp DI.b .nil pass0 (pa_cons (pv 0) pa_nil)) (pe_one (pe_chain op_le op_lt pe_int (pv 0) (pv 1))))), ?_⟩
    refine ⟨_, rfl, i, rfl, true, rfl, ?_⟩
    refine ⟨_, rfl, _, _, rfl, rfl, _, rfl, ?_⟩
    rw [decide_eq_true h0]
    refine iteT ?_
    refine ⟨_, rfl, _, _, rfl, rfl, ?_⟩
    show Q (V.bl (decide (i < m))) H
    rw [decide_eq_true h1]
    exact k
theorem scIsWord : FnScope ["value", "sign"] ["value"] (defScope sIsWord) := ⟨rfl, rfl, rfl, by decide +kernel, rfl, by decide +kernel, by decide +kernel⟩
theorem ok_isword {f : Addr} {fd : FuncData} (D : Df K mg "is_word" sIsWord ["value"] f fd) (T : Bt2 mg) : FnOk P w K mg base CX0 1 f fd ["value"] spIsWord := by
  refine D.F.ok scIsWord (fun vs H Q E h => ?_) (fun cdv A outer s H vs Q E hr h => ?_)
  · obtain ⟨z, rfl, _⟩ := h
    rfl
  · obtain ⟨z, rfl, hz, k⟩ := h
    obtain ⟨tL, gL⟩ := T.LETTERS
    obtain ⟨tD, gD⟩ := T.DIGITS
    obtain ⟨tW, gW⟩ := T.LONGEST_WORD
    obtain ⟨c, r, ez, hc, hr', hl⟩ := id hz
    refine ⟨_, pss_cons (ps_if (PW.pt (pw_or (pt_not (pt_val (pe_callB call_isi (by rfl) T.isinstance PyProof.Rows.boot_isinstance (pa_cons (pv 0) (pa_cons (pe_bltn (v := .ty "str") (by rfl) T.str PyProof.Rows.boot_str rfl) pa_nil)))))
          (pw_or1 (pt_not (pt_chain op_le op_le pe_int (pe_callB call_len_str (by rfl) T.len PySem.boot_len (pa_cons (pv 0) pa_nil)) (pe_glob (v := .int 12) rfl gW ⟨_, rfl⟩))))))
        pss_never pss_nil)
      (pss_one (ps_ret (pe_and (pe_cmpR op_in_sign (pe_ix ix_str (pv 0) pe_int (fun _ _ => rfl)) (pe_glob (v := .str zLE) rfl gL ⟨_, rfl⟩) rfl)
        (pe_one (pe_callB (cr_all rfl) (by rfl) T.all PyProof.Rows.boot_all (pa_cons (pe_lc (own := [("sign", 1)]) (g := gName 1) (by rfl) scIsWord.nd (pi_str (pv 0))
          (blkOk_by (own := [("sign", 1)]) (N := ["value", "sign"]) (sc := defScope sIsWord) (by decide +kernel)) (fun _ _ _ _ _ => pg_name (i := 1) scIsWord.nd rfl (Or.inl rfl)) (fun _ _ _ _ _ => pts_nil)
          (fun _ _ _ _ _ => pe_cmpR op_in_sign (pv 1) (pe_op op_add_str (pe_glob (v := .str zLE) rfl gL ⟨_, rfl⟩) (pe_glob (v := .str zDG) rfl gD ⟨_, rfl⟩)) rfl)) pa_nil)))))), ?_⟩
    have lz : z.length = r.length + 1 := by rw [len_tl, ez]; rfl
    have hzl : z.length ≤ sizeLine := Nat.le_trans (by omega : z.length ≤ 100) (by decide)
    refine ⟨_, rfl, _, _, _, _, true, rfl, .ty "str", .base (.str z), kit_ty (by decide +kernel), true, rfl, ?_⟩
    refine iteF ?_
    refine ⟨_, rfl, _, rfl, hzl, _, _, rfl, rfl, _, rfl, ?_⟩
    refine ite2 (fun _ => ?_) (fun h => absurd (decide_eq_true (by show (1 : Int) ≤ (z.length : Int); omega)) h)
    refine ⟨_, _, rfl, rfl, _, rfl, ?_⟩
    have e12 : decide ((z.length : Int) ≤ 12) = true := decide_eq_true (by omega)
    show (if (!decide ((z.length : Int) ≤ 12)) = true then _ else _)
    rw [e12]
    refine iteF ?_
    refine ⟨_, rfl, z, _, c, rfl, rfl, hzl, ?_, c, zLE, rfl, rfl, true, ?_, ?_⟩
    · rw [ez]; exact atI_nat (j := 0) rfl
    · rw [decide_eq_true (show c ∈ zLE.cps.toList from hc)]
    refine iteT ?_
    refine ⟨_, rfl, z, rfl, fun D hD => ?_⟩
    have hall : ∀ x ∈ z.cps.toList, x ∈ AL := fun x hx => by
      rw [ez] at hx
      rcases List.mem_cons.mp hx with rfl | h
      · exact LE_AL hc
      · exact hr' x h
    have hsz : z.cps.size = z.cps.toList.length := by simp
    have hsz7 : z.cps.toList.length ≤ 7 := by rw [ez]; simp; exact hl
    refine lc_it (walk_str (z := z)) (fun i H' => Same H H' ∧ H' D = some (.lst ((List.replicate i true).map V.bl))) ?_ ?_ ?_ ?_
    · exact ⟨same_upd hD, upd_same⟩
    · exact fun _ _ _ _ => trivial
    · rintro i x H1 H2 hi ⟨sm, hD1⟩ ⟨rfl, c', hc', rfl⟩
      have hm : c' ∈ z.cps.toList := by
        have : z.cps.toList[i]? = some c' := by simpa using hc'
        exact List.mem_of_getElem? this
      refine ⟨rfl, _, rfl, _, _, rfl, rfl, by decide +kernel, c', zLE ++ zDG, rfl, rfl, _, hD1, ?_, ?_, ?_⟩
      · simp; exact small1000 (by omega)
      · exact fun b o e => by rw [upd_ne (ne_of_none e hD)]; exact sm b o e
      · rw [upd_same, decide_eq_true (show c' ∈ (zLE ++ zDG).cps.toList by rw [← AL_eq]; exact hall c' hm), List.replicate_succ']
        simp
    · rintro H1 ⟨sm, hD1⟩
      refine ⟨D, _, rfl, SqL.of hD1, ?_⟩
      have e : (List.replicate z.cps.size true).all id = true := by simp
      rw [e]
      exact k H1 sm
end
end K1
set_option Elab.async false
set_option linter.all false
set_option maxRecDepth 100000
namespace K1
open PySem L2
abbrev sCheckDiff : Stmt := top 30
abbrev sCheckGroup : Stmt := top 31
abbrev sCheckDeeds : Stmt := top 32
abbrev sCheckRows : Stmt := top 35
abbrev sCheckTells : Stmt := top 36
theorem TL_eq : TL' = (zLE ++ zDG ++ zSL).cps.toList := by decide +kernel
theorem cut_to {xs : List V} {i : Nat} (h : i ≤ xs.length) : cutV xs none (some (i : Int)) = xs.take i := by
  unfold cutV
  rw [HT.sIx_none, HT.sIx_nat, Nat.min_eq_left h]
  simp
theorem inV_str {ws : List Str} {z : Str} (h : z ∉ ws) : inV (.str z) (ws.map V.str) = false := by
  unfold inV
  rw [List.any_map, List.any_eq_false]
  intro y hy
  show ¬ ((y == z) = true)
  intro e
  rw [beq_iff_eq] at e
  exact h (e ▸ hy)
theorem nodup_take {ws : List Str} {i : Nat} {z : Str} (nd : ws.Nodup) (e : ws[i]? = some z) : z ∉ ws.take i := by
  intro hm
  obtain ⟨j, hj, ej⟩ := List.getElem_of_mem hm
  rw [List.getElem_take] at ej
  have hji : j < i := by simp at hj; omega
  have hi : i < ws.length := (List.getElem?_eq_some_iff.mp e).1
  have ei : ws[i] = z := (List.getElem?_eq_some_iff.mp e).2
  exact List.pairwise_iff_getElem.mp nd j i (by omega) hi hji (ej.trans ei.symm)
theorem flat_strs (ws : List Str) : (ws.map V.str).all flatV = true := by simp [flatV]
/-- a list or a tuple of words -/
def Sq (K : PySem.W.Frag) (H : Hp) (a : Addr) (xs : List V) : Prop := SqL K H a xs ∨ SqT K H a xs
theorem Sq.same {K : PySem.W.Frag} {H H' : Hp} {a : Addr} {xs : List V} (h : Sq K H a xs) (s : Same H H') : Sq K H' a xs := by
  rcases h with h | h
  · exact .inl (s.seq h)
  · exact .inr (h.ext s)
structure GoodD (ws : List Str) : Prop where
  nd : ws.Nodup
  wd : ∀ z ∈ ws, Wd z
  len : 1 ≤ ws.length ∧ ws.length ≤ 6
def spDeeds (K : PySem.W.Frag) : Sp := fun vs H Q _ => ∃ (a : Addr) (ws : List Str), vs = [.ref a] ∧ Sq K H a (ws.map V.str) ∧ GoodD ws ∧ ∀ H', Same H H' → Q .non H'
section
variable {P : Program} {w : World} {K : PySem.W.Frag} {mg : Str → Option Value} {base : Heap}
theorem scIsTell : FnScope ["value", "sign"] ["value"] (defScope sIsTell) := ⟨rfl, rfl, rfl, by decide +kernel, rfl, by decide +kernel, by decide +kernel⟩
theorem ok_istell {f : Addr} {fd : FuncData} (D : Df K mg "is_tell" sIsTell ["value"] f fd) (T : Bt2 mg) : FnOk P w K mg base CX0 1 f fd ["value"] spIsTell := by
  refine D.F.ok scIsTell (fun vs H Q E h => ?_) (fun cdv A outer s H vs Q E hr h => ?_)
  · obtain ⟨z, rfl, _⟩ := h
    rfl
  · obtain ⟨z, rfl, ⟨hz0, hz1, hall⟩, k⟩ := h
    obtain ⟨tL, gL⟩ := T.LETTERS
    obtain ⟨tD, gD⟩ := T.DIGITS
    obtain ⟨tW, gW⟩ := T.LONGEST_TELL
    refine ⟨_, pss_cons (ps_if (PW.pt (pw_or (pt_not (pt_val (pe_callB call_isi (by rfl) T.isinstance PyProof.Rows.boot_isinstance (pa_cons (pv 0) (pa_cons (pe_bltn (v := .ty "str") (by rfl) T.str PyProof.Rows.boot_str rfl) pa_nil)))))
          (pw_or1 (pt_not (pt_chain op_le op_le pe_int (pe_callB call_len_str (by rfl) T.len PySem.boot_len (pa_cons (pv 0) pa_nil)) (pe_glob (v := .int 60) rfl gW ⟨_, rfl⟩))))))
        pss_never pss_nil)
      (pss_one (ps_ret (pe_callB (cr_all rfl) (by rfl) T.all PyProof.Rows.boot_all (pa_cons (pe_lc (own := [("sign", 1)]) (g := gName 1) (by rfl) scIsTell.nd (pi_str (pv 0))
          (blkOk_by (own := [("sign", 1)]) (N := ["value", "sign"]) (sc := defScope sIsTell) (by decide +kernel)) (fun _ _ _ _ _ => pg_name (i := 1) scIsTell.nd rfl (Or.inl rfl)) (fun _ _ _ _ _ => pts_nil)
          (fun _ _ _ _ _ => pe_cmpR op_in_sign (pv 1) (pe_op op_add_str (pe_op op_add_str (pe_glob (v := .str zLE) rfl gL ⟨_, rfl⟩) (pe_glob (v := .str zDG) rfl gD ⟨_, rfl⟩)) pe_str) rfl)) pa_nil)))), ?_⟩
    have lz : z.length = z.cps.toList.length := len_tl z
    have hzl : z.length ≤ sizeLine := Nat.le_trans (by omega : z.length ≤ 100) (by decide)
    refine ⟨_, rfl, _, _, _, _, true, rfl, .ty "str", .base (.str z), kit_ty (by decide +kernel), true, rfl, ?_⟩
    refine iteF ?_
    refine ⟨_, rfl, _, rfl, hzl, _, _, rfl, rfl, _, rfl, ?_⟩
    refine ite2 (fun _ => ?_) (fun h => absurd (decide_eq_true (by show (1 : Int) ≤ (z.length : Int); omega)) h)
    refine ⟨_, _, rfl, rfl, _, rfl, ?_⟩
    have e12 : decide ((z.length : Int) ≤ 60) = true := decide_eq_true (by omega)
    show (if (!decide ((z.length : Int) ≤ 60)) = true then _ else _)
    rw [e12]
    refine iteF ?_
    refine ⟨_, rfl, z, rfl, fun D hD => ?_⟩
    have hsz : z.cps.size = z.cps.toList.length := by simp
    refine lc_it (walk_str (z := z)) (fun i H' => Same H H' ∧ H' D = some (.lst ((List.replicate i true).map V.bl))) ?_ ?_ ?_ ?_
    · exact ⟨same_upd hD, upd_same⟩
    · exact fun _ _ _ _ => trivial
    · rintro i x H1 H2 hi ⟨sm, hD1⟩ ⟨rfl, c', hc', rfl⟩
      have hm : c' ∈ z.cps.toList := by
        have : z.cps.toList[i]? = some c' := by simpa using hc'
        exact List.mem_of_getElem? this
      refine ⟨rfl, _, rfl, _, _, rfl, rfl, by decide +kernel, _, _, rfl, rfl, by decide +kernel, c', zLE ++ zDG ++ zSL, rfl, rfl, _, hD1, ?_, ?_, ?_⟩
      · simp; exact small1000 (by omega)
      · exact fun b o e => by rw [upd_ne (ne_of_none e hD)]; exact sm b o e
      · rw [upd_same, decide_eq_true (show c' ∈ (zLE ++ zDG ++ zSL).cps.toList by rw [← TL_eq]; exact hall c' hm), List.replicate_succ']
        simp
    · rintro H1 ⟨sm, hD1⟩
      refine ⟨D, _, rfl, SqL.of hD1, ?_⟩
      have e : (List.replicate z.cps.size true).all id = true := by simp
      rw [e]
      exact k H1 sm
theorem scDiff : FnScope ["deeds", "index", "deed"] ["deeds"] (defScope sCheckDiff) := ⟨rfl, rfl, rfl, by decide +kernel, rfl, by decide +kernel, by decide +kernel⟩
theorem ok_diff {f fW : Addr} {fd fdW : FuncData} (D : Df K mg "check_different" sCheckDiff ["deeds"] f fd) (DW : Df K mg "is_word" sIsWord ["value"] fW fdW) (T : Bt2 mg) : FnOk P w K mg base CX0 2 f fd ["deeds"] (spDeeds K) := by
  have GW : FnOk P w K mg base CX0 1 fW fdW ["value"] spIsWord := ok_isword DW T
  refine D.F.ok scDiff (fun vs H Q E h => ?_) (fun cdv A outer s H vs Q E hr h => ?_)
  · obtain ⟨a, ws, rfl, _⟩ := h
    rfl
  · obtain ⟨a, ws, rfl, ha, gd, k⟩ := h
    have hle : ws.length ≤ 6 := gd.len.2
    rcases ha with ha | ha
    · refine ⟨_, pss_one (ps_for PassesOwn.never rfl (pi_enum (by rfl) T.enumerate (pa_cons (pv 0) pa_nil)) (pg_tup (by rfl) (pgs_cons (pg_name (i := 1) scDiff.nd rfl (Or.inl rfl)) (pgs_cons (pg_name (i := 2) scDiff.nd rfl (Or.inl rfl)) pgs_nil)))
          (pss_one (ps_if (PW.pt (pw_or (pt_not (pt_val (pe_call GW hr rfl DW.g DW.F.kp DW.b .nil pass0 (pa_cons (pv 2) pa_nil)))) (pw_or1 (pt_cmpR op_in_seq (pv 2) (pe_slice sl_list (pv 0) po_none (po_some (pv 1))) (by rfl))))) pss_never pss_nil))), ?_⟩
      refine ⟨_, rfl, a, _, rfl, ha, for_it (walk_enum (K := K) (a := a) (xs := ws.map V.str)) (fun i σ H' => Same H H' ∧ ∃ v1 v2, σ = [some (.ref a), v1, v2]) ⟨Same.refl H, none, none, rfl⟩ (fun i σ H' _ p => p.1.seq ha) ?_ ?_⟩
      · rintro i x σ H1 H2 hi ⟨sm, v1, v2, rfl⟩ ⟨t, x1, x2, rfl, ht, rfl, e1, e2⟩
        cases e1
        replace e2 : (ws.map V.str)[i]? = some x2 := e2
        rw [List.getElem?_map] at e2
        obtain ⟨z, hz, rfl⟩ := Option.map_eq_some_iff.mp e2
        have hzm := List.mem_of_getElem? hz
        have hil : i < ws.length := (List.getElem?_eq_some_iff.mp hz).1
        have sm2 := sm.trans (same_upd (o := .tup [V.int (i : Nat), V.str z]) ht)
        refine ⟨t, _, rfl, SqT.of upd_same, rfl, _, _, rfl, _, _, rfl, rfl, ?_⟩
        refine ⟨_, rfl, z, rfl, gd.wd z hzm, fun H3 sm3 => ⟨true, rfl, ?_⟩⟩
        refine iteF ?_
        have sm4 := sm2.trans sm3
        refine ⟨_, rfl, _, rfl, _, rfl, (i : Int), rfl, a, _, rfl, sm4.seq ha, fun q hq => ?_⟩
        rw [cut_to (by rw [List.length_map]; omega), ← List.map_take]
        refine ⟨q, _, rfl, .inl (SqL.of upd_same), rfl, flat_strs _, false, ?_, ?_⟩
        · show V.bl (if false = true then _ else inV (V.str z) ((ws.take i).map V.str)) = V.bl false
          rw [inV_str (nodup_take gd.nd hz)]
          rfl
        · refine iteF ?_
          exact ⟨sm4.trans (same_upd hq), _, _, rfl⟩
      · rintro σ H1 ⟨sm, v1, v2, rfl⟩
        exact k H1 sm
    · refine ⟨_, pss_one (ps_for PassesOwn.never rfl (pi_enumT (by rfl) T.enumerate (pa_cons (pv 0) pa_nil)) (pg_tup (by rfl) (pgs_cons (pg_name (i := 1) scDiff.nd rfl (Or.inl rfl)) (pgs_cons (pg_name (i := 2) scDiff.nd rfl (Or.inl rfl)) pgs_nil)))
          (pss_one (ps_if (PW.pt (pw_or (pt_not (pt_val (pe_call GW hr rfl DW.g DW.F.kp DW.b .nil pass0 (pa_cons (pv 2) pa_nil)))) (pw_or1 (pt_cmpR op_in_seq (pv 2) (pe_slice sl_tupA (pv 0) po_none (po_some (pv 1))) (by rfl))))) pss_never pss_nil))), ?_⟩
      refine ⟨_, rfl, a, _, rfl, ha, for_it (walk_enumT (K := K) (a := a) (xs := ws.map V.str)) (fun i σ H' => Same H H' ∧ ∃ v1 v2, σ = [some (.ref a), v1, v2]) ⟨Same.refl H, none, none, rfl⟩ (fun i σ H' _ p => ha.ext p.1) ?_ ?_⟩
      · rintro i x σ H1 H2 hi ⟨sm, v1, v2, rfl⟩ ⟨t, x1, x2, rfl, ht, rfl, e1, e2⟩
        cases e1
        replace e2 : (ws.map V.str)[i]? = some x2 := e2
        rw [List.getElem?_map] at e2
        obtain ⟨z, hz, rfl⟩ := Option.map_eq_some_iff.mp e2
        have hzm := List.mem_of_getElem? hz
        have hil : i < ws.length := (List.getElem?_eq_some_iff.mp hz).1
        have sm2 := sm.trans (same_upd (o := .tup [V.int (i : Nat), V.str z]) ht)
        refine ⟨t, _, rfl, SqT.of upd_same, rfl, _, _, rfl, _, _, rfl, rfl, ?_⟩
        refine ⟨_, rfl, z, rfl, gd.wd z hzm, fun H3 sm3 => ⟨true, rfl, ?_⟩⟩
        refine iteF ?_
        have sm4 := sm2.trans sm3
        have eh : HT.sIx (ws.map V.str).length (ws.map V.str).length (some (i : Int)) = i := by rw [HT.sIx_nat, List.length_map]; omega
        refine ⟨_, rfl, _, rfl, _, rfl, (i : Int), rfl, a, _, rfl, ha.ext sm4, fun h => absurd h.2 (by rw [eh, List.length_map]; omega), fun _ q hq => ?_⟩
        rw [cut_to (by rw [List.length_map]; omega), ← List.map_take]
        refine ⟨q, _, rfl, .inr (SqT.of upd_same), rfl, flat_strs _, false, ?_, ?_⟩
        · show V.bl (if false = true then _ else inV (V.str z) ((ws.take i).map V.str)) = V.bl false
          rw [inV_str (nodup_take gd.nd hz)]
          rfl
        · refine iteF ?_
          exact ⟨sm4.trans (same_upd hq), _, _, rfl⟩
      · rintro σ H1 ⟨sm, v1, v2, rfl⟩
        exact k H1 sm
theorem Sq.len {K : PySem.W.Frag} {H : Hp} {a : Addr} {xs : List V} (h : Sq K H a xs) : LenV K (.ref a) H xs.length := by
  rcases h with h | h
  · exact .inl ⟨_, h, rfl⟩
  · exact .inr ⟨_, h, rfl⟩
theorem scGroup : FnScope ["deeds"] ["deeds"] (defScope sCheckGroup) := ⟨rfl, rfl, rfl, by decide +kernel, rfl, by decide +kernel, by decide +kernel⟩
theorem ok_group {f fC fW : Addr} {fd fdC fdW : FuncData} (D : Df K mg "check_group" sCheckGroup ["deeds"] f fd) (DC : Df K mg "check_different" sCheckDiff ["deeds"] fC fdC) (DW : Df K mg "is_word" sIsWord ["value"] fW fdW) (T : Bt2 mg) : FnOk P w K mg base CX0 3 f fd ["deeds"] (spDeeds K) := by
  have GC : FnOk P w K mg base CX0 2 fC fdC ["deeds"] (spDeeds K) := ok_diff DC DW T
  refine D.F.ok scGroup (fun vs H Q E h => ?_) (fun cdv A outer s H vs Q E hr h => ?_)
  · obtain ⟨a, ws, rfl, _⟩ := h
    rfl
  · obtain ⟨a, ws, rfl, ha, gd, k⟩ := h
    refine ⟨_, pss_cons (ps_expr (pe_call GC hr rfl DC.g DC.F.kp DC.b .nil pass0 (pa_cons (pv 0) pa_nil)))
      (pss_one (ps_if (pt_cmpR op_eq (pe_callB call_len (by rfl) T.len PySem.boot_len (pa_cons (pv 0) pa_nil)) pe_int (nomark _)) pss_never pss_nil)), ?_⟩
    refine ⟨_, rfl, a, ws, rfl, ha, gd, fun H1 sm => ?_⟩
    refine ⟨_, rfl, _, _, rfl, (ha.same sm).len, rfl, _, rfl, ?_⟩
    refine ite2 (fun h => ?_) (fun _ => k H1 sm)
    have := of_decide_eq_true h
    injection this with this
    have := gd.len.1
    rw [List.length_map] at *
    omega
theorem scDeeds : FnScope ["deeds"] ["deeds"] (defScope sCheckDeeds) := ⟨rfl, rfl, rfl, by decide +kernel, rfl, by decide +kernel, by decide +kernel⟩
theorem ok_deeds {f fG fC fW : Addr} {fd fdG fdC fdW : FuncData} (D : Df K mg "check_deeds" sCheckDeeds ["deeds"] f fd) (DG : Df K mg "check_group" sCheckGroup ["deeds"] fG fdG) (DC : Df K mg "check_different" sCheckDiff ["deeds"] fC fdC) (DW : Df K mg "is_word" sIsWord ["value"] fW fdW) (T : Bt2 mg) : FnOk P w K mg base CX0 4 f fd ["deeds"] (spDeeds K) := by
  have GC : FnOk P w K mg base CX0 3 fG fdG ["deeds"] (spDeeds K) := ok_group DG DC DW T
  refine D.F.ok scDeeds (fun vs H Q E h => ?_) (fun cdv A outer s H vs Q E hr h => ?_)
  · obtain ⟨a, ws, rfl, _⟩ := h
    rfl
  · obtain ⟨a, ws, rfl, ha, gd, k⟩ := h
    have hle : ws.length ≤ 6 := gd.len.2
    obtain ⟨tM, gM⟩ := T.MOST_DEEDS
    refine ⟨_, pss_cons (ps_expr (pe_call GC hr rfl DG.g DG.F.kp DG.b .nil pass0 (pa_cons (pv 0) pa_nil)))
      (pss_one (ps_if (pt_cmpR op_gt (pe_callB call_len (by rfl) T.len PySem.boot_len (pa_cons (pv 0) pa_nil)) (pe_glob (v := .int 6) rfl gM ⟨_, rfl⟩) (nomark _)) pss_never pss_nil)), ?_⟩
    refine ⟨_, rfl, a, ws, rfl, ha, gd, fun H1 sm => ?_⟩
    refine ⟨_, rfl, _, _, rfl, (ha.same sm).len, _, _, rfl, rfl, _, rfl, ?_⟩
    refine ite2 (fun h => ?_) (fun _ => k H1 sm)
    have := of_decide_eq_true h
    rw [List.length_map] at this
    exact absurd this (by omega)
end
end K1
set_option Elab.async false
set_option linter.all false
set_option maxRecDepth 100000
namespace K1
open PySem L2
theorem kit_list {K : PySem.W.Frag} : PySem.W.kitAny K (.type "list") [.type "list", .type "tuple"] = some true := by
  simp [PySem.W.kitAny, PySem.W.kitOne]
def spRows (K : PySem.W.Frag) : Sp := fun vs H Q _ => ∃ (b : Addr) (m : Nat) (as : List Addr) (rs : List (List Int)), vs = [.ref b, .int (m : Int)] ∧ SqL K H b (as.map V.ref) ∧ RowsAt H as rs ∧ 1 ≤ rs.length ∧ rs.length ≤ 60 ∧ m ≤ 100 ∧
  (∀ r ∈ rs, r.length = m ∧ ∀ x ∈ r, 0 ≤ x ∧ x < (rs.length : Int)) ∧ ∀ H', Same H H' → Q .non H'
def spTells (K : PySem.W.Frag) : Sp := fun vs H Q _ => ∃ (b : Addr) (ss : List Str), vs = [.ref b, .int (ss.length : Int)] ∧ SqL K H b (ss.map V.str) ∧ (∀ z ∈ ss, Tl z) ∧ ss.length ≤ 100 ∧ ∀ H', Same H H' → Q .non H'
theorem RowsAt.same {H H' : Hp} {as : List Addr} {rs : List (List Int)} (h : RowsAt H as rs) (s : Same H H') : RowsAt H' as rs := ⟨h.1, fun i a r e1 e2 => s _ _ (h.2 i a r e1 e2)⟩
def rLn (K : PySem.W.Frag) : List V → Hp → VK → Prop := fun xs H Q => ∃ x n, xs = [x] ∧ LenV K x H n ∧ Q (.int n) H
section
variable {P : Program} {w : World} {K : PySem.W.Frag} {mg : Str → Option Value} {base : Heap}
abbrev nRows : List Str := ["rows", "many", "index", "row", "state"]
theorem scRows : FnScope nRows ["rows", "many"] (defScope sCheckRows) := ⟨rfl, rfl, rfl, by decide +kernel, rfl, by decide +kernel, by decide +kernel⟩
theorem ok_rows {f fX fI : Addr} {fd fdX fdI : FuncData} (D : Df K mg "check_rows" sCheckRows ["rows", "many"] f fd) (DX : Df K mg "is_index" sIsIndex ["value", "many"] fX fdX) (DI : Df K mg "is_integer" sIsInt ["value"] fI fdI) (T : Bt2 mg) : FnOk P w K mg base CX0 3 f fd ["rows", "many"] (spRows K) := by
  have GX : FnOk P w K mg base CX0 2 fX fdX ["value", "many"] spIsIndex := ok_isindex DX DI T
  refine D.F.ok scRows (fun vs H Q E h => ?_) (fun cdv A outer s H vs Q E hr h => ?_)
  · obtain ⟨b, m, as, rs, rfl, _⟩ := h
    rfl
  · obtain ⟨b, m, as, rs, rfl, hb, hR, h1, h60, hm, hrow, k⟩ := h
    obtain ⟨tM, gM⟩ := T.MOST_STATES
    have hlen : (as.map V.ref).length = rs.length := by rw [List.length_map, hR.1]
    refine ⟨_, pss_cons (ps_if (pt_cmpR op_eq (pe_callB call_len (by rfl) T.len PySem.boot_len (pa_cons (pv 0) pa_nil)) pe_int (nomark _)) pss_never pss_nil)
      (pss_cons (ps_if (pt_cmpR op_gt (pe_callB call_len (by rfl) T.len PySem.boot_len (pa_cons (pv 0) pa_nil)) (pe_glob (v := .int 60) rfl gM ⟨_, rfl⟩) (nomark _)) pss_never pss_nil)
      (pss_one (ps_for PassesOwn.never rfl (pi_enum (by rfl) T.enumerate (pa_cons (pv 0) pa_nil)) (pg_tup (by rfl) (pgs_cons (pg_name (i := 2) scRows.nd rfl (Or.inl rfl)) (pgs_cons (pg_name (i := 3) scRows.nd rfl (Or.inl rfl)) pgs_nil)))
        (pss_cons (ps_if (PW.pt (pw_or (pt_not (pt_val (pe_callB call_isiT (by rfl) T.isinstance PyProof.Rows.boot_isinstance (pa_cons (pv 3) (pa_cons (pe_tup (pa_cons (pe_bltn (v := .ty "list") (by rfl) T.list PyProof.Rows.boot_list rfl) (pa_cons (pe_bltn (v := .ty "tuple") (by rfl) T.tuple PyProof.Rows.boot_tuple rfl) pa_nil))) pa_nil)))))
            (pw_or1 (pt_cmpR op_ne (pe_callB call_len (by rfl) T.len PySem.boot_len (pa_cons (pv 3) pa_nil)) (pv 1) (nomark _))))) pss_never pss_nil)
        (pss_one (ps_if (pt_not (pt_val (pe_callB (cr_all rfl) (by rfl) T.all PyProof.Rows.boot_all (pa_cons (pe_lc (own := [("state", 4)]) (g := gName 4) (by rfl) scRows.nd (pi_list (pv 3))
            (blkOk_by (own := [("state", 4)]) (N := nRows) (sc := defScope sCheckRows) (by decide +kernel)) (fun _ _ _ _ _ => pg_name (i := 4) scRows.nd rfl (Or.inl rfl)) (fun _ _ _ _ _ => pts_nil)
            (fun _ _ _ _ _ => pe_call GX hr rfl DX.g DX.F.kp DX.b .nil pass0 (pa_cons (pv 4) (pa_cons (pe_callB (r := rLn K) call_len (by rfl) T.len PySem.boot_len (pa_cons (pv 0) pa_nil)) pa_nil)))) pa_nil)))) pss_never pss_nil)))))), ?_⟩
    refine ⟨_, rfl, _, rs.length, rfl, .inl ⟨_, hb, hlen.symm⟩, rfl, _, rfl, ?_⟩
    refine ite2 (fun h => absurd (of_decide_eq_true h) (fun h => by injection h with h; omega)) (fun _ => ?_)
    refine ⟨_, rfl, _, rs.length, rfl, .inl ⟨_, hb, hlen.symm⟩, _, _, rfl, rfl, _, rfl, ?_⟩
    refine ite2 (fun h => absurd (of_decide_eq_true h) (by omega)) (fun _ => ?_)
    refine ⟨_, rfl, b, _, rfl, hb, for_it (walk_enum (K := K) (a := b) (xs := as.map V.ref)) (fun i σ H' => Same H H' ∧ ∃ v1 v2, σ = [some (.ref b), some (.int (m : Int)), v1, v2, none]) ⟨Same.refl H, none, none, rfl⟩ (fun i σ H' _ p => p.1.seq hb) ?_ ?_⟩
    · rintro i x σ H1 H2 hi ⟨sm, v1, v2, rfl⟩ ⟨t, x1, x2, rfl, ht, rfl, e1, e2⟩
      cases e1
      replace e2 : (as.map V.ref)[i]? = some x2 := e2
      rw [List.getElem?_map] at e2
      obtain ⟨a, ea, rfl⟩ := Option.map_eq_some_iff.mp e2
      have hir : i < rs.length := by rw [← hR.1]; exact (List.getElem?_eq_some_iff.mp ea).1
      have er : rs[i]? = some rs[i] := List.getElem?_eq_getElem hir
      obtain ⟨hl, hx⟩ := hrow _ (List.getElem_mem hir)
      have sm2 := sm.trans (same_upd (o := .tup [V.int (i : Nat), V.ref a]) ht)
      have ha2 := sm2 _ _ (hR.2 i a _ ea er)
      refine ⟨t, _, rfl, SqT.of upd_same, rfl, _, _, rfl, _, _, rfl, rfl, ?_⟩
      generalize upd H1 t (.tup [V.int (i : Nat), V.ref a]) = H3 at sm2 ha2 ⊢
      refine ⟨_, rfl, by show 2 ≤ sizeLine; decide, fun q hq => ?_⟩
      have sm4 := sm2.trans (same_upd (o := .tup [V.ty "list", V.ty "tuple"]) hq)
      have ha4 := (same_upd (o := .tup [V.ty "list", V.ty "tuple"]) hq) _ _ ha2
      refine ⟨_, q, _, _, _, true, rfl, upd_same, .cons (.ty "list") (.cons (.ty "tuple") .nil), .base (.lst ha4), kit_list, true, rfl, ?_⟩
      refine iteF ?_
      refine ⟨_, rfl, _, m, rfl, .inl ⟨_, SqL.of ha4, by rw [List.length_map]; exact hl.symm⟩, _, rfl, rfl, _, rfl, ?_⟩
      refine ite2 (fun h => ?_) (fun _ => ?_)
      · simp at h
      refine ⟨_, rfl, a, rfl, ⟨_, SqL.of ha4⟩, fun D hD => ?_⟩
      generalize upd H3 q (.tup [V.ty "list", V.ty "tuple"]) = H4 at sm4 ha4 hD ⊢
      refine lc_list (K := K) (a := a) (xs := (rs[i]).map V.int) (fun j H' => Same H4 H' ∧ H' D = some (.lst ((List.replicate j true).map V.bl))) ?_ ?_ ?_ ?_
      · exact ⟨same_upd hD, upd_same⟩
      · exact fun j H' _ p => p.1.seq (SqL.of ha4)
      · rintro j x H5 hj ⟨sm5, hD5⟩
        rw [List.getElem?_map] at hj
        obtain ⟨y, hy, rfl⟩ := Option.map_eq_some_iff.mp hj
        obtain ⟨y0, y1⟩ := hx y (List.mem_of_getElem? hy)
        have hjl : j < (rs[i]).length := (List.getElem?_eq_some_iff.mp hy).1
        refine ⟨rfl, _, rfl, _, rfl, _, rs.length, rfl, .inl ⟨_, (sm4.trans sm5).seq hb, hlen.symm⟩, y, rs.length, rfl, y0, y1, ?_⟩
        refine ⟨_, hD5, ?_, ?_, ?_⟩
        · simp; exact small1000 (by omega)
        · exact fun b' o e => by rw [upd_ne (ne_of_none e hD)]; exact sm5 b' o e
        · rw [upd_same, List.replicate_succ']
          simp
      · rintro H5 ⟨sm5, hD5⟩
        refine ⟨D, _, rfl, SqL.of hD5, ?_⟩
        have e : (List.replicate ((rs[i]).map V.int).length true).all id = true := by simp
        rw [e]
        refine ⟨true, rfl, ?_⟩
        refine iteF ?_
        exact ⟨sm4.trans sm5, _, _, rfl⟩
    · rintro σ H1 ⟨sm, v1, v2, rfl⟩
      exact k H1 sm
theorem scTells : FnScope ["tells", "many", "index", "tell"] ["tells", "many"] (defScope sCheckTells) := ⟨rfl, rfl, rfl, by decide +kernel, rfl, by decide +kernel, by decide +kernel⟩
theorem ok_tells {f fT : Addr} {fd fdT : FuncData} (D : Df K mg "check_tells" sCheckTells ["tells", "many"] f fd) (DT : Df K mg "is_tell" sIsTell ["value"] fT fdT) (T : Bt2 mg) : FnOk P w K mg base CX0 2 f fd ["tells", "many"] (spTells K) := by
  have GT : FnOk P w K mg base CX0 1 fT fdT ["value"] spIsTell := ok_istell DT T
  refine D.F.ok scTells (fun vs H Q E h => ?_) (fun cdv A outer s H vs Q E hr h => ?_)
  · obtain ⟨b, ss, rfl, _⟩ := h
    rfl
  · obtain ⟨b, ss, rfl, hb, ht, hl, k⟩ := h
    refine ⟨_, pss_cons (ps_for PassesOwn.never rfl (pi_enum (by rfl) T.enumerate (pa_cons (pv 0) pa_nil)) (pg_tup (by rfl) (pgs_cons (pg_name (i := 2) scTells.nd rfl (Or.inl rfl)) (pgs_cons (pg_name (i := 3) scTells.nd rfl (Or.inl rfl)) pgs_nil)))
        (pss_one (ps_if (pt_not (pt_val (pe_call GT hr rfl DT.g DT.F.kp DT.b .nil pass0 (pa_cons (pv 3) pa_nil)))) pss_never pss_nil)))
      (pss_one (ps_if (pt_cmpR op_ne (pe_callB call_len (by rfl) T.len PySem.boot_len (pa_cons (pv 0) pa_nil)) (pv 1) (nomark _)) pss_never pss_nil)), ?_⟩
    refine ⟨_, rfl, b, _, rfl, hb, for_it (walk_enum (K := K) (a := b) (xs := ss.map V.str)) (fun i σ H' => Same H H' ∧ ∃ v1 v2, σ = [some (.ref b), some (.int (ss.length : Int)), v1, v2]) ⟨Same.refl H, none, none, rfl⟩ (fun i σ H' _ p => p.1.seq hb) ?_ ?_⟩
    · rintro i x σ H1 H2 hi ⟨sm, v1, v2, rfl⟩ ⟨t, x1, x2, rfl, ht', rfl, e1, e2⟩
      cases e1
      replace e2 : (ss.map V.str)[i]? = some x2 := e2
      rw [List.getElem?_map] at e2
      obtain ⟨z, ez, rfl⟩ := Option.map_eq_some_iff.mp e2
      have sm2 := sm.trans (same_upd (o := .tup [V.int (i : Nat), V.str z]) ht')
      refine ⟨t, _, rfl, SqT.of upd_same, rfl, _, _, rfl, _, _, rfl, rfl, ?_⟩
      refine ⟨_, rfl, z, rfl, ht z (List.mem_of_getElem? ez), fun H3 sm3 => ⟨true, rfl, ?_⟩⟩
      refine iteF ?_
      exact ⟨sm2.trans sm3, _, _, rfl⟩
    · rintro σ H1 ⟨sm, v1, v2, rfl⟩
      refine ⟨_, rfl, _, ss.length, rfl, .inl ⟨_, sm.seq hb, (List.length_map _).symm⟩, _, rfl, rfl, _, rfl, ?_⟩
      refine ite2 (fun h => ?_) (fun _ => k H1 sm)
      simp at h
end
end K1
set_option Elab.async false
set_option linter.all false
set_option maxRecDepth 100000
namespace K1
open PySem L2
abbrev sMInit : Stmt := inClass (top 34) 0
abbrev sMLen : Stmt := inClass (top 34) 1
abbrev sMEq : Stmt := inClass (top 34) 2
theorem f_dr : ¬ (("deeds" : Str) = "rows") := by decide +kernel
theorem f_dt : ¬ (("deeds" : Str) = "tells") := by decide +kernel
theorem f_ds : ¬ (("deeds" : Str) = "start") := by decide +kernel
theorem f_rt : ¬ (("rows" : Str) = "tells") := by decide +kernel
theorem f_rs : ¬ (("rows" : Str) = "start") := by decide +kernel
theorem f_ts : ¬ (("tells" : Str) = "start") := by decide +kernel
theorem f_rd : ¬ (("rows" : Str) = "deeds") := by decide +kernel
theorem f_td : ¬ (("tells" : Str) = "deeds") := by decide +kernel
theorem f_tr : ¬ (("tells" : Str) = "rows") := by decide +kernel
def mf (t r l : Addr) (st : Int) : List (Str × V) := putF "start" (.int st) (putF "tells" (.ref l) (putF "rows" (.ref r) (putF "deeds" (.ref t) [])))
theorem mf_deeds (t r l : Addr) (st : Int) : (mf t r l st).lookup ("deeds" : Str) = some (.ref t) := by
  unfold mf
  rw [lookup_putF, if_neg f_ds, lookup_putF, if_neg f_dt, lookup_putF, if_neg f_dr, lookup_putF, if_pos rfl]
theorem mf_rows (t r l : Addr) (st : Int) : (mf t r l st).lookup ("rows" : Str) = some (.ref r) := by
  unfold mf
  rw [lookup_putF, if_neg f_rs, lookup_putF, if_neg f_rt, lookup_putF, if_pos rfl]
theorem mf_tells (t r l : Addr) (st : Int) : (mf t r l st).lookup ("tells" : Str) = some (.ref l) := by
  unfold mf
  rw [lookup_putF, if_neg f_ts, lookup_putF, if_pos rfl]
theorem mf_start (t r l : Addr) (st : Int) : (mf t r l st).lookup ("start" : Str) = some (.int st) := by
  unfold mf
  rw [lookup_putF, if_pos rfl]
theorem mf_no (t r l : Addr) (st : Int) {m : Str} (h1 : ¬ m = "start") (h2 : ¬ m = "tells") (h3 : ¬ m = "rows") (h4 : ¬ m = "deeds") : (mf t r l st).lookup m = none := by
  unfold mf
  rw [lookup_putF, if_neg h1, lookup_putF, if_neg h2, lookup_putF, if_neg h3, lookup_putF, if_neg h4]
  rfl
def RowsT (H : Hp) (as : List Addr) (rs : List (List Int)) : Prop := as.length = rs.length ∧ ∀ (i : Nat) (a : Addr) (r : List Int), as[i]? = some a → rs[i]? = some r → H a = some (.tup (r.map V.int))
theorem RowsT.same {H H' : Hp} {as : List Addr} {rs : List (List Int)} (h : RowsT H as rs) (s : Same H H') : RowsT H' as rs := ⟨h.1, fun i a r e1 e2 => s _ _ (h.2 i a r e1 e2)⟩
def MachAt (K : PySem.W.Frag) (C : Addr) (H : Hp) (x : Addr) (ws : List Str) (rs : List (List Int)) (ss : List Str) (st : Int) : Prop :=
  ∃ (dx t r l : Addr) (as : List Addr), H x = some (.ins C dx (mf t r l st)) ∧ SqF H t (ws.map V.str) ∧ H r = some (.tup (as.map V.ref)) ∧ RowsT H as rs ∧ H l = some (.tup (ss.map V.str))
/-- the parts that a machine takes -/
structure Parts (ws : List Str) (rs : List (List Int)) (ss : List Str) (st : Int) : Prop where
  gd : GoodD ws
  many : 1 ≤ rs.length ∧ rs.length ≤ 60
  row : ∀ r ∈ rs, r.length = ws.length ∧ ∀ x ∈ r, 0 ≤ x ∧ x < (rs.length : Int)
  tl : ss.length = rs.length ∧ ∀ z ∈ ss, Tl z
  st : 0 ≤ st ∧ st < (rs.length : Int)
def spMInit (K : PySem.W.Frag) (C : Addr) : Sp := fun vs H Q _ => ∃ (x dx a b l : Addr) (as : List Addr) (ws : List Str) (rs : List (List Int)) (ss : List Str) (st : Int), vs = [.ref x, .ref a, .ref b, .ref l, .int st] ∧ H x = some (.ins C dx []) ∧
  (SqF H a (ws.map V.str) ∨ SqL K H a (ws.map V.str)) ∧ SqL K H b (as.map V.ref) ∧ RowsAt H as rs ∧ SqL K H l (ss.map V.str) ∧ Parts ws rs ss st ∧ ∀ H', MachAt K C H' x ws rs ss st → Kept x H H' → Q .non H'
/-- what the class brings -/
structure Tm (K : PySem.W.Frag) (mg : Str → Option Value) (C : Addr) : Prop where
  cl : Cls K C
  nD : NoAttr K C "deeds"
  nR : NoAttr K C "rows"
  nT : NoAttr K C "tells"
  nS : NoAttr K C "start"
  mgC : mg "Machine" = some (.ref C)
theorem tup_any {K : PySem.W.Frag} {H : Hp} {a : Addr} {ys : List V} {Qf : V → Hp → Prop} (h : Sq K H a ys) (k : ∀ t H', SqT K H' t ys → Same H H' → Qf (.ref t) H') :
    (SqL K H a ys ∧ ∀ l, H l = none → Qf (.ref l) (upd H l (.tup ys))) ∨ (SqT K H a ys ∧ Qf (.ref a) H) := by
  rcases h with h | h
  · exact .inl ⟨h, fun l hl => k l _ (SqT.of upd_same) (same_upd hl)⟩
  · exact .inr ⟨h, k a H h (Same.refl H)⟩
theorem Kept.seqI {K : PySem.W.Frag} {x C dx : Addr} {fs : List (Str × V)} {H H' : Hp} {a : Addr} {xs : List V} (e : Kept x H H') (hx : H x = some (.ins C dx fs)) (h : SqL K H a xs) : SqL K H' a xs := by
  rcases h with (h | ⟨o, h⟩) | h
  · exact .inl (.inl (e _ _ h (ne_of h hx (by intro z; cases z))))
  · exact .inl (.inr ⟨o, e _ _ h (ne_of h hx (by intro z; cases z))⟩)
  · exact .inr h
theorem Kept.seqTI {K : PySem.W.Frag} {x C dx : Addr} {fs : List (Str × V)} {H H' : Hp} {a : Addr} {xs : List V} (e : Kept x H H') (hx : H x = some (.ins C dx fs)) (h : SqT K H a xs) : SqT K H' a xs := by
  rcases h with (h | ⟨o, h⟩) | h
  · exact .inl (.inl (e _ _ h (ne_of h hx (by intro z; cases z))))
  · exact .inl (.inr ⟨o, e _ _ h (ne_of h hx (by intro z; cases z))⟩)
  · exact .inr h
theorem Kept.seqFI {x C dx : Addr} {fs : List (Str × V)} {H H' : Hp} {a : Addr} {xs : List V} (e : Kept x H H') (hx : H x = some (.ins C dx fs)) (h : SqF H a xs) : SqF H' a xs := e.seqF hx (by intro o ys z; cases z) h
theorem Kept.rowsI {x C dx : Addr} {fs : List (Str × V)} {H H' : Hp} {as : List Addr} {rs : List (List Int)} (e : Kept x H H') (hx : H x = some (.ins C dx fs)) (h : RowsAt H as rs) : RowsAt H' as rs :=
  ⟨h.1, fun i a r e1 e2 => e _ _ (h.2 i a r e1 e2) (ne_of (h.2 i a r e1 e2) hx (by intro z; cases z))⟩
theorem Kept.self {x : Addr} {H : Hp} {o : HO} : Kept x H (L2.upd H x o) := fun b u e n => by rw [upd_ne n]; exact e
theorem RowsT.kept {x C dx : Addr} {fs : List (Str × V)} {H H' : Hp} {as : List Addr} {rs : List (List Int)} (e : Kept x H H') (hx : H x = some (.ins C dx fs)) (h : RowsT H as rs) : RowsT H' as rs :=
  ⟨h.1, fun i a r e1 e2 => e _ _ (h.2 i a r e1 e2) (ne_of (h.2 i a r e1 e2) hx (by intro z; cases z))⟩
theorem RowsT.snoc {H : Hp} {as : List Addr} {rs : List (List Int)} {a : Addr} {r : List Int} (h : RowsT H as rs) (e : H a = some (.tup (r.map V.int))) : RowsT H (as ++ [a]) (rs ++ [r]) := by
  refine ⟨by simp [h.1], fun i b q e1 e2 => ?_⟩
  by_cases hi : i < as.length
  · rw [List.getElem?_append_left hi] at e1
    rw [List.getElem?_append_left (by rw [← h.1]; exact hi)] at e2
    exact h.2 i b q e1 e2
  · rw [List.getElem?_append_right (by omega)] at e1
    rw [List.getElem?_append_right (by rw [← h.1]; omega), ← h.1] at e2
    cases hj : i - as.length with
    | zero =>
      rw [hj] at e1 e2
      simp at e1 e2
      rw [← e1, ← e2]; exact e
    | succ j => rw [hj] at e1; simp at e1
def rTu (K : PySem.W.Frag) : List V → Hp → VK → Prop := fun xs H Q => ∃ p ys, xs = [.ref p] ∧ ((SqL K H p ys ∧ ∀ l, H l = none → Q (.ref l) (upd H l (.tup ys))) ∨ (SqT K H p ys ∧ Q (.ref p) H))
section
variable {P : Program} {w : World} {K : PySem.W.Frag} {mg : Str → Option Value} {base : Heap}
abbrev pInit : List Str := ["self", "deeds", "rows", "tells", "start"]
abbrev nInit : List Str := ["self", "deeds", "rows", "tells", "start", "row"]
theorem scMInit : FnScope nInit pInit (defScope sMInit) := ⟨rfl, rfl, rfl, by decide +kernel, rfl, by decide +kernel, by decide +kernel⟩
abbrev MI (K : PySem.W.Frag) (f : Addr) (fd : FuncData) : Prop := FunD K "__init__" "Machine.__init__" (defArgs sMInit) (defBody sMInit) (defScope sMInit) [.int 0] [] f fd
theorem ok_minit {C f fCd fG fD fW fR fX fI fT fL : Addr} {fd fdCd fdG fdD fdW fdR fdX fdI fdT fdL : FuncData} (F : MI K f fd) (M : Tm K mg C) (T : Bt2 mg)
    (DCd : Df K mg "check_deeds" sCheckDeeds ["deeds"] fCd fdCd) (DG : Df K mg "check_group" sCheckGroup ["deeds"] fG fdG) (DD : Df K mg "check_different" sCheckDiff ["deeds"] fD fdD) (DW : Df K mg "is_word" sIsWord ["value"] fW fdW)
    (DR : Df K mg "check_rows" sCheckRows ["rows", "many"] fR fdR) (DX : Df K mg "is_index" sIsIndex ["value", "many"] fX fdX) (DI : Df K mg "is_integer" sIsInt ["value"] fI fdI)
    (DT : Df K mg "check_tells" sCheckTells ["tells", "many"] fT fdT) (DL : Df K mg "is_tell" sIsTell ["value"] fL fdL) : FnOk P w K mg base CX0 5 f fd pInit (spMInit K C) := by
  have GC : FnOk P w K mg base CX0 4 fCd fdCd ["deeds"] (spDeeds K) := ok_deeds DCd DG DD DW T
  have GR : FnOk P w K mg base CX0 3 fR fdR ["rows", "many"] (spRows K) := ok_rows DR DX DI T
  have GT : FnOk P w K mg base CX0 2 fT fdT ["tells", "many"] (spTells K) := ok_tells DT DL T
  have GX : FnOk P w K mg base CX0 2 fX fdX ["value", "many"] spIsIndex := ok_isindex DX DI T
  refine F.ok scMInit (fun vs H Q E h => ?_) (fun cdv A outer s H vs Q E hr h => ?_)
  · obtain ⟨x, dx, a, b, l, as, ws, rs, ss, st, rfl, _⟩ := h
    rfl
  · obtain ⟨x, dx, a, b, l, as, ws, rs, ss, st, rfl, hx, ha, hb, hR, hl, pt, k⟩ := h
    have hr2 : Room 2 _ := hr.mono (by decide)
    have hr3 : Room 3 _ := hr.mono (by decide)
    obtain ⟨t2, ht2, hq2⟩ : ∃ t2, PSs (cxOf CX0 P w K mg base nInit "Machine.__init__" (defScope sMInit) f cdv A outer s H E) ((defBody sMInit).drop 5) t2 ∧ ∀ (t : Addr) (H5 : Hp), H5 x = some (.ins C dx (putF "deeds" (.ref t) [])) →
        SqF H5 t (ws.map V.str) → SqL K H5 b (as.map V.ref) → RowsAt H5 as rs → SqL K H5 l (ss.map V.str) → Kept x H H5 → t2 { nx := fun _ H' => Q .non H', rt := Q } (start nInit [.ref x, .ref a, .ref b, .ref l, .int st]) H5 := by
      refine ⟨_, pss_cons (ps_fld (pv 0) (pe_callTy call_tuple_of (by rfl) T.tuple PyProof.Rows.boot_tuple (pa_cons (pe_lc (own := [("row", 5)]) (g := gName 5) (by rfl) scMInit.nd (pi_list (pv 2))
            (blkOk_by (own := [("row", 5)]) (N := nInit) (sc := defScope sMInit) (by decide +kernel)) (fun _ _ _ _ _ => pg_name (i := 5) scMInit.nd rfl (Or.inl rfl)) (fun _ _ _ _ _ => pts_nil)
            (fun _ _ _ _ _ => pe_callTy (r := rTu K) call_tuple_of (by rfl) T.tuple PyProof.Rows.boot_tuple (pa_cons (pv 5) pa_nil))) pa_nil)) rfl)
        (pss_cons (ps_fld (pv 0) (pe_callTy call_tuple_of (by rfl) T.tuple PyProof.Rows.boot_tuple (pa_cons (pv 3) pa_nil)) rfl)
        (pss_one (ps_fld (pv 0) (pv 4) rfl))), ?_⟩
      intro t H5 hx5 ht5 hb5 hR5 hl5 kk5
      refine ⟨_, rfl, b, rfl, ⟨_, hb5⟩, fun D hD => ?_⟩
      refine lc_list (K := K) (a := b) (xs := as.map V.ref) (fun i H' => Same H5 H' ∧ ∃ bs : List Addr, bs.length = i ∧ H' D = some (.lst (bs.map V.ref)) ∧ RowsT H' bs (rs.take i) ∧ ∀ q ∈ bs, q ≠ D) ?_ ?_ ?_ ?_
      · exact ⟨same_upd hD, [], rfl, upd_same, ⟨by simp, fun i a r e => by simp at e⟩, by simp⟩
      · exact fun i H' _ p => p.1.seq hb5
      · rintro i y H6 hi ⟨sm6, bs, hbs, hD6, hR6, hnD⟩
        rw [List.getElem?_map] at hi
        obtain ⟨ai, eai, rfl⟩ := Option.map_eq_some_iff.mp hi
        have hir : i < rs.length := by rw [← hR.1]; exact (List.getElem?_eq_some_iff.mp eai).1
        have eri : rs[i]? = some rs[i] := List.getElem?_eq_getElem hir
        have ha6 := sm6 _ _ (hR5.2 i ai _ eai eri)
        refine ⟨rfl, _, rfl, ai, _, rfl, .inl ⟨SqL.of ha6, fun q hq => ?_⟩⟩
        have nDq : D ≠ q := ne_of_none hD6 hq
        have h60 := pt.many.2
        refine ⟨_, (by rw [upd_ne nDq]; exact hD6), ?_, ?_, bs ++ [q], by simp [hbs], by rw [upd_same]; simp, ?_, ?_⟩
        · rw [List.length_map]; exact small1000 (by omega)
        · exact fun c o e => by rw [upd_ne (ne_of_none e hD), upd_ne (ne_of_none (sm6 _ _ e) hq)]; exact sm6 _ _ e
        · have e7 : RowsT (upd H6 q (.tup ((rs[i]).map V.int))) (bs ++ [q]) (rs.take i ++ [rs[i]]) := (hR6.same (same_upd hq)).snoc upd_same
          rw [List.take_add_one, eri]
          refine ⟨e7.1, fun j c r e1 e2 => ?_⟩
          have hm := List.mem_of_getElem? e1
          have : c ≠ D := by
            rcases List.mem_append.mp hm with h | h
            · exact hnD c h
            · rw [List.mem_singleton.mp h]; exact nDq.symm
          rw [upd_ne this]
          exact e7.2 j c r e1 e2
        · intro c hc
          rcases List.mem_append.mp hc with h | h
          · exact hnD c h
          · rw [List.mem_singleton.mp h]; exact nDq.symm
      · rintro H6 ⟨sm6, bs, hbs, hD6, hR6, hnD⟩
        have etk : rs.take (as.map V.ref).length = rs := by rw [List.length_map, hR.1, List.take_length]
        rw [etk] at hR6
        refine ⟨D, _, rfl, .inl ⟨SqL.of hD6, fun r hr7 => ?_⟩⟩
        have sr := same_upd (o := .tup (bs.map V.ref)) hr7
        have sm7 := sm6.trans sr
        have hx7 := sm7 _ _ hx5
        have hr7' : upd H6 r (.tup (bs.map V.ref)) r = some (.tup (bs.map V.ref)) := upd_same
        have hR7 := hR6.same sr
        have hl7 := sm7.seq hl5
        have ht7 := ht5.same sm7
        have kk7 : Kept x H (upd H6 r (.tup (bs.map V.ref))) := kk5.trans (.same sm7)
        generalize upd H6 r (.tup (bs.map V.ref)) = H7 at sm7 hx7 hr7' hR7 hl7 ht7 kk7 ⊢
        refine ⟨_, rfl, x, C, dx, _, rfl, hx7, M.cl, M.nR, (by show 1 < 1000; decide), ?_⟩
        have k8 : Kept x H7 (upd H7 x (.ins C dx (putF "rows" (.ref r) (putF "deeds" (.ref t) [])))) := Kept.self
        have hx8 : upd H7 x (.ins C dx (putF "rows" (.ref r) (putF "deeds" (.ref t) []))) x = some (.ins C dx (putF "rows" (.ref r) (putF "deeds" (.ref t) []))) := upd_same
        have hr8 := k8 _ _ hr7' (ne_of hr7' hx7 (by intro z; cases z))
        have hR8 := RowsT.kept k8 hx7 hR7
        have hl8 := k8.seqI hx7 hl7
        have ht8 := k8.seqFI hx7 ht7
        have kk8 := kk7.trans k8
        generalize upd H7 x (.ins C dx (putF "rows" (.ref r) (putF "deeds" (.ref t) []))) = H8 at k8 hx8 hr8 hR8 hl8 ht8 kk8 ⊢
        -- self.tells
        refine ⟨_, rfl, l, _, rfl, .inl ⟨hl8, fun l' hl9 => ?_⟩⟩
        have sl := same_upd (o := .tup (ss.map V.str)) hl9
        have hx9 := sl _ _ hx8
        have hl9' : upd H8 l' (.tup (ss.map V.str)) l' = some (.tup (ss.map V.str)) := upd_same
        have hr9 := sl _ _ hr8
        have hR9 := hR8.same sl
        have ht9 := ht8.same sl
        have kk9 : Kept x H (upd H8 l' (.tup (ss.map V.str))) := kk8.trans (.same sl)
        generalize upd H8 l' (.tup (ss.map V.str)) = H9 at hx9 hl9' hr9 hR9 ht9 kk9 ⊢
        refine ⟨_, rfl, x, C, dx, _, rfl, hx9, M.cl, M.nT, (by show 2 < 1000; decide), ?_⟩
        have k10 : Kept x H9 (upd H9 x (.ins C dx (putF "tells" (.ref l') (putF "rows" (.ref r) (putF "deeds" (.ref t) []))))) := Kept.self
        have hx10 : upd H9 x (.ins C dx (putF "tells" (.ref l') (putF "rows" (.ref r) (putF "deeds" (.ref t) [])))) x = some (.ins C dx (putF "tells" (.ref l') (putF "rows" (.ref r) (putF "deeds" (.ref t) [])))) := upd_same
        have hl10 := k10 _ _ hl9' (ne_of hl9' hx9 (by intro z; cases z))
        have hr10 := k10 _ _ hr9 (ne_of hr9 hx9 (by intro z; cases z))
        have hR10 := RowsT.kept k10 hx9 hR9
        have ht10 := k10.seqFI hx9 ht9
        have kk10 := kk9.trans k10
        generalize upd H9 x (.ins C dx (putF "tells" (.ref l') (putF "rows" (.ref r) (putF "deeds" (.ref t) [])))) = H10 at k10 hx10 hl10 hr10 hR10 ht10 kk10 ⊢
        -- self.start
        refine ⟨_, rfl, _, rfl, x, C, dx, _, rfl, hx10, M.cl, M.nS, (by show 3 < 1000; decide), ?_⟩
        have k11 : Kept x H10 (upd H10 x (.ins C dx (mf t r l' st))) := Kept.self
        exact k _ ⟨dx, t, r, l', bs, upd_same, k11.seqFI hx10 ht10, k11 _ _ hr10 (ne_of hr10 hx10 (by intro z; cases z)), RowsT.kept k11 hx10 hR10, k11 _ _ hl10 (ne_of hl10 hx10 (by intro z; cases z))⟩ (kk10.trans k11)
    have lnR : ∀ {H' : Hp}, Same H H' → LenV K (.ref b) H' rs.length := fun sm => .inl ⟨_, sm.seq hb, by rw [List.length_map, hR.1]⟩
    refine ⟨_, (pss_cons (ps_expr (pe_call GC hr rfl DCd.g DCd.F.kp DCd.b .nil pass0 (pa_cons (pv 1) pa_nil)))
      (pss_cons (ps_expr (pe_call GR hr3 rfl DR.g DR.F.kp DR.b .nil pass0 (pa_cons (pv 2) (pa_cons (pe_callB call_len (by rfl) T.len PySem.boot_len (pa_cons (pv 1) pa_nil)) pa_nil))))
      (pss_cons (ps_expr (pe_call GT hr2 rfl DT.g DT.F.kp DT.b .nil pass0 (pa_cons (pv 3) (pa_cons (pe_callB call_len (by rfl) T.len PySem.boot_len (pa_cons (pv 2) pa_nil)) pa_nil))))
      (pss_cons (ps_if (pt_not (pt_val (pe_call GX hr2 rfl DX.g DX.F.kp DX.b .nil pass0 (pa_cons (pv 4) (pa_cons (pe_callB call_len (by rfl) T.len PySem.boot_len (pa_cons (pv 2) pa_nil)) pa_nil))))) pss_never pss_nil)
      (pss_cons (ps_fld (pv 0) (pe_callTy (r := rTuF K) call_tuple_F (by rfl) T.tuple PyProof.Rows.boot_tuple (pa_cons (pv 1) pa_nil)) rfl) ht2))))), ?_⟩
    have has : Sq K H a (ws.map V.str) := ha.elim (fun z => .inr z.sq) .inl
    refine ⟨_, rfl, a, ws, rfl, has, pt.gd, fun H1 sm1 => ?_⟩
    refine ⟨_, rfl, _, rfl, _, ws.length, rfl, (by have := Sq.len (K := K) (has.same sm1); rwa [List.length_map] at this), b, ws.length, as, rs, rfl, sm1.seq hb, hR.same sm1, pt.many.1, pt.many.2, (by have := pt.gd.len.2; omega), pt.row, fun H2 sm2 => ?_⟩
    have s2 := sm1.trans sm2
    refine ⟨_, rfl, _, rfl, _, rs.length, rfl, lnR s2, l, ss, by rw [pt.tl.1]; rfl, s2.seq hl, pt.tl.2, by rw [pt.tl.1]; have := pt.many.2; omega, fun H3 sm3 => ?_⟩
    have s3 := s2.trans sm3
    refine ⟨_, rfl, _, rfl, _, rs.length, rfl, lnR s3, st, rs.length, rfl, pt.st.1, pt.st.2, true, rfl, ?_⟩
    refine iteF ?_
    have fin : ∀ (t : Addr) (H4 : Hp), SqF H4 t (ws.map V.str) → Same H3 H4 → t2 { nx := fun _ H' => Q .non H', rt := Q } (start nInit [.ref x, .ref a, .ref b, .ref l, .int st]) (upd H4 x (.ins C dx (putF "deeds" (.ref t) []))) := fun t H4 ht4 sm4 => by
      have s4 := s3.trans sm4
      have hx4 := s4 _ _ hx
      have k5 : Kept x H4 (upd H4 x (.ins C dx (putF "deeds" (.ref t) []))) := Kept.self
      exact hq2 t _ upd_same (k5.seqFI hx4 ht4) (k5.seqI hx4 (s4.seq hb)) (k5.rowsI hx4 (hR.same s4)) (k5.seqI hx4 (s4.seq hl)) ((Kept.same s4).trans k5)
    refine ⟨_, rfl, a, ws.map V.str, rfl, ?_⟩
    rcases ha with ha | ha
    · exact .inr ⟨(ha.same s3).sq, ⟨_, rfl, x, C, dx, _, rfl, s3 _ _ hx, M.cl, M.nD, (by show 0 < 1000; decide), fin a _ (ha.same s3) (Same.refl _)⟩⟩
    · refine .inl ⟨s3.seq ha, fun l0 o0 hl0 ho0 => ?_⟩
      have s4 := same_upd (o := .frz o0 (.tup (ws.map V.str))) hl0
      exact ⟨_, rfl, x, C, dx, _, rfl, s4 _ _ (s3 _ _ hx), M.cl, M.nD, (by show 0 < 1000; decide), fin l0 _ ⟨o0, upd_same, ho0⟩ s4⟩
end
end K1
set_option Elab.async false
set_option linter.all false
set_option maxRecDepth 100000
namespace K1
open PySem L2
abbrev sMade : Stmt := top 47
theorem pk_deeds (t r l : Addr) (s : Int) : valV (plainK t r l s) kDeeds = some (.ref t) := valV_pos rfl
theorem pk_rows (t r l : Addr) (s : Int) : valV (plainK t r l s) kRows = some (.ref r) := by
  have h1 : ¬ (kDeeds = kRows) := by decide +kernel
  unfold plainK; rw [valV_neg h1]; exact valV_pos rfl
theorem pk_tells (t r l : Addr) (s : Int) : valV (plainK t r l s) kTells = some (.ref l) := by
  have h1 : ¬ (kDeeds = kTells) := by decide +kernel
  have h2 : ¬ (kRows = kTells) := by decide +kernel
  unfold plainK; rw [valV_neg h1, valV_neg h2]; exact valV_pos rfl
theorem pk_start (t r l : Addr) (s : Int) : valV (plainK t r l s) kStart = some (.int s) := by
  have h1 : ¬ (kDeeds = kStart) := by decide +kernel
  have h2 : ¬ (kRows = kStart) := by decide +kernel
  have h3 : ¬ (kTells = kStart) := by decide +kernel
  unfold plainK; rw [valV_neg h1, valV_neg h2, valV_neg h3]; exact valV_pos rfl
theorem gDeeds {H : Hp} {p t r l : Addr} {s : Int} (h : H p = some (.dK (plainK t r l s))) : DGet H p (.str "deeds") (some (.ref t)) := by have := DGet.k (k := kDeeds) h; rw [pk_deeds] at this; exact this
theorem gRows {H : Hp} {p t r l : Addr} {s : Int} (h : H p = some (.dK (plainK t r l s))) : DGet H p (.str "rows") (some (.ref r)) := by have := DGet.k (k := kRows) h; rw [pk_rows] at this; exact this
theorem gTells {H : Hp} {p t r l : Addr} {s : Int} (h : H p = some (.dK (plainK t r l s))) : DGet H p (.str "tells") (some (.ref l)) := by have := DGet.k (k := kTells) h; rw [pk_tells] at this; exact this
theorem gStart {H : Hp} {p t r l : Addr} {s : Int} (h : H p = some (.dK (plainK t r l s))) : DGet H p (.str "start") (some (.int s)) := by have := DGet.k (k := kStart) h; rw [pk_start] at this; exact this
def spMade (K : PySem.W.Frag) (C : Addr) : Sp := fun vs H Q _ => ∃ (p : Addr) (ws : List Str) (rs : List (List Int)) (ss : List Str) (st : Int), vs = [.ref p] ∧ PlainAt H p ws rs ss st ∧ Parts ws rs ss st ∧
  ∀ (x : Addr) (H' : Hp), H x = none → MachAt K C H' x ws rs ss st → Same H H' → Q (.ref x) H'
section
variable {P : Program} {w : World} {K : PySem.W.Frag} {mg : Str → Option Value} {base : Heap}
abbrev nMade : List Str := ["_law_plain_here", "_law_row"]
theorem scMade : FnScope nMade ["_law_plain_here"] (defScope sMade) := ⟨rfl, rfl, rfl, by decide +kernel, rfl, by decide +kernel, by decide +kernel⟩
def rLi (K : PySem.W.Frag) : List V → Hp → VK → Prop := fun xs H Q => ∃ p ys, xs = [.ref p] ∧ (SqL K H p ys ∨ SqT K H p ys) ∧ ∀ l, H l = none → Q (.ref l) (upd H l (.lst ys))
theorem ok_made {C f fI : Addr} {fd fdI : FuncData} (D : Df K mg "_law_made" sMade ["_law_plain_here"] f fd) (M : Tm K mg C) (T : Bt2 mg) (Mk' : Mk K C fI) (GI : FnOk P w K mg base CX0 5 fI fdI pInit (spMInit K C)) (bI : Binds K fdI pInit []) : FnOk P w K mg base CX0 7 f fd ["_law_plain_here"] (spMade K C) := by
  refine D.F.ok scMade (fun vs H Q E h => ?_) (fun cdv A outer s H vs Q E hr h => ?_)
  · obtain ⟨p, ws, rs, ss, st, rfl, _⟩ := h
    rfl
  · obtain ⟨p, ws, rs, ss, st, rfl, ⟨t, r, l, as, hp, ht, hr', hl, hR⟩, pt, k⟩ := h
    have hu := hu_of hr
    refine ⟨_, pss_one (ps_ret (pe_make Mk' GI hr rfl M.mgC bI .nil pass0 (pa_cons (pe_dget hu (pv 0) pe_str (fun _ _ => rfl))
      (pa_cons (pe_lc (own := [("_law_row", 1)]) (g := gName 1) (by rfl) scMade.nd (pi_list (pe_dget hu (pv 0) pe_str (fun _ _ => rfl)))
            (blkOk_by (own := [("_law_row", 1)]) (N := nMade) (sc := defScope sMade) (by decide +kernel)) (fun _ _ _ _ _ => pg_name (i := 1) scMade.nd rfl (Or.inl rfl)) (fun _ _ _ _ _ => pts_nil)
            (fun _ _ _ _ _ => pe_callTy (r := rLi K) call_list_of (by rfl) T.list PyProof.Rows.boot_list (pa_cons (pv 1) pa_nil)))
      (pa_cons (pe_callTy call_list_of (by rfl) T.list PyProof.Rows.boot_list (pa_cons (pe_dget hu (pv 0) pe_str (fun _ _ => rfl)) pa_nil))
      (pa_cons (pe_dget hu (pv 0) pe_str (fun _ _ => rfl)) pa_nil)))))), ?_⟩
    refine ⟨_, rfl, p, _, rfl, gDeeds hp, _, rfl, p, _, rfl, gRows hp, r, rfl, ⟨_, SqL.of hr'⟩, fun D1 hD => ?_⟩
    refine lc_list (K := K) (a := r) (xs := as.map V.ref) (fun i H' => Same H H' ∧ ∃ bs : List Addr, bs.length = i ∧ H' D1 = some (.lst (bs.map V.ref)) ∧ RowsAt H' bs (rs.take i) ∧ ∀ q ∈ bs, q ≠ D1) ?_ ?_ ?_ ?_
    · exact ⟨same_upd hD, [], rfl, upd_same, ⟨by simp, fun i a r e => by simp at e⟩, by simp⟩
    · exact fun i H' _ q => SqL.of (q.1 _ _ hr')
    · rintro i y H6 hi ⟨sm6, bs, hbs, hD6, hR6, hnD⟩
      rw [List.getElem?_map] at hi
      obtain ⟨ai, eai, rfl⟩ := Option.map_eq_some_iff.mp hi
      have hir : i < rs.length := by rw [← hR.1]; exact (List.getElem?_eq_some_iff.mp eai).1
      have eri : rs[i]? = some rs[i] := List.getElem?_eq_getElem hir
      have ha6 := sm6 _ _ (hR.2 i ai _ eai eri)
      refine ⟨rfl, _, rfl, ai, _, rfl, .inl (SqL.of ha6), fun q hq => ?_⟩
      have nDq : D1 ≠ q := ne_of_none hD6 hq
      have h60 := pt.many.2
      refine ⟨_, (by rw [upd_ne nDq]; exact hD6), ?_, ?_, bs ++ [q], by simp [hbs], by rw [upd_same]; simp, ?_, ?_⟩
      · rw [List.length_map]; exact small1000 (by omega)
      · exact fun c o e => by rw [upd_ne (ne_of_none e hD), upd_ne (ne_of_none (sm6 _ _ e) hq)]; exact sm6 _ _ e
      · have e7 : RowsAt (upd H6 q (.lst ((rs[i]).map V.int))) (bs ++ [q]) (rs.take i ++ [rs[i]]) := (hR6.same (same_upd hq)).snoc upd_same
        rw [List.take_add_one, eri]
        refine ⟨e7.1, fun j c r e1 e2 => ?_⟩
        have hm := List.mem_of_getElem? e1
        have : c ≠ D1 := by
          rcases List.mem_append.mp hm with h | h
          · exact hnD c h
          · rw [List.mem_singleton.mp h]; exact nDq.symm
        rw [upd_ne this]
        exact e7.2 j c r e1 e2
      · intro c hc
        rcases List.mem_append.mp hc with h | h
        · exact hnD c h
        · rw [List.mem_singleton.mp h]; exact nDq.symm
    · rintro H6 ⟨sm6, bs, hbs, hD6, hR6, hnD⟩
      have etk : rs.take (as.map V.ref).length = rs := by rw [List.length_map, hR.1, List.take_length]
      rw [etk] at hR6
      refine ⟨_, rfl, p, _, rfl, gTells (sm6 _ _ hp), l, _, rfl, .inl (SqL.of (sm6 _ _ hl)), fun l2 hl2 => ?_⟩
      have sl := same_upd (o := .lst (ss.map V.str)) hl2
      have s7 := sm6.trans sl
      refine ⟨_, rfl, p, _, rfl, gStart (s7 _ _ hp), ?_⟩
      intro x dx hx hdx ndx
      have zx : H x = none := s7.free hx
      have s8 : Same (upd H6 l2 (.lst (ss.map V.str))) (upd (upd (upd H6 l2 (.lst (ss.map V.str))) dx (.own x)) x (.ins C dx [])) := fun b o e => by
        rw [upd_ne (ne_of_none e hx), upd_ne (ne_of_none e hdx)]; exact e
      refine ⟨x, dx, t, D1, l2, bs, ws, rs, ss, st, rfl, upd_same, (.inl ((ht.same s7).same s8)), SqL.of (s8 _ _ (sl _ _ hD6)), (hR6.same sl).same s8, SqL.of (s8 _ _ upd_same), pt, fun H9 hm hk => ⟨rfl, ?_⟩⟩
      exact k x H9 zx hm fun b o e => hk b o (s8 _ _ (s7 _ _ e)) (ne_of_none e zx)
end
end K1
set_option Elab.async false
set_option linter.all false
set_option maxRecDepth 100000
/-! the package's own errors: made from their fields, kept in their dict -/
namespace K1
open PySem L2
structure Oer (K : PySem.W.Frag) (mg : Str → Option Value) (x : Str) (fs : List Str) (C fI : Addr) (fd : FuncData) (qual : Str) (st : Stmt) : Prop where
  T : OexC K C
  xf : XfC K C
  g : mg x = some (.ref C)
  ini : PySem.W.findIn K (.ref C) "__init__" = some (some (.ref fI))
  tI : PySem.W.typeIn K (.ref fI) = some (.type "function")
  no : ∀ f ∈ fs, PySem.W.findIn K (.ref C) f = some none
  F : Fun K "__init__" qual st fI fd
  b : Binds K fd ("self" :: fs) []
def spIni (C : Addr) (fs : List Str) : Sp := fun vs H Q _ => ∃ (a : Addr) (ys : List V), vs = .ref a :: ys ∧ ys.length = fs.length ∧ H a = some (exo a C none) ∧
  ∀ dx, H dx = none → dx ≠ a → ∀ H', (∀ b o, H b = some o → b ≠ a → H' b = some o) → H' a = some (exo a C (some dx)) → H' dx = some (exd dx (fs.zip ys).reverse) → Q .non H'
/-- the reading of C(e, ..): d is the error's dict, new -/
theorem err_read {C : Addr} {fs : List Str} {vs : List V} {H1 : Hp} {Q : XK} (hl : fs.length ≤ 10) (e : vs.length = fs.length) (k : ∀ d G, Same H1 G → H1 d = none → G d = some (.xd (fs.zip vs).reverse) → Q (.ref C) (some d) G) :
    vs.length ≤ 1000 ∧ ∀ a, H1 a = none → spIni C fs (.ref a :: (vs ++ [])) (upd H1 a (exo a C none))
      (fun v H2 => v = .non ∧ ∃ (d : Addr) (gs : List (Str × V)), H2 a = some (exo a C (some d)) ∧ H2 d = some (exd d gs) ∧ H1 d = none ∧ Q (.ref C) (some d) (upd (del H2 a) d (.xd gs))) (fun _ _ _ => False) := by
  refine ⟨by omega, fun a ha => ?_⟩
  rw [List.append_nil]
  refine ⟨a, vs, rfl, e, upd_same, fun dx hdx ne H' keep ea ed => ⟨rfl, dx, _, ea, ed, ?_, ?_⟩⟩
  · rw [upd_ne ne] at hdx; exact hdx
  · have h1 : H1 dx = none := by rw [upd_ne ne] at hdx; exact hdx
    refine k dx _ (fun b o eb => ?_) h1 upd_same
    have nb : b ≠ a := ne_of_none eb ha
    rw [upd_ne (ne_of_none eb h1), del_ne nb]
    exact keep b o (by rw [upd_ne nb]; exact eb) nb
end K1
set_option Elab.async false
set_option linter.all false
set_option maxRecDepth 100000
/-! several clauses, each `except X as e`, of one name e -/
namespace K1
open PySem L2 PySem.Spec PyProof.Rows
def endsI (D : Ends) (i : Nat) : Ends := { nx := fun u G => D.nx (u.set i none) G, rt := D.rt, bk := fun u G => D.bk (u.set i none) G, ct := fun u G => D.ct (u.set i none) G }
def wAsAll (K : PySem.W.Frag) (i : Nat) (Wo : WX) (D : Ends) : List (Value × (Addr → Value → Option Addr → TS)) → WX
  | [] => Wo
  | p :: r => fun cl dd u G => ∃ b, PySem.W.exmOne K cl p.1 = some b ∧ (b = true → ∀ a, G a = none → p.2 a cl dd (endsI D i) (u.set i (some (.ref a))) G) ∧ (b = false → wAsAll K i Wo D r cl dd u G)
inductive AsOk (X : Cx) (n : Str) : List ExceptHandler → List (Value × (Addr → Value → Option Addr → TS)) → Prop
  | nil : AsOk X n [] []
  | cons {x : Str} {c : Value} {ts : Addr → Value → Option Addr → TS} {b₀ : Stmt} {suite : List Stmt} {np q : Pos} {hds : List ExceptHandler} {l : List (Value × (Addr → Value → Option Addr → TS))} (hc : Names X x c)
      (hsu : ∀ (a : Addr) (oe : Obj) (cl : Value) (dd : Option Addr) (pn : List (Addr × Obj)), Zc cl dd oe → (∃ vs, oe.data = .fields vs) → PSs (X.suite a ((a, oe) :: pn)) (b₀ :: suite) (ts a cl dd)) (r : AsOk X n hds l) :
      AsOk X n (.ExceptHandler (some (.Name x np)) (some n) (b₀ :: suite) q :: hds) ((c, ts) :: l)
section
variable {X : Cx} {n : Str} {i : Nat} {body : List Stmt} {h₀ : ExceptHandler} {hds : List ExceptHandler} {l : List (Value × (Addr → Value → Option Addr → TS))} {pos : Pos} {tb : WX → TS} {Wo : WX}
theorem ps_try_asAll (e0 : X.stack = X.env :: X.outer) (e1 : X.env.frame = some X.env.locals) (nd : X.N.Nodup) (hi : X.N[i]? = some n) (hln : X.env.kindOf n = some .local) (tk : Takes X Wo)
    (hb : ∀ (W : WX) (pn : List (Addr × Obj)) (xe : Value → Shared → Prop), Takes (X.tr pn xe) W → PassesOwn (model X.prog X.w) X.A X.env xe → PSs (X.tr pn xe) body (tb W))
    (hh : AsOk X n (h₀ :: hds) l) : PS X (.Try body (h₀ :: hds) [] [] pos) (fun D u G => tb (wAsAll X.K i Wo D l) D u G) := by
  refine ⟨fun pins s u G D I0 go0 => ?_⟩
  have ok := I0.ok
  have fr : X.A.frames = some (X.env :: X.outer) := by rw [ok.frames, e0]
  have lc : Loc X.env.scope n := .inl hln
  refine wpAny_Try_except ?_
  have run0 := (hb (wAsAll X.K i Wo D l) (X.pn ++ pins) (fun e s₁ => wpAny (model X.prog X.w) X.A (noteFrame e X.env) (fun _ s₂ => wpAny (model X.prog X.w) X.A (setFlight e none) (fun _ s₃ =>
    wpAny (model X.prog X.w) X.A (handleBy e X.env (h₀ :: hds)) (SP X pins D) X.xe s₃) X.xe s₂) X.xe s₁) (fun v s' xx => ?_) PassesOwn.looking).run [] s u G D (I0.toTry _) go0
  · refine wpAny_mono run0 (fun f s1 hsp => ?_) (fun e s1 he => he)
    cases f with
    | next => exact let ⟨u', G', J', q⟩ := hsp; wpAny_execs_nil ⟨u', G', J'.ofTry ok, q⟩
    | brk => exact let ⟨u', G', J', q⟩ := hsp; ⟨u', G', J'.ofTry ok, q⟩
    | cont => exact let ⟨u', G', J', q⟩ := hsp; ⟨u', G', J'.ofTry ok, q⟩
    | ret w => exact let ⟨v, u', G', J', r, q⟩ := hsp; ⟨v, u', G', J'.ofTry ok, r, q⟩
  · obtain ⟨a, B, sI, pins', u', G', cl, dd, rfl, J', nb, up, sky, na, os, ag, w⟩ := xx
    have J : Inv X pins u' G' sI := J'.ofTry ok
    have sk : Sky B (X.env :: X.outer) a (Zc cl dd) X.env.locals s'.heap := by rw [← e0]; exact sky
    show wpAny (model X.prog X.w) X.A (noteFrame (.ref a) X.env) _ _ _
    refine Sky.land Zc.steady fr e1 sk fun h3 fl3 up3 => ?_
    have J3 : Inv X pins u' G' { s' with heap := h3 } := J.landed nb fl3.1 (up.trans up3) os ag
    obtain ⟨oe3, vs3, he3, hz3, hd3⟩ := fl3.there
    have out : ∀ {h : Heap} {o : Obj} {vs : Array Value}, h.FunFrames B (X.env :: X.outer) → h.get? a = some o → o.data = .fields vs → a ∉ frs (X.env :: X.outer) := fun {h o vs} ff e hdt hm => by
      obtain ⟨_, o', e', hnf⟩ := ff.mem hm
      cases e.symm.trans e'
      exact hnf _ hdt
    have nfr := out fl3.2.2.1 he3 hd3
    have nL : a ≠ X.env.locals := fun z => nfr (List.mem_filterMap.mpr ⟨X.env, List.mem_cons_self, by rw [e1, z]⟩)
    have nF : a ∉ X.fs := fun hm => let ⟨e, he, q⟩ := List.mem_filterMap.mp hm; nfr (List.mem_filterMap.mpr ⟨e, List.mem_cons_of_mem _ he, q⟩)
    have S3 := J3.suite he3 hd3 na nL nF
    have go : ∀ {hs' : List ExceptHandler} {l' : List (Value × (Addr → Value → Option Addr → TS))}, AsOk X n hs' l' → wAsAll X.K i Wo D l' cl dd u' G' →
        wpAny (model X.prog X.w) X.A (handleBy (.ref a) X.env hs') (SP X pins D) X.xe { s' with heap := h3 } := by
      intro hs' l' hk
      induction hk with
      | nil =>
        intro w
        refine wpAny_handleBy_nil ?_
        obtain ⟨k1, k2, k3, oe, vs, T, oT, tz, he, hz, hd, h1, hr⟩ := id fl3
        unfold PySem.passOn
        refine wpAny_bind (wpAny_field he hd h1 ?_)
        rw [if_neg (show ¬ ((Value.ref T == Value.none) = true) by simp)]
        have fin : wpAny (model X.prog X.w) X.A (setFlight (.ref a) X.env.frame) (fun _ s4 => wpAny (model X.prog X.w) X.A (throw (.ref a) : Sem Flow) (SP X pins D) X.xe s4) X.xe { s' with heap := h3 } := by
          rw [e1]
          refine HandSPX.setFlight_upZ fl3 fun h4 hh4 up4 => wpAny_throw (tk _ _ ?_)
          exact ⟨a, B, sI, pins, u', G', cl, dd, rfl, J, nb, (up.trans up3).trans up4, .inr (.inr (by rw [e0]; exact hh4)), na, os, ag, w⟩
        first
          | exact wpAny_bind (wpAny_pure (wpAny_bind fin))
          | exact wpAny_bind fin
      | @cons x c ts b₀ suite np q0 hds2 l2 hc hsu r ih =>
        intro w
        obtain ⟨b, hb1, yes, no⟩ := w
        refine wpAny_handleBy_cons (codeAny_handlers_test ?_) (by intro q; cases q)
        have LT : PySem.W.Looks (model X.prog X.w) h3 (typeOf (.ref a)) cl := fun A Q E s k q => wpAny_typeOf_ref (k _ _ he3) (by rw [hz3.1]; exact q)
        have LM := PySem.W.exm_one (M := model X.prog X.w) (J3.kIn) LT hb1
        have test : ∀ {Q : Value → Shared → Prop} {E : Value → Shared → Prop}, Q c { s' with heap := h3 } → wpAny (model X.prog X.w) (X.A.mark (some (.ref a))) (eval (.Name x np) X.env) Q E { s' with heap := h3 } := fun {Q E} q => by
          rcases hc with ⟨hg, hdbg, hm | ⟨hm, hv, hnn⟩⟩
          · exact ld_glob (X := X.suite a ((a, oe3) :: (X.pn ++ pins))) S3 hg hm q hdbg
          · exact ld_blt (X := X.suite a ((a, oe3) :: (X.pn ++ pins))) S3 hg hm hv q hnn hdbg
        refine test (LM.here ?_)
        cases b with
        | true =>
          refine codeAny_handlers_suite_as (HandSPX.lands_againZ fl3 fun h4 fl4 up4 => ?_)
          have J4 : Inv X pins u' G' { s' with heap := h4 } := J.landed nb fl4.1 ((up.trans up3).trans up4) os ag
          obtain ⟨oe4, vs4, he4, hz4, hd4⟩ := fl4.there
          have S4 := J4.suite he4 hd4 na nL nF
          refine store_ok (X := X.suite a ((a, oe4) :: (X.pn ++ pins))) (v := .ref a) S4 nd hi lc rfl (fun s5 S5 => ?_) (.inr hln)
          refine wpAny_mono ((hsu a oe4 cl dd (X.pn ++ pins) hz4 ⟨_, hd4⟩).run [] s5 _ G' _ S5 (yes rfl a na)) (fun f s6 hsp => ?_) (fun _ _ z => False.elim z)
          have close : ∀ {u6 : L2.St} {G6 : Hp} {Q : Shared → Prop}, Inv (X.suite a ((a, oe4) :: (X.pn ++ pins))) [] u6 G6 s6 → (∀ s7, Inv X pins (u6.set i none) G6 s7 → Q s7) →
              wpAny (model X.prog X.w) X.A (do bindName X.env n .none; unbindBehindTheSuite X.env n q0) (fun _ s7 => Q s7) X.xe s6 := fun {u6 G6 Q} S6 hq => gone_ok (S6.unsuite ok) nd hi hln hq
          cases f with
          | next => exact let ⟨u6, G6, S6, q6⟩ := hsp; close S6 fun s7 J7 => ⟨_, _, J7, q6⟩
          | brk => exact let ⟨u6, G6, S6, q6⟩ := hsp; close S6 fun s7 J7 => ⟨_, _, J7, q6⟩
          | cont => exact let ⟨u6, G6, S6, q6⟩ := hsp; close S6 fun s7 J7 => ⟨_, _, J7, q6⟩
          | ret z => exact let ⟨v6, u6, G6, S6, r6, q6⟩ := hsp; close S6 fun s7 J7 => ⟨_, _, _, J7, r6, q6⟩
        | false =>
          show wpAny _ X.A (handleBy (.ref a) X.env hds2) _ _ _
          exact ih (no rfl)
    exact go hh w
end
end K1
set_option Elab.async false
set_option linter.all false
set_option maxRecDepth 100000
/-! repr of plain values; what is told of a making -/
namespace L2
open PySem PySem.Spec PyProof.Rows
def reprV : V → Str
  | .non => "None"
  | .bl b => if b then "True" else "False"
  | .int i => toString i
  | .str z => PySem.reprText z
  | _ => ""
def reprOk : V → Prop
  | .non => True
  | .bl _ => True
  | .int i => i.natAbs.log2 < 1920
  | .str z => (PySem.reprText z).length ≤ sizeLine
  | _ => False
def rRepr : List V → Hp → VK → Prop := fun xs H Q => ∃ v, xs = [v] ∧ reprOk v ∧ Q (.str (reprV v)) H
theorem call_repr_any {X : Cx} : CallR X (.builtin "repr") rRepr := by
  intro pins s σ H xs us Q I r h
  obtain ⟨v, rfl, ok, q⟩ := h
  cases v with
  | non =>
    obtain ⟨u, rfl, rv⟩ := vals1 r
    obtain rfl : u = Value.none := rv
    exact PySem.P.repr_of_none ⟨.str _, H, I.tok _, ⟨_, rfl⟩, q⟩
  | bl b =>
    obtain ⟨u, rfl, rv⟩ := vals1 r
    obtain rfl : u = Value.bool b := rv
    exact PySem.P.repr_of_bool ⟨.str _, H, I.tok _, ⟨_, rfl⟩, q⟩
  | int i =>
    obtain ⟨u, rfl, t, rfl⟩ := vals1 r
    exact PySem.P.repr_of_int ok ⟨.str _, H, I.tok _, ⟨_, rfl⟩, q⟩
  | str z =>
    obtain ⟨u, rfl, t, rfl⟩ := vals1 r
    exact PySem.P.repr_of_str ⟨.str _, H, I.tok _, ⟨_, rfl⟩, q⟩ ok
  | _ => exact ok.elim
end L2
set_option Elab.async false
set_option linter.all false
set_option maxRecDepth 100000
/-! what counts as an integer, an index, a word, a tell: of any value -/
namespace K1
open PySem L2
inductive Th (K : PySem.W.Frag) (H : Hp) : V → String → Prop
  | non : Th K H .non "NoneType"
  | bl (b : Bool) : Th K H (.bl b) "bool"
  | int (i : Int) : Th K H (.int i) "int"
  | str (z : Str) (hl : z.length ≤ 1000) : Th K H (.str z) "str"
  | tup {a : Addr} {xs : List V} (e : H a = some (.tup xs)) : Th K H (.ref a) "tuple"
  | lst {a : Addr} {xs : List V} (e : H a = some (.lst xs)) : Th K H (.ref a) "list"
  | dic {a : Addr} {kv : List (Key × V)} (e : H a = some (.dK kv)) : Th K H (.ref a) "dict"
theorem Th.ty {K : PySem.W.Frag} {H : Hp} {v : V} {t : String} (h : Th K H v t) : TyX K H v (.type t) := by
  cases h with
  | non => exact .base .non
  | bl b => exact .base (.bl b)
  | int i => exact .base (.int i)
  | str z => exact .base (.str z)
  | tup e => exact .base (.tup e)
  | lst e => exact .base (.lst e)
  | dic e => exact .base (.dK e)
theorem Th.same {K : PySem.W.Frag} {H H' : Hp} {v : V} {t : String} (h : Th K H v t) (s : Same H H') : Th K H' v t := by
  cases h with
  | non => exact .non
  | bl b => exact .bl b
  | int i => exact .int i
  | str z hl => exact .str z hl
  | tup e => exact .tup (s _ _ e)
  | lst e => exact .lst (s _ _ e)
  | dic e => exact .dic (s _ _ e)
def isStr : V → Bool | .str _ => true | _ => false
def isInt : V → Bool | .int _ => true | .bl _ => true | _ => false
def isBl : V → Bool | .bl _ => true | _ => false
def intB : V → Bool | .int _ => true | _ => false
def ixB (v : V) (m : Int) : Bool := match v with | .int i => decide (0 ≤ i) && decide (i < m) | _ => false
def wordL : List Nat → Bool
  | [] => false
  | c :: r => decide ((c :: r).length ≤ 12) && (decide (c ∈ LE) && (c :: r).all fun x => decide (x ∈ AL))
def wordB : V → Bool | .str z => wordL z.cps.toList | _ => false
def tellL (l : List Nat) : Bool := decide (1 ≤ l.length) && (decide (l.length ≤ 60) && l.all fun x => decide (x ∈ TL'))
def tellB : V → Bool | .str z => tellL z.cps.toList | _ => false
section
variable {K : PySem.W.Frag} {H : Hp} {v : V} {t : String}
theorem Th.kStr (h : Th K H v t) : PySem.W.kitOne K (.type t) (.type "str") = some (isStr v) := by cases h <;> first | exact kit_ty (r := true) (by decide +kernel) | exact kit_ty (r := false) (by decide +kernel)
theorem Th.kInt (h : Th K H v t) : PySem.W.kitOne K (.type t) (.type "int") = some (isInt v) := by cases h <;> first | exact kit_ty (r := true) (by decide +kernel) | exact kit_ty (r := false) (by decide +kernel)
theorem Th.kBl (h : Th K H v t) : PySem.W.kitOne K (.type t) (.type "bool") = some (isBl v) := by cases h <;> first | exact kit_ty (r := true) (by decide +kernel) | exact kit_ty (r := false) (by decide +kernel)
end
def spInt (K : PySem.W.Frag) : Sp := fun vs H Q _ => ∃ v t, vs = [v] ∧ Th K H v t ∧ Q (.bl (intB v)) H
def spIx (K : PySem.W.Frag) : Sp := fun vs H Q _ => ∃ v t m, vs = [v, .int m] ∧ Th K H v t ∧ Q (.bl (ixB v m)) H
def spWord (K : PySem.W.Frag) : Sp := fun vs H Q _ => ∃ v t, vs = [v] ∧ Th K H v t ∧ ∀ H', Same H H' → Q (.bl (wordB v)) H'
def spTell (K : PySem.W.Frag) : Sp := fun vs H Q _ => ∃ v t, vs = [v] ∧ Th K H v t ∧ ∀ H', Same H H' → Q (.bl (tellB v)) H'
section
variable {P : Program} {w : World} {K : PySem.W.Frag} {mg : Str → Option Value} {base : Heap}
theorem g_isint {f : Addr} {fd : FuncData} (D : Df K mg "is_integer" sIsInt ["value"] f fd) (T : Bt2 mg) : FnOk P w K mg base CX0 1 f fd ["value"] (spInt K) := by
  refine D.F.ok scIsInt (fun vs H Q E h => ?_) (fun cdv A outer s H vs Q E hr h => ?_)
  · obtain ⟨v, t, rfl, _⟩ := h
    rfl
  · obtain ⟨v, t, rfl, th, k⟩ := h
    refine ⟨_, pss_one (ps_ret (pe_and (pe_callB call_isi (by rfl) T.isinstance PyProof.Rows.boot_isinstance (pa_cons (pv 0) (pa_cons (pe_bltn (v := .ty "int") (by rfl) T.int PyProof.Rows.boot_int rfl) pa_nil)))
      (pe_one (pe_not (pe_callB call_isi (by rfl) T.isinstance PyProof.Rows.boot_isinstance (pa_cons (pv 0) (pa_cons (pe_bltn (v := .ty "bool") (by rfl) T.bool PyProof.Rows.boot_bool rfl) pa_nil))))))), ?_⟩
    refine ⟨_, rfl, _, _, _, _, isInt v, rfl, .ty "int", th.ty, th.kInt, isInt v, rfl, ?_⟩
    cases v with
    | int i => exact ⟨_, rfl, _, _, _, _, false, rfl, .ty "bool", th.ty, th.kBl, false, rfl, k⟩
    | bl b => exact ⟨_, rfl, _, _, _, _, true, rfl, .ty "bool", th.ty, th.kBl, true, rfl, k⟩
    | _ => exact k
theorem g_isindex {f fI : Addr} {fd fdI : FuncData} (D : Df K mg "is_index" sIsIndex ["value", "many"] f fd) (DI : Df K mg "is_integer" sIsInt ["value"] fI fdI) (T : Bt2 mg) : FnOk P w K mg base CX0 2 f fd ["value", "many"] (spIx K) := by
  have GI : FnOk P w K mg base CX0 1 fI fdI ["value"] (spInt K) := g_isint DI T
  refine D.F.ok scIsIndex (fun vs H Q E h => ?_) (fun cdv A outer s H vs Q E hr h => ?_)
  · obtain ⟨v, t, m, rfl, _⟩ := h
    rfl
  · obtain ⟨v, t, m, rfl, th, k⟩ := h
    refine ⟨_, pss_one (ps_ret (pe_and (pe_call GI hr rfl DI.g DI.F.kp DI.b .nil pass0 (pa_cons (pv 0) pa_nil)) (pe_one (pe_chain op_le op_lt pe_int (pv 0) (pv 1))))), ?_⟩
    refine ⟨_, rfl, v, t, rfl, th, intB v, rfl, ?_⟩
    cases v with
    | int i =>
      refine ⟨_, rfl, _, _, rfl, rfl, _, rfl, ?_⟩
      refine ite2 (fun h => ?_) (fun h => ?_)
      · refine ⟨_, rfl, _, _, rfl, rfl, ?_⟩
        have e : ixB (.int i) m = decide (i < m) := by
          show (decide (0 ≤ i) && decide (i < m)) = _
          rw [h]; rfl
        rw [e] at k
        exact k
      · have e : ixB (.int i) m = false := by
          show (decide (0 ≤ i) && decide (i < m)) = _
          rw [Bool.eq_false_iff.mpr h]; rfl
        rw [e] at k
        exact k
    | _ => exact k
end
end K1
set_option Elab.async false
set_option linter.all false
set_option maxRecDepth 100000
namespace K1
open PySem L2
/-- the signs of z held against a row of signs, one after the other -/
theorem all_signs {K : PySem.W.Frag} (A : List Nat) (l : List Nat) : ((l.map fun x => decide (x ∈ A)).all id) = l.all fun x => decide (x ∈ A) := by
  rw [List.all_map]; rfl
theorem take_snoc {l : List Nat} {i : Nat} {c : Nat} (h : l[i]? = some c) : l.take (i + 1) = l.take i ++ [c] := by
  rw [List.take_add_one, h]; rfl
section
variable {P : Program} {w : World} {K : PySem.W.Frag} {mg : Str → Option Value} {base : Heap}
theorem g_isword {f : Addr} {fd : FuncData} (D : Df K mg "is_word" sIsWord ["value"] f fd) (T : Bt2 mg) : FnOk P w K mg base CX0 1 f fd ["value"] (spWord K) := by
  refine D.F.ok scIsWord (fun vs H Q E h => ?_) (fun cdv A outer s H vs Q E hr h => ?_)
  · obtain ⟨v, t, rfl, _⟩ := h
    rfl
  · obtain ⟨v, t, rfl, th, k⟩ := h
    obtain ⟨tL, gL⟩ := T.LETTERS
    obtain ⟨tD, gD⟩ := T.DIGITS
    obtain ⟨tW, gW⟩ := T.LONGEST_WORD
    refine ⟨_, pss_cons (ps_if (PW.pt (pw_or (pt_not (pt_val (pe_callB call_isi (by rfl) T.isinstance PyProof.Rows.boot_isinstance (pa_cons (pv 0) (pa_cons (pe_bltn (v := .ty "str") (by rfl) T.str PyProof.Rows.boot_str rfl) pa_nil)))))
          (pw_or1 (pt_not (pt_chain op_le op_le pe_int (pe_callB call_len_str (by rfl) T.len PySem.boot_len (pa_cons (pv 0) pa_nil)) (pe_glob (v := .int 12) rfl gW ⟨_, rfl⟩))))))
        (pss_one (ps_ret pe_bl)) pss_nil)
      (pss_one (ps_ret (pe_and (pe_cmpR op_in_sign (pe_ix ix_str (pv 0) pe_int (fun _ _ => rfl)) (pe_glob (v := .str zLE) rfl gL ⟨_, rfl⟩) rfl)
        (pe_one (pe_callB (cr_all rfl) (by rfl) T.all PyProof.Rows.boot_all (pa_cons (pe_lc (own := [("sign", 1)]) (g := gName 1) (by rfl) scIsWord.nd (pi_str (pv 0))
          (blkOk_by (own := [("sign", 1)]) (N := ["value", "sign"]) (sc := defScope sIsWord) (by decide +kernel)) (fun _ _ _ _ _ => pg_name (i := 1) scIsWord.nd rfl (Or.inl rfl)) (fun _ _ _ _ _ => pts_nil)
          (fun _ _ _ _ _ => pe_cmpR op_in_sign (pv 1) (pe_op op_add_str (pe_glob (v := .str zLE) rfl gL ⟨_, rfl⟩) (pe_glob (v := .str zDG) rfl gD ⟨_, rfl⟩)) rfl)) pa_nil)))))), ?_⟩
    refine ⟨_, rfl, _, _, _, _, isStr v, rfl, .ty "str", th.ty, th.kStr, isStr v, rfl, ?_⟩
    cases th with
    | str z hl1 =>
      refine iteF ?_
      have hzl : z.length ≤ sizeLine := Nat.le_trans hl1 (by decide)
      have elen : z.length = z.cps.toList.length := len_tl z
      refine ⟨_, rfl, _, rfl, hzl, _, _, rfl, rfl, _, rfl, ?_⟩
      refine ite2 (fun h1 => ?_) (fun h1 => ?_)
      · have h1' : (1 : Int) ≤ (z.length : Int) := of_decide_eq_true h1
        refine ⟨_, _, rfl, rfl, _, rfl, ?_⟩
        refine ite2 (fun h2 => ?_) (fun h2 => ?_)
        · have e : wordB (.str z) = false := by
            have hn : ¬ z.cps.toList.length ≤ 12 := by
              intro hc
              have : decide ((z.length : Int) ≤ 12) = true := decide_eq_true (by omega)
              rw [this] at h2; exact absurd h2 (by decide)
            show wordL z.cps.toList = false
            cases hz : z.cps.toList with
            | nil => rfl
            | cons c r => rw [hz] at hn; show (decide _ && _) = false; rw [decide_eq_false hn]; rfl
          have := k H (Same.refl H)
          rw [e] at this
          exact this
        · have h12 : z.cps.toList.length ≤ 12 := by
            have : decide ((z.length : Int) ≤ 12) = true := by
              cases hd : decide ((z.length : Int) ≤ 12) with
              | true => rfl
              | false => rw [hd] at h2; exact absurd rfl h2
            have := of_decide_eq_true this
            omega
          obtain ⟨c, r, ez⟩ : ∃ c r, z.cps.toList = c :: r := by
            cases hz : z.cps.toList with
            | nil => rw [hz] at elen; simp at elen; omega
            | cons c r => exact ⟨c, r, rfl⟩
          have ew : wordB (.str z) = (decide (c ∈ LE) && z.cps.toList.all fun x => decide (x ∈ AL)) := by
            show wordL z.cps.toList = _
            rw [ez]
            show (decide _ && _) = _
            rw [ez] at h12
            rw [decide_eq_true h12]; rfl
          refine ⟨_, rfl, z, _, c, rfl, rfl, hzl, ?_, c, zLE, rfl, rfl, decide (c ∈ LE), rfl, ?_⟩
          · rw [ez]; exact atI_nat (j := 0) rfl
          refine ite2 (fun hc => ?_) (fun hc => ?_)
          · refine ⟨_, rfl, z, rfl, fun D hD => ?_⟩
            refine lc_it (walk_str (z := z)) (fun i H' => Same H H' ∧ H' D = some (.lst ((((z.cps.toList.take i).map fun x => decide (x ∈ AL))).map V.bl))) ?_ ?_ ?_ ?_
            · exact ⟨same_upd hD, upd_same⟩
            · exact fun _ _ _ _ => trivial
            · rintro i x H1 H2 hi ⟨sm, hD1⟩ ⟨rfl, c', hc', rfl⟩
              have hi' : z.cps.toList[i]? = some c' := by simpa using hc'
              refine ⟨rfl, _, rfl, _, _, rfl, rfl, by decide +kernel, c', zLE ++ zDG, rfl, rfl, _, hD1, ?_, ?_, ?_⟩
              · rw [List.length_map, List.length_map, List.length_take]; exact small1000 (by omega)
              · exact fun b o e => by rw [upd_ne (ne_of_none e hD)]; exact sm b o e
              · rw [upd_same, take_snoc hi']
                simp [AL_eq]
            · rintro H1 ⟨sm, hD1⟩
              refine ⟨D, _, rfl, SqL.of hD1, ?_⟩
              have e : ((z.cps.toList.take z.cps.size).map fun x => decide (x ∈ AL)).all id = wordB (.str z) := by
                have hs : z.cps.size = z.cps.toList.length := by simp
                rw [hs, List.take_length, all_signs (K := K), ew, hc]; rfl
              rw [e]
              exact k H1 sm
          · have e : wordB (.str z) = decide (c ∈ LE) := by
              rw [ew, Bool.eq_false_iff.mpr hc]; rfl
            have := k H (Same.refl H)
            rw [e] at this
            have e2 := Bool.eq_false_iff.mpr hc
            rw [e2] at this
            exact this
      · have e : wordB (.str z) = false := by
          have hn : z.cps.toList = [] := by
            cases hz : z.cps.toList with
            | nil => rfl
            | cons c r => exact absurd (decide_eq_true (by rw [elen, hz]; simp; omega)) h1
          show wordL z.cps.toList = false
          rw [hn]; rfl
        have := k H (Same.refl H)
        rw [e] at this
        exact ⟨_, rfl, this⟩
    | _ => exact k H (Same.refl H)
end
end K1
set_option Elab.async false
set_option linter.all false
set_option maxRecDepth 100000
set_option maxHeartbeats 2000000
/-! a lambda handed to a def that calls it in a try: what is raised is told of the very slots -/
namespace K1
open PySem PySem.Spec PyProof.Rows L2 LamX
/-- a def whose code object is known -/
structure FunC (K : PySem.W.Frag) (x qual : Str) (st : Stmt) (f : Addr) (fd : FuncData) (c : Addr) : Prop where
  ex : ∃ (oc : Value) (od : Option Addr) (kV doc pm : Value) (an : Option Addr) (ct : Value) (osl : Array (Option Value)),
    fd = PySem.W.fnOf x qual (defArgs st) (defBody st) (defScope st) .none kV doc pm an (.ref c) ct ∧ K.lookup f = some ⟨oc, od, .func fd, osl⟩ ∧ PySem.W.codeIn K (.ref c) qual = true
  kp : PySem.W.keepIn K (.ref f) = true
theorem FunC.toFun {K : PySem.W.Frag} {x qual : Str} {st : Stmt} {f c : Addr} {fd : FuncData} (F : FunC K x qual st f fd c) : L2.Fun K x qual st f fd :=
  let ⟨oc, od, kV, doc, pm, an, ct, osl, e, l, cc⟩ := F.ex
  ⟨⟨oc, od, kV, doc, pm, an, _, ct, osl, e, l, cc⟩, F.kp⟩
section
variable {P : Program} {w : World} {K : PySem.W.Frag} {mg : Str → Option Value} {base : Heap}
theorem FunC.ok {x qual : Str} {st : Stmt} {f c : Addr} {fd : FuncData} {N ps : List Str} {k : Nat} {sp : Sp} (F : FunC K x qual st f fd c) (S : FnScope N ps (defScope st)) (len : ∀ vs H Q E, sp vs H Q E → vs.length = ps.length)
    (body : ∀ (A : Around) (outer : List Env) (s : Shared) (H : Hp) (vs : List V) (Q : VK) (E : XK), Room k (A.deeper (envOfC qual (defScope st) s.heap.objs.size f (.ref c))) → sp vs H Q E →
      ∃ t, PSs (cxOf L2.CX0 P w K mg base N qual (defScope st) f (.ref c) A outer s H E).nox (defBody st) t ∧ t { nx := fun _ H' => Q .non H', rt := Q } (L2.start N vs) H) : FnOk P w K mg base L2.CX0 (k + 1) f fd ps sp := by
  obtain ⟨oc, od, kV, doc, pm, an, ct, osl, rfl, l, cc⟩ := F.ex
  exact fn_of l cc S len fun A outer s H vs Q E hr h => (body A outer s H vs Q E hr h).imp fun t ht => ⟨ht.1.nox, ht.2⟩
end
end K1
namespace LamX
open PySem L2 K1
/-! what is kept when a lambda is made -/
theorem ExtN.tup {H H' : Hp} (e : ExtN H H') {a : Addr} {xs : List V} (h : H a = some (.tup xs)) : H' a = some (.tup xs) := e _ _ h fun ps => by intro z; cases z
theorem ExtN.lst {H H' : Hp} (e : ExtN H H') {a : Addr} {xs : List V} (h : H a = some (.lst xs)) : H' a = some (.lst xs) := e _ _ h fun ps => by intro z; cases z
theorem ExtN.ins {H H' : Hp} (e : ExtN H H') {a C dx : Addr} {fs : List (Str × V)} (h : H a = some (.ins C dx fs)) : H' a = some (.ins C dx fs) := e _ _ h fun ps => by intro z; cases z
theorem ExtN.dk {H H' : Hp} (e : ExtN H H') {a : Addr} {kv : List (Key × V)} (h : H a = some (.dK kv)) : H' a = some (.dK kv) := e _ _ h fun ps => by intro z; cases z
theorem ExtN.seqT {K : PySem.W.Frag} {H H' : Hp} {a : Addr} {xs : List V} (e : ExtN H H') (h : SqT K H a xs) : SqT K H' a xs := by
  rcases h with (h | ⟨o, h⟩) | h
  · exact .inl (.inl (e.tup h))
  · exact .inl (.inr ⟨o, e _ _ h fun ps => by intro z; cases z⟩)
  · exact .inr h
theorem ExtN.seqL {K : PySem.W.Frag} {H H' : Hp} {a : Addr} {xs : List V} (e : ExtN H H') (h : SqL K H a xs) : SqL K H' a xs := by
  rcases h with (h | ⟨o, h⟩) | h
  · exact .inl (.inl (e.lst h))
  · exact .inl (.inr ⟨o, e _ _ h fun ps => by intro z; cases z⟩)
  · exact .inr h
theorem ExtN.pen {H H' : Hp} (e : ExtN H H') {d c : Addr} {n : Nat} (h : PenAt H d c n) : PenAt H' d c n := by
  obtain ⟨ns, a, l, h1, h2, h3⟩ := h
  exact ⟨ns, a, l, e.dk h1, e.lst h2, h3⟩
end LamX
namespace K1
open PySem PySem.Spec PyProof.Rows L2 LamX
/-- all but d and the tables is kept -/
def KeptN (d : Addr) (H H' : Hp) : Prop := ∀ b o, H b = some o → b ≠ d → (∀ ps, o ≠ .tbl ps) → H' b = some o
theorem KeptN.refl (d : Addr) (H : Hp) : KeptN d H H := fun _ _ e _ _ => e
theorem KeptN.trans {d : Addr} {H H1 H2 : Hp} (a : KeptN d H H1) (b : KeptN d H1 H2) : KeptN d H H2 := fun c o e n m => b c o (a c o e n m) n m
theorem KeptN.seqL {K : PySem.W.Frag} {d : Addr} {H H' : Hp} {a : Addr} {xs : List V} (e : KeptN d H H') (n : a ≠ d) (h : SqL K H a xs) : SqL K H' a xs := by
  rcases h with (h | ⟨o, h⟩) | h
  · exact .inl (.inl (e _ _ h n fun ps => by intro z; cases z))
  · exact .inl (.inr ⟨o, e _ _ h n fun ps => by intro z; cases z⟩)
  · exact .inr h
theorem KeptN.seqT {K : PySem.W.Frag} {d : Addr} {H H' : Hp} {a : Addr} {xs : List V} (e : KeptN d H H') (n : a ≠ d) (h : SqT K H a xs) : SqT K H' a xs := by
  rcases h with (h | ⟨o, h⟩) | h
  · exact .inl (.inl (e _ _ h n fun ps => by intro z; cases z))
  · exact .inl (.inr ⟨o, e _ _ h n fun ps => by intro z; cases z⟩)
  · exact .inr h
theorem KeptN.upd {d D : Addr} {H0 H : Hp} {o : HO} (k : KeptN d H0 H) (h : H0 D = none) : KeptN d H0 (upd H D o) := fun b u e nb m => by
  rw [upd_ne (ne_of_none e h)]; exact k b u e nb m
theorem KeptN.tup {d : Addr} {H H' : Hp} {a : Addr} {xs : List V} (e : KeptN d H H') (n : a ≠ d) (h : H a = some (.tup xs)) : H' a = some (.tup xs) := e _ _ h n fun ps => by intro z; cases z
theorem KeptN.lst {d : Addr} {H H' : Hp} {a : Addr} {xs : List V} (e : KeptN d H H') (n : a ≠ d) (h : H a = some (.lst xs)) : H' a = some (.lst xs) := e _ _ h n fun ps => by intro z; cases z
theorem KeptN.ins {d : Addr} {H H' : Hp} {a C dx : Addr} {fs : List (Str × V)} (e : KeptN d H H') (n : a ≠ d) (h : H a = some (.ins C dx fs)) : H' a = some (.ins C dx fs) := e _ _ h n fun ps => by intro z; cases z
theorem Kept.n {d : Addr} {H H' : Hp} (k : Kept d H H') : KeptN d H H' := fun b o e n _ => k b o e n
end K1
namespace LamX
open PySem L2 K1
theorem ExtN.n {d : Addr} {H H' : Hp} (k : ExtN H H') : KeptN d H H' := fun b o e _ m => k b o e m
theorem Tabs.kept {T : List (Addr × Str)} {d : Addr} {kv : List (Key × V)} {H H' : Hp} (t : Tabs T H) (hd : H d = some (.dK kv)) (k : Kept d H H') : Tabs T H' := fun p hp => by
  obtain ⟨ps, h1, h2, h3⟩ := t p hp
  refine ⟨ps, k _ _ h1 (ne_of h1 hd (by intro z; cases z)), h2, fun pos cv hc => ?_⟩
  obtain ⟨c, e1, e2⟩ := h3 pos cv hc
  exact ⟨c, e1, k _ _ e2 (ne_of e2 hd (by unfold CodeO; intro z; cases z))⟩
theorem Tabs.same {T : List (Addr × Str)} {H H' : Hp} (t : Tabs T H) (s : L2.Same H H') : Tabs T H' := t.ext s
theorem Tabs.updL {T : List (Addr × Str)} {H : Hp} {L : Addr} {xs ys : List V} (t : Tabs T H) (h : H L = some (.lst xs)) : Tabs T (upd H L (.lst ys)) := fun p hp => by
  obtain ⟨ps, h1, h2, h3⟩ := t p hp
  refine ⟨ps, by rw [upd_ne (ne_of h1 h (by intro z; cases z))]; exact h1, h2, fun pos cv hc => ?_⟩
  obtain ⟨c, e1, e2⟩ := h3 pos cv hc
  exact ⟨c, e1, by rw [upd_ne (ne_of e2 h (by unfold CodeO; intro z; cases z))]; exact e2⟩
theorem Tabs.pen {T : List (Addr × Str)} {d c : Addr} {n : Nat} {H H' : Hp} (t : Tabs T H) (p : PenAt H d c n) (k : Kept d H H') : Tabs T H' := by
  obtain ⟨ns, x, l, hd, _⟩ := p
  exact t.kept hd k
end LamX
namespace K1
open PySem PySem.Spec PyProof.Rows L2 LamX
section
variable {X : Cx} {pins : List (Addr × Obj)} {σ : L2.St} {H : Hp} {s : Shared}
/-- the call of the handed lambda; what it raises is taken at the slots as they are -/
theorem pe_actS {GX : CXT} {GE : XK} {GN : List Str} {gq : Str} {gs : Scope} {g f c' : Addr} {gcd pm ctv : Value} {params : Arguments} {body : Expr} {scope : Scope} {k i : Nat} {a : Str} {pn : List (Addr × Obj)} {xe : Value → Shared → Prop} {W : WX} {tb : XK → TE} {p1 p2 : Pos}
    (I : Inv X pins σ H s) (L : LamS X.env.scope scope) (hf : s.heap.get? f = some (PySem.W.kla_obj "<lambda>" (X.env.qual ++ "<lambda>") params body scope (cloFrom X.env.cells scope.names []) pm c' ctv)) (hfn : H f = none) (hfr : f ∉ frs X.stack)
    (bind0 : bindArgs (PySem.W.kla_fn "<lambda>" (X.env.qual ++ "<lambda>") params body scope (cloFrom X.env.cells scope.names []) pm (.ref c') ctv) ⟨[], []⟩ = pure [])
    (tk : Takes ((cxOf GX X.prog X.w X.K X.mg X.base GN gq gs g gcd X.A X.stack s H GE).tr pn xe) W) (hr : Room (k + 1) (X.A.deeper (envOfC gq gs s.heap.objs.size g gcd)))
    (inner : ∀ (A : Around) (outer : List Env) (s2 : Shared) (H2 : Hp) (E : XK), Room k (A.deeper (lamEnv X scope s2.heap.objs.size f c')) → PE (lamCx X A outer s2 H2 E scope f c') body (tb E))
    (hN : GN[i]? = some a) (hv : Vis gs a) (hd : (a == ("__debug__" : Str)) = false := by decide) (hcd : (a == ("__classdict__" : Str)) = false := by decide) :
    PE ((cxOf GX X.prog X.w X.K X.mg X.base GN gq gs g gcd X.A X.stack s H GE).tr pn xe) (.Call (.Name a p1) [] [] p2)
      (fun τ G Q => τ[i]? = some (some (.ref f)) ∧ G c' = some (CodeO c' (X.env.qual ++ "<lambda>")) ∧ tb (fun cls dd G' => W cls dd τ G') σ G Q) := by
  constructor
  intro pz sz τ G Q J ⟨at_, co, go⟩
  refine wpAny_Call_Name_kw (thn ((pe_var (pos := p1) (i := i) hN hv hd hcd).run pz sz τ G (fun v G1 => v = .ref f ∧ G1 = G) J ⟨.ref f, at_, rfl, rfl⟩) ?_)
  rintro u s1 ⟨v, G1, J1, rel, rfl, rfl⟩
  cases (show u = Value.ref f from rel)
  have held : s1.heap.get? f = some (PySem.W.kla_obj "<lambda>" (X.env.qual ++ "<lambda>") params body scope (cloFrom X.env.cells scope.names []) pm c' ctv) :=
    J1.base.keep f _ hf hfn hfr fun z => absurd (show f ∈ ([] : List Addr) from z) (by simp)
  refine PySem.W.callWith_F0 ⟨_, _, _, _, held⟩ ?_
  have base : Un (frs X.stack) [] H G1 s.heap s1.heap := J1.base
  obtain ⟨⟨oc, vs, t, k1, k2, k3⟩, -, -⟩ := J1.hok c' _ co
  have ran : codeAny (model X.prog X.w) (X.A.deeper (envOfC gq gs s.heap.objs.size g gcd)) (.call (.ref f) ⟨[], []⟩)
      (CR (L2.CX X.prog X.w) (envOfC gq gs s.heap.objs.size g gcd :: X.stack) X.prog X.w G1 s1 Q (fun cls dd G' => W cls dd τ G')) s1 := by
    refine PySem.W.kla_callFunE hr.depth held rfl L.co L.gen rfl ⟨c', oc, vs, t, rfl, k1, k2, k3⟩ ?_
    rw [bind0]
    refine wpAny_pure (wpAny_newFunctionEnv (fun y hy => (L.own y hy).2) (fun y hy => absurd hy (by simp)) (fun h₁ ns bt => ?_) L.kind)
    have up : ∀ b o, s1.heap.get? b = some o → h₁.get? b = some o := fun b o e =>
      bt.extBut b o (Nat.ne_of_lt (Heap.lt_size e)) (Heap.get?_push_of_some _ e)
    refine ⟨J1.nolimit.fresh _ bt, PySem.W.kla_codeExpr ?_⟩
    have start : Inv (lamCx X (X.A.deeper (envOfC gq gs s.heap.objs.size g gcd)) (envOfC gq gs s.heap.objs.size g gcd :: X.stack) s1 G1 (fun cls dd G' => W cls dd τ G') scope f c') [] σ G1
        { s1 with heap := h₁, toks := s1.toks + ([] : List (Str × Value)).length } := lam_start2 I L J1.env0 hr.hd base ns up
    refine wpAny_mono ((inner _ _ s1 G1 _ (hr.deeper _)).run [] _ _ G1 Q start go) ?_ fun e s' q => q
    rintro v s' ⟨w', G2, J2, rv, q⟩
    exact ⟨w', G2, J2.os, J2.bare, J2.base, J2.hok, rv, q⟩
  refine wpAny_call (codeAny_mono ran fun r s' q => ?_)
  match r, q with
  | .error e, q => exact passAt tk τ pz G1 s1 e s' J1 q
  | .ok (.ret u), q => exact J1.after q
end
/-- what the def g, which calls what it got, makes of the lambda's reading -/
def Gives (X : Cx) (GN : List Str) (x : Str) (gs : Scope) (g : Addr) (gcd : Value) (gb : List Stmt) (a q : Str) (TT : (XK → Hp → VK → Prop) → Hp → VK → Prop) : Prop :=
  ∀ (f c' : Addr) (s : Shared) (H : Hp) (Q : VK) (tl : XK → Hp → VK → Prop),
    (∀ (W : WX) (pn : List (Addr × Obj)) (xe : Value → Shared → Prop) (p1 p2 : Pos), Takes ((cxOf L2.CX0 X.prog X.w X.K X.mg X.base GN x gs g gcd X.A X.stack s H L2.E0).tr pn xe) W →
      PE ((cxOf L2.CX0 X.prog X.w X.K X.mg X.base GN x gs g gcd X.A X.stack s H L2.E0).tr pn xe) (.Call (.Name a p1) [] [] p2) (fun τ G Q => τ[0]? = some (some (.ref f)) ∧ G c' = some (CodeO c' q) ∧ tl (fun cls dd G' => W cls dd τ G') G Q)) →
    H c' = some (CodeO c' q) → TT tl H Q → ∃ t, PSs (cxOf L2.CX0 X.prog X.w X.K X.mg X.base GN x gs g gcd X.A X.stack s H L2.E0).nox gb t ∧ t { nx := fun _ G => Q .non G, rt := Q } (L2.start GN [.ref f]) H
section
variable {X : Cx}
/-- g(lambda: body) -/
theorem pe_lamS {T : List (Addr × Str)} {TT : (XK → Hp → VK → Prop) → Hp → VK → Prop} {x a : Str} {g c P : Addr} {k : Nat} {st : Stmt} {fd : FuncData} {GN : List Str} {params : Arguments} {body : Expr} {scope : Scope} {t : XK → TE} {p lp pos : Pos}
    (D : Df X.K X.mg x st [a] g fd) (S : FnScope GN [a] (defScope st)) (at0 : GN[0]? = some a) (va : Vis (defScope st) a) (gl : Gl X x)
    (gives : ∀ gcd, Gives X GN x (defScope st) g gcd (defBody st) a (X.env.qual ++ "<lambda>") TT) (B : TabB X.base X.mg c P) (code : X.env.code = .ref c) (mem : (P, X.env.qual ++ "<lambda>") ∈ T) (uni : ∀ p ∈ T, p.1 = P → p.2 = X.env.qual ++ "<lambda>")
    (hr : Room (k + 2) X.A) (L : LamS X.env.scope scope) (inner : ∀ (A : Around) (outer : List Env) (s2 : Shared) (H2 : Hp) (E : XK) (f c' : Addr), Room k (A.deeper (lamEnv X scope s2.heap.objs.size f c')) → PE (lamCx X A outer s2 H2 E scope f c') body (t E))
    (d0 : defaultsOf params X.env = ([], []) := by rfl) (bind0 : ∀ (q : Str) (cl : List (Str × Addr)) (pm cv ctv : Value), bindArgs (PySem.W.kla_fn "<lambda>" q params body scope cl pm cv ctv) ⟨[], []⟩ = pure [] := by intros; rfl)
    (hdb : (x == ("__debug__" : Str)) = false := by decide) (hd : (a == ("__debug__" : Str)) = false := by decide) (hcd : (a == ("__classdict__" : Str)) = false := by decide) :
    PE X (.Call (.Name x p) [.Lambda params body scope lp] [] pos) (tLam T TT t) := by
  obtain ⟨oc, od, kV, doc, pm, an, gcd, ct, osl, rfl, lk, cg⟩ := D.F.ex
  constructor
  intro pins s σ H Q I ⟨hT, h⟩
  refine wpAny_Call_Name_kw (ld_glob I gl D.g ?_ hdb)
  refine PySem.W.callWith_K (h₀ := X.base) I.ok.mod.kin D.F.kp ?_ (by rfl) (by rfl)
  show wpAny _ _ (spliced ((false, eval (.Lambda params body scope lp) X.env) :: backTo pos (starEach [] X.env))) _ _ s
  refine Calls.spliced_cons (lam_make2 I B code mem uni hT d0 (L.has I.ok) ?_)
  intro f c' pm' ctv H1 s' I1 eN T1 hf hfn hfr hco
  refine Calls.spliced_nil ⟨I1.kIn, wpAny_call (codeAny_mono ?_ fun r s2 (q : CR L2.CX0 X.stack X.prog X.w H1 s' Q L2.E0 r s2) => ?_)⟩
  · refine run_ofS (N := GN) (ps := [a]) (us := [.ref f]) (vs := [.ref f]) lk cg S hr I1.env0 (D.b s' [.ref f] I1.kIn rfl) (.cons rfl .nil) rfl fun hr' => ?_
    obtain ⟨t', ht', hq'⟩ := gives gcd f c' s' H1 Q (fun E G Q' => t E σ G Q')
      (fun W pn xe p1 p2 tk => pe_actS (i := 0) I1 L hf hfn hfr (bind0 _ _ _ _ _) tk hr' (fun A outer s2 H2 E hr2 => inner A outer s2 H2 E f c' hr2) at0 va hd hcd) hco (h H1 eN T1)
    exact ⟨t', ht'.nox, hq'⟩
  · match r, q with
    | .ok (.ret u), q => exact I1.after q
end
/-- try: a() / except C as e: .. / .. ; return None -/
def TTf (K : PySem.W.Frag) (i : Nat) (l : List (Value × (Addr → Value → Option Addr → TS))) : (XK → Hp → VK → Prop) → Hp → VK → Prop := fun tl H Q =>
  ∀ f : Addr, tl (fun cls dd G => wAsAll K i (fun _ _ _ _ => False) { nx := fun _ G' => Q .non G', rt := Q } l cls dd [some (.ref f), none] G) H fun _ G => Q .non G
theorem fault_gives {X : Cx} {a n x q : Str} {gs : Scope} {g : Addr} {gcd : Value} {h0 : ExceptHandler} {hds : List ExceptHandler} {l : List (Value × (Addr → Value → Option Addr → TS))} {j : Nat} {p1 p2 p3 p4 p5 p6 : Pos} (nd : [a, n].Nodup) (hln : gs.names.lookup n = some .local)
    (hh : ∀ (s : Shared) (H : Hp), AsOk (cxOf L2.CX0 X.prog X.w X.K X.mg X.base [a, n] x gs g gcd X.A X.stack s H L2.E0).nox n (h0 :: hds) l) :
    Gives X [a, n] x gs g gcd [.Try [.Expr (.Call (.Name a p1) [] [] p2) p3] (h0 :: hds) [] [] p4, .Return (some (.Constant .none j p5)) p6] a q (TTf X.K 1 l) := by
  intro f c' s H Q tl act hc h
  refine ⟨_, pss_cons (ps_try_asAll (X := (cxOf L2.CX0 X.prog X.w X.K X.mg X.base [a, n] x gs g gcd X.A X.stack s H L2.E0).nox) (i := 1)
    (tb := fun W D τ G => τ[0]? = some (some (.ref f)) ∧ G c' = some (CodeO c' q) ∧ tl (fun cls dd G' => W cls dd τ G') G fun _ G' => D.nx τ G') rfl rfl nd rfl hln LamX.takes0 (fun W pn xe tk _ => ?_) (hh s H)) (pss_one (ps_ret pe_non)), ?_⟩
  · constructor
    intro pins s' τ G D I go
    exact (pss_one (ps_expr (act W pn xe p1 p2 tk))).run pins s' τ G D I go
  · exact ⟨rfl, hc, h f⟩
end K1
set_option Elab.async false
set_option linter.all false
set_option maxRecDepth 100000
/-! a clause's suite that tells a tag and the error's fields -/
namespace K1
open PySem L2
def Has (gs : List (Str × V)) : List Str → List V → Prop
  | [], [] => True
  | f :: r, v :: vs => gs.lookup f = some v ∧ Has gs r vs
  | _, _ => False
def tFs (i : Nat) (C a : Addr) (cl : Value) (dd : Option Addr) : List Str → TA
  | [] => tNil
  | f :: r => tCons (tXf a cl dd C f (tVar i)) (tFs i C a cl dd r)
/-- return (tag, e.f, ..) -/
def suiteT (i : Nat) (C : Addr) (tag : Str) (fs : List Str) : Addr → Value → Option Addr → TS := fun a cl dd => tRet (tTup (tCons (tC (.str tag)) (tFs i C a cl dd fs)))
theorem tFs_read {i : Nat} {C a d : Addr} {gs : List (Str × V)} {σ : St} {G : Hp} (hσ : σ[i]? = some (some (.ref a))) (hd : G d = some (.xd gs)) : ∀ (fs : List Str) (vs : List V), Has gs fs vs → ∀ {Q : List V → Hp → Prop}, Q vs G → tFs i C a (.ref C) (some d) fs σ G Q
  | [], [], _, _, k => k
  | [], _ :: _, h, _, _ => h.elim
  | _ :: _, [], h, _, _ => h.elim
  | f :: r, v :: vs, h, Q, k => by
    obtain ⟨h1, h2⟩ := h
    exact ⟨_, hσ, rfl, rfl, d, gs, v, rfl, hd, h1, tFs_read hσ hd r vs h2 k⟩
theorem suiteT_read {i : Nat} {C a d : Addr} {tag : Str} {fs : List Str} {vs : List V} {gs : List (Str × V)} {D : Ends} {σ : St} {G : Hp} (hσ : σ[i]? = some (some (.ref a))) (hd : G d = some (.xd gs)) (h : Has gs fs vs) (hl : vs.length ≤ 10)
    (k : ∀ p, G p = none → D.rt (.ref p) (upd G p (.tup (.str tag :: vs)))) : suiteT i C tag fs a (.ref C) (some d) D σ G :=
  tFs_read hσ hd fs vs h ⟨by simp; exact Nat.le_of_lt (small1000 (by omega)), k⟩
end K1
set_option Elab.async false
set_option linter.all false
set_option maxRecDepth 100000
namespace L2
open PySem PySem.Spec PyProof.Rows
variable {X : Cx}
/-- x in t, of data, where t is a tuple -/
def rInT (K : PySem.W.Frag) (neg : Bool) : R2 := fun x y H Q => ∃ d ds, Dp K H x d ∧ Dp K H y (.tuple ds) ∧ SeqAt.shaped d = true ∧ SeqAt.shaped (.tuple ds) = true ∧ Q (.bl (if neg then !(ds.any fun z => PyData.eqv z d) else ds.any fun z => PyData.eqv z d)) H
theorem canLay_tup {ds : List PyData} (h : SeqAt.shaped (.tuple ds) = true) : PyData.canLayAll0 ds = true := by
  unfold SeqAt.shaped at h
  rw [PyData.canLay0] at h
  exact (Bool.and_eq_true_iff.mp h).1
theorem op_inT (hu : X.A.units + 65 < cLine) : OpR X (compareOp .In) (rInT X.K false) := by
  intro pins s σ H x y v u Q I rx ry h
  obtain ⟨d, ds, hd, he, sd, se, q⟩ := h
  obtain ⟨as, r1⟩ := Dp.reads I d x v hd rx
  obtain ⟨bs, r2⟩ := Dp.reads I (.tuple ds) y u he ry
  exact SeqAt.in_tuple_reads r2 r1 (canLay_tup se) (SeqAt.canLay_of_shaped sd) (room_in_shaped sd hu) ⟨.bl _, H, I, rfl, q⟩
theorem op_notInT (hu : X.A.units + 65 < cLine) : OpR X (compareOp .NotIn) (rInT X.K true) := by
  intro pins s σ H x y v u Q I rx ry h
  obtain ⟨d, ds, hd, he, sd, se, q⟩ := h
  obtain ⟨as, r1⟩ := Dp.reads I d x v hd rx
  obtain ⟨bs, r2⟩ := Dp.reads I (.tuple ds) y u he ry
  exact SeqAt.notIn_tuple_reads r2 r1 (canLay_tup se) (SeqAt.canLay_of_shaped sd) (room_in_shaped sd hu) ⟨.bl _, H, I, rfl, q⟩
end L2
namespace K1
open PySem L2
section
variable {P : Program} {w : World} {K : PySem.W.Frag} {mg : Str → Option Value} {base : Heap}
abbrev sBadState : Stmt := inClass (top 8) 0
theorem scBadState : FnScope ["self", "state"] ["self", "state"] (defScope sBadState) := ⟨rfl, rfl, rfl, by decide +kernel, rfl, by decide +kernel, by decide +kernel⟩
abbrev OBadState (K : PySem.W.Frag) (mg : Str → Option Value) (C fI : Addr) (fd : FuncData) : Prop := Oer K mg "BadState" ["state"] C fI fd "BadState.__init__" sBadState
theorem ini_BadState {C fI : Addr} {fd : FuncData} (O : OBadState K mg C fI fd) : FnOk P w K mg base CX0 1 fI fd ["self", "state"] (spIni C ["state"]) := by
  refine O.F.ok scBadState (fun vs H Q E h => ?_) (fun cdv A outer s H vs Q E hr h => ?_)
  · obtain ⟨a, ys, rfl, e, _⟩ := h
    show ys.length + 1 = _
    rw [e]; rfl
  · obtain ⟨a, ys, rfl, e, ha, k⟩ := h
    obtain ⟨y0, rfl⟩ : ∃ y0, ys = [y0] := by
      match ys, e with
      | [y0], _ => exact ⟨y0, rfl⟩
    refine ⟨_, pss_one (ps_ost (f := "state") (pv 0) (pv 1)), ?_⟩
    refine ⟨_, rfl, _, rfl, a, C, rfl, O.T, O.no _ (List.mem_cons_self ..), .inl ⟨ha, fun dx hdx ne => ?_⟩⟩
    refine k dx hdx ne _ (fun b o eb nb => ?_) ?_ ?_
    · rw [upd_ne nb, upd_ne (ne_of_none eb hdx)]; exact eb
    · exact upd_same
    · rw [upd_ne ne]; exact upd_same
abbrev sNoDeed : Stmt := inClass (top 9) 0
theorem scNoDeed : FnScope ["self", "index"] ["self", "index"] (defScope sNoDeed) := ⟨rfl, rfl, rfl, by decide +kernel, rfl, by decide +kernel, by decide +kernel⟩
abbrev ONoDeed (K : PySem.W.Frag) (mg : Str → Option Value) (C fI : Addr) (fd : FuncData) : Prop := Oer K mg "NoDeed" ["index"] C fI fd "NoDeed.__init__" sNoDeed
theorem ini_NoDeed {C fI : Addr} {fd : FuncData} (O : ONoDeed K mg C fI fd) : FnOk P w K mg base CX0 1 fI fd ["self", "index"] (spIni C ["index"]) := by
  refine O.F.ok scNoDeed (fun vs H Q E h => ?_) (fun cdv A outer s H vs Q E hr h => ?_)
  · obtain ⟨a, ys, rfl, e, _⟩ := h
    show ys.length + 1 = _
    rw [e]; rfl
  · obtain ⟨a, ys, rfl, e, ha, k⟩ := h
    obtain ⟨y0, rfl⟩ : ∃ y0, ys = [y0] := by
      match ys, e with
      | [y0], _ => exact ⟨y0, rfl⟩
    refine ⟨_, pss_one (ps_ost (f := "index") (pv 0) (pv 1)), ?_⟩
    refine ⟨_, rfl, _, rfl, a, C, rfl, O.T, O.no _ (List.mem_cons_self ..), .inl ⟨ha, fun dx hdx ne => ?_⟩⟩
    refine k dx hdx ne _ (fun b o eb nb => ?_) ?_ ?_
    · rw [upd_ne nb, upd_ne (ne_of_none eb hdx)]; exact eb
    · exact upd_same
    · rw [upd_ne ne]; exact upd_same
end
def Rs (C : Addr) (fs : List Str) (vs : List V) (H : Hp) (E : XK) : Prop := ∀ d G, Same H G → H d = none → G d = some (.xd (fs.zip vs).reverse) → E (.ref C) (some d) G
theorem Rs.same {C : Addr} {fs : List Str} {vs : List V} {H H' : Hp} {E : XK} (r : Rs C fs vs H E) (s : Same H H') : Rs C fs vs H' E := fun d G sG hd e => r d G (s.trans sG) (s.free hd) e
end K1
set_option Elab.async false
set_option linter.all false
set_option maxRecDepth 100000
namespace K1
open PySem L2
theorem eqv_strs : ∀ ws ws2 : List Str, PyData.eqvAll (ws.map PyData.str) (ws2.map PyData.str) = decide (ws = ws2)
  | [], [] => by simp [PyData.eqvAll]
  | [], _ :: _ => by simp [PyData.eqvAll]
  | _ :: _, [] => by simp [PyData.eqvAll]
  | a :: r, b :: q => by
    simp only [List.map_cons, PyData.eqvAll, eqv_strs r q, PyData.eqv]
    by_cases e : a = b
    · subst e; simp
    · simp [e]
theorem eqv_ints : ∀ ws ws2 : List Int, PyData.eqvAll (ws.map PyData.int) (ws2.map PyData.int) = decide (ws = ws2)
  | [], [] => by simp [PyData.eqvAll]
  | [], _ :: _ => by simp [PyData.eqvAll]
  | _ :: _, [] => by simp [PyData.eqvAll]
  | a :: r, b :: q => by
    simp only [List.map_cons, PyData.eqvAll, eqv_ints r q, PyData.eqv]
    by_cases e : a = b
    · subst e; simp
    · simp [e]
def OkS (ws : List Str) : Prop := ∀ z ∈ ws, PyData.strOk z = true
theorem TL_lt : ∀ c ∈ TL', c < 0x110000 := by decide +kernel
theorem ok_chars {z : Str} (h : ∀ c ∈ z.cps.toList, c ∈ TL') : PyData.strOk z = true := by
  unfold PyData.strOk
  rw [Array.all_eq_true']
  intro c hc
  exact decide_eq_true (TL_lt c (h c (by simpa using hc)))
theorem Wd.chars {z : Str} (h : Wd z) : ∀ c ∈ z.cps.toList, c ∈ AL := by
  obtain ⟨c, r, ez, hc, hr, _⟩ := h
  intro x hx
  rw [ez] at hx
  rcases List.mem_cons.mp hx with rfl | hx
  · exact LE_AL hc
  · exact hr x hx
theorem ok_wd {ws : List Str} (h : ∀ z ∈ ws, Wd z) : OkS ws := fun z hz => ok_chars fun c hc => List.mem_append_left _ ((h z hz).chars c hc)
theorem canLay_strs : ∀ ws : List Str, OkS ws → PyData.canLayAll0 (ws.map PyData.str) = true
  | [], _ => rfl
  | n :: r, h => by simp [PyData.canLayAll0, PyData.canLay0, canLay_strs r (fun z hz => h z (List.mem_cons_of_mem _ hz)), h n (List.mem_cons_self ..)]
theorem depth_ints : ∀ ns : List Int, PyData.depthAll (ns.map PyData.int) ≤ 1
  | [] => by decide
  | n :: r => by have := depth_ints r; simp only [List.map_cons, PyData.depthAll, PyData.depth]; omega
theorem depth_strs : ∀ ns : List Str, PyData.depthAll (ns.map PyData.str) ≤ 1
  | [] => by decide
  | n :: r => by have := depth_strs r; simp only [List.map_cons, PyData.depthAll, PyData.depth]; omega
theorem shaped_of {d : PyData} (h : d.canLay0 = true) (e : d.depth ≤ 64) : SeqAt.shaped d = true := by
  unfold SeqAt.shaped
  rw [h]
  simp [e]
theorem shaped_strs {ws : List Str} (h : OkS ws) : SeqAt.shaped (.tuple (ws.map PyData.str)) = true := shaped_of (by rw [PyData.canLay0, canLay_strs _ h]) (by rw [PyData.depth]; have := depth_strs ws; omega)
theorem dp_strs {K : PySem.W.Frag} {H : Hp} : ∀ ws : List Str, DpAll K H (ws.map V.str) (ws.map PyData.str)
  | [] => .nil
  | n :: r => .cons (.str n) (dp_strs r)

/-- None or a number, as data -/
def mD : V → PyData
  | .int i => .int i
  | _ => .none
def mOk (m : V) : Prop := m = .non ∨ ∃ i, m = .int i
theorem mOk.dp {K : PySem.W.Frag} {H : Hp} {m : V} (h : mOk m) : Dp K H m (mD m) := by
  rcases h with rfl | ⟨i, rfl⟩
  · exact .non
  · exact .int i
theorem mOk.sh {m : V} (h : mOk m) : SeqAt.shaped (mD m) = true := by
  rcases h with rfl | ⟨i, rfl⟩
  · exact shaped_of rfl (by decide)
  · exact shaped_of rfl (Nat.zero_le _)
theorem mOk.eqv {m n : V} (h : mOk m) (h' : mOk n) : PyData.eqv (mD m) (mD n) = decide (m = n) := by
  rcases h with rfl | ⟨i, rfl⟩ <;> rcases h' with rfl | ⟨j, rfl⟩ <;> simp [mD, PyData.eqv]
  by_cases e : i = j <;> simp [e]
end K1
set_option Elab.async false
set_option linter.all false
set_option maxRecDepth 100000
/-! where a row leads -/
namespace K1
open PySem L2
def forBody : Stmt → List Stmt
  | .For _ _ b _ _ => b
  | _ => []
theorem room65 {k : Nat} {A : Around} (r : Room k A) : A.units + 65 < cLine := by have := r.un; omega
/-- one step -/
def stp (rs : List (List Int)) (s k : Int) : Int := (rs.getD s.toNat []).getD k.toNat 0
def led (rs : List (List Int)) (ks : List Int) (s : Int) : Int := ks.foldl (stp rs) s
def wayN (rs : List (List Int)) (ks : List Int) (s : Int) (n : Nat) : List Int := (List.range n).map fun j => led rs (ks.take j) s
/-- all states on the way -/
def way (rs : List (List Int)) (ks : List Int) (s : Int) : List Int := wayN rs ks s (ks.length + 1)
/-- the deeds of a row of numbers -/
def nm (ws : List Str) (ks : List Int) : List Str := ks.map fun k => ws.getD k.toNat ""
def Ix (w : Nat) (ks : List Int) : Prop := ∀ k ∈ ks, 0 ≤ k ∧ k < (w : Int)
theorem nm_len (ws : List Str) (ks : List Int) : (nm ws ks).length = ks.length := by simp [nm]
theorem wayN_succ (rs : List (List Int)) (ks : List Int) (s : Int) (n : Nat) : wayN rs ks s (n + 1) = wayN rs ks s n ++ [led rs (ks.take n) s] := by
  simp [wayN, List.range_succ]
theorem wayN_len (rs : List (List Int)) (ks : List Int) (s : Int) (n : Nat) : (wayN rs ks s n).length = n := by simp [wayN]
theorem way_eq (rs : List (List Int)) (ks : List Int) (s : Int) : way rs ks s = wayN rs ks s ks.length ++ [led rs ks s] := by
  rw [way, wayN_succ, List.take_length]
theorem led_snoc (rs : List (List Int)) (ks : List Int) (s k : Int) : led rs (ks ++ [k]) s = stp rs (led rs ks s) k := by simp [led]
theorem at_last {xs : List Int} {y : Int} : atI ((xs ++ [y]).map V.int) (-1) = some (.int y) := by
  rw [List.map_append]; exact atI_last _ _
theorem at_deed {ws : List Str} {k : Int} (h0 : 0 ≤ k) (h1 : k < (ws.length : Int)) : atI (ws.map V.str) k = some (.str (ws.getD k.toNat "")) := by
  have hl : k.toNat < ws.length := by omega
  have e : k = ((k.toNat : Nat) : Int) := by omega
  rw [e]
  refine atI_nat ?_
  rw [Int.toNat_natCast, List.getElem?_map, List.getElem?_eq_getElem hl, List.getD_eq_getElem?_getD, List.getElem?_eq_getElem hl]
  rfl
theorem at_int {r : List Int} {k : Int} (h0 : 0 ≤ k) (h1 : k < (r.length : Int)) : atI (r.map V.int) k = some (.int (r.getD k.toNat 0)) := by
  have hl : k.toNat < r.length := by omega
  have e : k = ((k.toNat : Nat) : Int) := by omega
  rw [e]
  refine atI_nat ?_
  rw [Int.toNat_natCast, List.getElem?_map, List.getElem?_eq_getElem hl, List.getD_eq_getElem?_getD, List.getElem?_eq_getElem hl]
  rfl
theorem at_ref {as : List Addr} {k : Int} (h0 : 0 ≤ k) (h1 : k < (as.length : Int)) : ∃ a, as[k.toNat]? = some a ∧ atI (as.map V.ref) k = some (.ref a) := by
  obtain ⟨m, rfl⟩ : ∃ m : Nat, k = (m : Int) := ⟨k.toNat, by omega⟩
  have hl : m < as.length := by omega
  refine ⟨as[m], by rw [Int.toNat_natCast]; exact List.getElem?_eq_getElem hl, atI_nat ?_⟩
  rw [List.getElem?_map, List.getElem?_eq_getElem hl]
  rfl
theorem getD_get {α : Type} {xs : List α} {n : Nat} (d : α) (h : n < xs.length) : xs[n]? = some (xs.getD n d) := by
  rw [List.getD_eq_getElem?_getD, List.getElem?_eq_getElem h]; rfl
section
variable {ws : List Str} {rs : List (List Int)} {ss : List Str} {st : Int}
theorem Parts.stp (pt : Parts ws rs ss st) {s k : Int} (s0 : 0 ≤ s) (s1 : s < (rs.length : Int)) (k0 : 0 ≤ k) (k1 : k < (ws.length : Int)) :
    ∃ r, rs[s.toNat]? = some r ∧ r.length = ws.length ∧ K1.stp rs s k = r.getD k.toNat 0 ∧ 0 ≤ K1.stp rs s k ∧ K1.stp rs s k < (rs.length : Int) := by
  have hs : s.toNat < rs.length := by omega
  have er := getD_get (xs := rs) [] hs
  obtain ⟨hl, hx⟩ := pt.row _ (List.mem_of_getElem? er)
  have hk : k.toNat < (rs.getD s.toNat []).length := by omega
  have hm := hx _ (List.mem_of_getElem? (getD_get 0 hk))
  exact ⟨_, er, hl, rfl, hm⟩
theorem Parts.led (pt : Parts ws rs ss st) : ∀ {ks : List Int} {s : Int}, Ix ws.length ks → 0 ≤ s → s < (rs.length : Int) → 0 ≤ K1.led rs ks s ∧ K1.led rs ks s < (rs.length : Int)
  | [], s, _, h0, h1 => ⟨h0, h1⟩
  | k :: ks, s, hk, h0, h1 => by
    obtain ⟨k0, k1⟩ := hk k (List.mem_cons_self ..)
    obtain ⟨r, _, _, _, a, b⟩ := pt.stp h0 h1 k0 k1
    exact Parts.led pt (ks := ks) (fun j hj => hk j (List.mem_cons_of_mem _ hj)) a b
end
theorem Ix.take {w : Nat} {ks : List Int} (h : Ix w ks) (n : Nat) : Ix w (ks.take n) := fun k hk => h k (List.mem_of_mem_take hk)
theorem first_at {ws : List Str} (nd : ws.Nodup) {j : Nat} (hj : j < ws.length) : ∀ m, m < j → ws[m]? ≠ some (ws.getD j "") := by
  intro m hm e
  have hm' : m < ws.length := by omega
  rw [List.getElem?_eq_getElem hm', List.getD_eq_getElem?_getD, List.getElem?_eq_getElem hj] at e
  have e2 : ws[m] = ws[j] := by simpa using e
  exact List.pairwise_iff_getElem.mp nd m j hm' hj hm e2
theorem eqv_str (a b : Str) : PyData.eqv (.str a) (.str b) = decide (a = b) := by
  simp [PyData.eqv]
  by_cases e : a = b <;> simp [e]
theorem shaped_str {ws : List Str} (h : OkS ws) {z : Str} (hz : z ∈ ws) : SeqAt.shaped (.str z) = true := shaped_of (by rw [PyData.canLay0]; exact h z hz) (by rw [PyData.depth]; decide)
theorem ix_of {s m : Int} (h0 : 0 ≤ s) (h1 : s < m) : ixB (.int s) m = true := by
  unfold ixB
  simp [h0, h1]
end K1
set_option Elab.async false
set_option linter.all false
set_option maxRecDepth 100000
/-! dicts with tuple keys: items() walked; a display of one pair -/
namespace L2
open PySem PySem.W PySem.Spec PyProof.Rows
/-- the pairs of a locked dict with tuple keys, each a new tuple -/
def Itit (d : Addr) (o : Obj) (kvs : List (List Key × V)) : It :=
  ⟨fun i H => H d = some (.frz o (.dT kvs)) ∧ i < kvs.length, fun i H x H' => ∃ T k v q, kvs[i]? = some (k, v) ∧ H q = some (.tup (k.map kV)) ∧ x = .ref T ∧ H T = none ∧ H' = upd H T (.tup [.ref q, v]), fun i H => H d = some (.frz o (.dT kvs)) ∧ kvs.length ≤ i⟩
section
variable {X : Cx} {pins : List (Addr × Obj)} {σ : St} {H : Hp} {s : Shared} {d : Addr} {o : Obj}
theorem Inv.frzT2 {kvs : List (List Key × V)} (I : Inv X pins σ H s) (h : H d = some (.frz o (.dT kvs))) :
    (d == sysModules) = false ∧ s.heap.get? d = some o ∧ o.ExactDict ∧ ∃ (es : Array DictEntry) (ep : Nat), o.data = .dict es ep ∧ es.size = kvs.length ∧
      ∀ (i : Nat) (k : List Key) (v : V), kvs[i]? = some (k, v) → ∃ (en : DictEntry) (q : Addr), es[i]? = some en ∧ en.key = .ref q ∧ H q = some (.tup (k.map kV)) ∧ RelV v en.val := by
  obtain ⟨hd, z, hs, xs, pr, o', es, ep, ho, hx, hdt, he, _⟩ := I.hok d _ h
  rw [hd] at ho
  cases ho
  refine ⟨hs, hd, hx, es, ep, hdt, ?_, fun i k v e => ?_⟩
  · have l1 : es.size = xs.length := size_of_entries he
    have l2 : kvs.length = xs.length := Paired.length pr
    omega
  · obtain ⟨b, hb, e1, e2, e3⟩ := paired_get pr e
    have q := entry_at he i
    rw [hb] at q
    exact ⟨_, b.2.1, q, rfl, e2, e3⟩
end
section
variable {P : Program} {w : World} {K : PySem.W.Frag} {tg : Expr} {d : Addr} {o : Obj} {es : Array DictEntry} {ep : Nat}
theorem turn_itemsT {kvs : List (List Key × V)} {elts : List Expr} {kk : Nat} {tpos : Pos} (it : Addr) (hod : o.data = .dict es ep) :
    Turn P w K (.Tuple elts kk tpos) (Itit d o kvs) [it] it (fun i h => ∃ ok ov, IsItemIter h it d i kvs.length ep ok ov) where
  mem := by simp
  obj := fun i h st b hb => by
    have e : b = it := by simpa using hb
    subst e
    obtain ⟨ok, ov, e⟩ := st
    exact ⟨_, e, fun v z => nomatch z⟩
  keep := fun i h h' st k => let ⟨ok, ov, e⟩ := st; ⟨ok, ov, k it (by simp) _ e⟩
  item := by
    intro X hP hw hK hc i pins s σ H E I hf st hg
    subst hP hw hK
    obtain ⟨hd, hi⟩ := hg
    obtain ⟨hs, hgd, hx, es', ep', hdt, hsz, ent⟩ := I.frzT2 hd
    obtain ⟨rfl, rfl⟩ := dict_ep hod hdt
    obtain ⟨⟨k, v⟩, hkv⟩ : ∃ p, kvs[i]? = some p := ⟨kvs[i], List.getElem?_eq_getElem hi⟩
    obtain ⟨en, q, hen, hkey, hq, rv⟩ := ent i k v hkv
    obtain ⟨ok, ov, he⟩ := st
    rw [← hsz] at he
    have hlt : it < s.heap.objs.size := Heap.lt_size he
    have hi' : i < es'.size := by omega
    have een : es'[i] = en := by
      have := Array.getElem?_eq_getElem hi'
      rw [hen] at this
      exact (Option.some.inj this).symm
    refine DT.nextI he ⟨o, hgd, hx, hdt⟩ hi' fun h' ho hT hz hk => ?_
    rw [een] at ho hT
    refine ⟨_, rfl, wpAny_letOwnedTupleGo_items (s := { s with heap := h' }) ho fun h'' he' sb => ?_⟩
    have hT2 : h''.get? s.heap.objs.size = some { cls := .type "tuple", data := .seq #[en.key, en.val] } := (sb.2 _ (Nat.ne_of_gt hlt)).trans hT
    have new : ObjOk X.prog X.w (upd H s.heap.objs.size (.tup [.ref q, v])) h'' s.heap.objs.size (.tup [.ref q, v]) :=
      ⟨by show 2 ≤ sizeLine; decide, [en.key, en.val], .cons hkey (.cons rv .nil), ⟨_, hT2, rfl, _, rfl⟩⟩
    have I1 : Inv X pins σ (upd H s.heap.objs.size (.tup [.ref q, v])) { s with heap := h'' } :=
      I.turnedNew (t' := s.toks) (ch := [it]) (fun b ob hb e => (sb.2 b (by simpa using hb)).trans (hk b ob (by simpa using hb) e)) hf (Nat.le_refl _) new
    refine ⟨.ref s.heap.objs.size, _, I1, rfl, ⟨_, k, v, q, hkv, hq, rfl, I.hok.fresh (Nat.le_refl _), rfl⟩, ⟨en.key, en.val, ?_⟩, fun b hb => ?_⟩
    · rw [← hsz]; exact he'
    · have e : b = it := by simpa using hb
      rw [e, upd_ne (Nat.ne_of_lt hlt)]
      exact (hf it (by simp)).1
  done := by
    intro X hP hw hK hc i pins s σ H E I hf st hg
    subst hP hw hK
    obtain ⟨hd, hi⟩ := hg
    obtain ⟨f0, f1, f2, f3, f4, f5⟩ := hf it (by simp)
    obtain ⟨hs, hgd, hx, es', ep', hdt, hsz, ent⟩ := I.frzT2 hd
    obtain ⟨rfl, rfl⟩ := dict_ep hod hdt
    obtain ⟨ok, ov, he⟩ := st
    rw [← hsz] at he
    exact DT.endI (I.ok.hd hc) he ⟨o, hgd, hx, hdt⟩ (by omega) fun h' eb => ⟨rfl, I.turned (t' := s.toks) (fun b ob hb e => eb b ob hb e) f0 f1 f3 f4 f5⟩
  self := fun A i s Q E st h => let ⟨_, _, e⟩ := st; PySem.W.kcp_self e h
theorem walk_itemsT {kvs : List (List Key × V)} : Walk (Itit d o kvs) kvs.length (fun H => H d = some (.frz o (.dT kvs)))
    (fun i H x H' => ∃ T k v q, kvs[i]? = some (k, v) ∧ H q = some (.tup (k.map kV)) ∧ x = .ref T ∧ H T = none ∧ H' = upd H T (.tup [.ref q, v])) :=
  ⟨fun _ _ hi q => ⟨q, hi⟩, fun _ q => ⟨q, Nat.le_refl _⟩, fun _ _ _ _ _ _ y => y⟩
end
/-- for (k, v) in d.items(), d a locked dict with tuple keys -/
def iItemsT (td : TE) : TI := fun σ H R => td σ H fun x H1 => ∃ d o kvs, x = .ref d ∧ H1 d = some (.frz o (.dT kvs)) ∧ R (Itit d o kvs) H1
section
variable {X : Cx} {e : Expr} {td : TE} {apos cpos : Pos}
theorem pi_itemsT {elts : List Expr} {kk : Nat} {tpos : Pos} (he : PE X e td) (hbase : attributeBase e "items" X.env (eval e X.env) = eval e X.env := by rfl) (hline : (apos.endLine == cpos.line) = true := by rfl) :
    PI X (.Tuple elts kk tpos) (.Call (.Attribute e "items" apos) [] [] cpos) (iItemsT td) := by
  refine ⟨fun pins s σ H R I h => ?_⟩
  refine wpAny_Call_method (T := "dict") (id := "dict.items") hbase rfl hline F.plainAttrs_dict F.slot_dict_items F.type_dict_items (thn (he.run pins s σ H _ I h) fun u s1 ⟨x, H1, I1, rx, d, o, kvs, ex, hd, q⟩ => ?_)
  subst ex
  obtain rfl : u = Value.ref d := rx
  obtain ⟨hs, hgd, hx, es, ep, hdt, hsz, ent⟩ := I1.frzT2 hd
  have hm : DT.Raw s1.heap d es ep := ⟨o, hgd, hx, hdt⟩
  refine ⟨hm.typeIs, fun a ea => by cases ea; exact ⟨o, hgd, hx.2.1⟩, ?_⟩
  have I2 : Inv X pins σ H1 { s1 with heap := s1.heap.push { cls := .type "dict_items", data := .fields #[.ref d] } } := I1.kept (t' := s1.toks) fun b ob q => Heap.get?_push_of_some _ q
  have fin : wpAny (model X.prog X.w) X.A (pyIter (.ref s1.heap.objs.size)) (PIE X pins σ (.Tuple elts kk tpos) R) X.xe { s1 with heap := s1.heap.push { cls := .type "dict_items", data := .fields #[.ref d] } } := by
    refine DT.iterI (d := d) ⟨_, Heap.get?_push_size _ rfl, rfl, rfl⟩ (hm.push _) (pi_one (tk := s1.toks) I2 _ (turn_itemsT _ hdt) ⟨.none, .none, ?_⟩ q)
    rw [← hsz]
    exact Heap.get?_push_size _ rfl
  show wpAny _ _ (callWith cpos (.builtin "dict.items") [.ref d] [] []) _ X.xe s1
  exact method_meetsIn F.slot_dict_items F.entry_dict_items rfl (PySem.evalArgs_none ⟨rfl, hm.typeIs, F.args_dict_items_1 _, _, DT.meetsItems (es := es) (ep := ep) hs, hm, fin⟩)
end
/-- {k: v}, k a tuple -/
def tDisp1T (tk tv : TE) : TE := fun σ H Q => ∀ p, H p = none → tPairs [(tk, tv)] σ (upd H p (.dT [])) fun ps H2 => H2 p = some (.dT []) ∧ ∃ (b : Addr) (k : List Key) (y : V), ps = [(.ref b, y)] ∧ H2 b = some (.tup (k.map kV)) ∧ Q (.ref p) (upd H2 p (.dT [(k, y)]))
theorem pe_disp1T {X : Cx} {pos : Pos} {k v : Expr} {tk tv : TE} (hu : X.A.units + 1 < cLine) (hk : PE X k tk) (hv : PE X v tv) : PE X (.Dict [some k] [v] pos) (tDisp1T tk tv) := by
  refine ⟨fun pins s σ H Q I q => ?_⟩
  have hn := I.hok.fresh (Nat.le_refl s.heap.objs.size)
  have I1 := I.laid (a := s.heap.objs.size) (o := .dT []) (h' := s.heap.push { cls := .type "dict", data := .dict #[] }) (t' := s.toks) (fun _ _ q => Heap.get?_push_of_some _ q) (Nat.le_refl _) (dt_empty s.heap I.big)
  have hp := (pps_cons (pos := pos) hk hv pps_nil).run pins _ σ _ (fun ps H2 => H2 s.heap.objs.size = some (.dT []) ∧ ∃ (b : Addr) (k : List Key) (y : V), ps = [(.ref b, y)] ∧ H2 b = some (.tup (k.map kV)) ∧ Q (.ref s.heap.objs.size) (upd H2 s.heap.objs.size (.dT [(k, y)]))) I1 ?_
  · have pt : (evalEachOpt [some k] X.env).zip ((evalEach [v] X.env).map fun v => do let x ← v; standAt pos; pure x) = (pairTrees [some k] [v] X.env pos).map fun p => (some p.1, p.2) := by rfl
    rw [arm_eval_Dict, pt, dictDisplay_pairs _ (by simp [pairTrees]) (by simp [pairTrees])]
    refine wpAny_bind (wpAny_standAt (wpAny_bind (wpAny_subDictH (knd := tupleKind (mixKind X.prog X.w)) (Q := fun d s' => wpAny (model X.prog X.w) X.A (pure (Value.ref d)) _ _ s') (by show X.A.units < cLine; omega) (by simp [pairTrees]) ?_)))
    refine wpAny_mono hp (fun vs s2 h2 => ?_) fun _ _ z => z
    obtain ⟨ps, H2, I2, rel, e, b, kk, y, rfl, hb, q2⟩ := h2
    obtain ⟨z, hd, xs0, r0, dd⟩ := dt_of I2.hok e
    cases r0
    match vs, rel with
    | [(u1, u2)], .cons ⟨ru, rw2⟩ .nil =>
      cases (show u1 = Value.ref b from ru)
      refine ⟨[(kk, b, u2)], ⟨rfl, rfl, key_of I2.hok hb, trivial⟩, dd, fun h' tk' dd' hs => wpAny_pure ⟨.ref s.heap.objs.size, _, ?_, rfl, q2⟩⟩
      obtain ⟨o2, es, ep, ho2, h2a, h2b, h2c, _, h2d⟩ := dd'
      have rel2 : KT H2 (putK [] kk y) (storedH [] kk b u2) := KT.put .nil kk hb rw2
      refine d_write I2 (by rw [e]; exact True.intro) hs ⟨o2, ho2⟩ ⟨by show 1 ≤ sizeLine; decide, hd, _, (rel2 : KT H2 [(kk, y)] _).keeps fun c ys ec => ?_, o2, es, ep, ho2, h2a, h2b, h2c, h2d⟩
      rw [upd_ne (ne_of ec e (fun z => nomatch z))]
      exact ec
  · exact q _ hn
end L2
set_option Elab.async false
set_option linter.all false
set_option maxRecDepth 100000
/-! rows looked for layer by layer: the mathematics -/
namespace K1
open PySem L2
section
variable (r : List Nat → List Int)
/-- words, each only if its state is new -/
def dd (acc l : List (List Nat)) : List (List Nat) := l.foldl (fun acc v => if r v ∈ acc.map r then acc else acc ++ [v]) acc
def ext (w : Nat) (u : List Nat) : List (List Nat) := (List.range w).map fun k => u ++ [k]
def exts (w : Nat) (B : List (List Nat)) : List (List Nat) := B.flatMap (ext w)
/-- all words of a length; up to a length -/
def allW (w : Nat) : Nat → List (List Nat)
  | 0 => [[]]
  | n + 1 => exts w (allW w n)
def allU (w : Nat) : Nat → List (List Nat)
  | 0 => [[]]
  | n + 1 => allU w n ++ allW w (n + 1)
/-- what is met after n layers, and the last layer -/
def bfs (w : Nat) : Nat → List (List Nat) × List (List Nat)
  | 0 => ([[]], [[]])
  | n + 1 => (dd r (bfs w n).1 (exts w (bfs w n).2), (dd r (bfs w n).1 (exts w (bfs w n).2)).drop (bfs w n).1.length)
variable {r}
theorem dd_nil (acc : List (List Nat)) : dd r acc [] = acc := rfl
theorem dd_cons (acc : List (List Nat)) (v : List Nat) (l : List (List Nat)) : dd r acc (v :: l) = dd r (if r v ∈ acc.map r then acc else acc ++ [v]) l := rfl
theorem dd_app (acc l m : List (List Nat)) : dd r acc (l ++ m) = dd r (dd r acc l) m := List.foldl_append
theorem dd_pre : ∀ (l acc : List (List Nat)), ∃ N, dd r acc l = acc ++ N
  | [], acc => ⟨[], by rw [dd_nil, List.append_nil]⟩
  | v :: l, acc => by
    rw [dd_cons]
    by_cases h : r v ∈ acc.map r
    · rw [if_pos h]; exact dd_pre l acc
    · rw [if_neg h]
      obtain ⟨N, e⟩ := dd_pre l (acc ++ [v])
      exact ⟨v :: N, by rw [e, List.append_assoc]; rfl⟩
theorem dd_keep {acc l : List (List Nat)} {s : List Int} (h : s ∈ acc.map r) : s ∈ (dd r acc l).map r := by
  obtain ⟨N, e⟩ := dd_pre (r := r) l acc
  rw [e, List.map_append]
  exact List.mem_append_left _ h
theorem dd_mem : ∀ {l acc : List (List Nat)} {v : List Nat}, v ∈ l → r v ∈ (dd r acc l).map r
  | [], _, _, h => nomatch h
  | a :: l, acc, v, h => by
    rw [dd_cons]
    rcases List.mem_cons.mp h with rfl | h
    · refine dd_keep ?_
      by_cases h : r v ∈ acc.map r
      · rw [if_pos h]; exact h
      · rw [if_neg h, List.map_append]; exact List.mem_append_right _ (by simp)
    · exact dd_mem h
theorem dd_sub : ∀ {l acc : List (List Nat)} {v : List Nat}, v ∈ dd r acc l → v ∈ acc ∨ v ∈ l
  | [], _, _, h => .inl h
  | a :: l, acc, v, h => by
    rw [dd_cons] at h
    rcases dd_sub h with h | h
    · by_cases e : r a ∈ acc.map r
      · rw [if_pos e] at h; exact .inl h
      · rw [if_neg e] at h
        rcases List.mem_append.mp h with h | h
        · exact .inl h
        · exact .inr (by rw [List.mem_singleton.mp h]; exact List.mem_cons_self ..)
    · exact .inr (List.mem_cons_of_mem _ h)
theorem dd_noop : ∀ {l acc : List (List Nat)}, (∀ v ∈ l, r v ∈ acc.map r) → dd r acc l = acc
  | [], _, _ => rfl
  | a :: l, acc, h => by
    rw [dd_cons, if_pos (h a (List.mem_cons_self ..))]
    exact dd_noop fun v hv => h v (List.mem_cons_of_mem _ hv)
theorem dd_nodup : ∀ {l acc : List (List Nat)}, (acc.map r).Nodup → ((dd r acc l).map r).Nodup
  | [], _, h => h
  | a :: l, acc, h => by
    rw [dd_cons]
    refine dd_nodup ?_
    by_cases e : r a ∈ acc.map r
    · rw [if_pos e]; exact h
    · rw [if_neg e, List.map_append]
      refine List.nodup_append.mpr ⟨h, by simp, fun x hx y hy => ?_⟩
      rw [List.map_singleton, List.mem_singleton] at hy
      rw [hy]
      exact fun z => e (z ▸ hx)
theorem find_dd {p : List Nat → Bool} (hp : ∀ u v, r u = r v → p u = p v) : ∀ (l acc : List (List Nat)), (dd r acc l).find? p = (acc.find? p).or (l.find? p)
  | [], acc => by rw [dd_nil]; simp
  | a :: l, acc => by
    rw [dd_cons]
    by_cases e : r a ∈ acc.map r
    · rw [if_pos e, find_dd hp l acc]
      cases h : acc.find? p with
      | some z => rfl
      | none =>
        obtain ⟨b, hb, eb⟩ := List.mem_map.mp e
        have : p a = false := by rw [← hp b a eb]; simpa using List.find?_eq_none.mp h b hb
        rw [List.find?_cons, this]
    · rw [if_neg e, find_dd hp l, List.find?_append, List.find?_cons]
      cases acc.find? p with
      | some z => simp
      | none => cases h : p a <;> simp [h]
theorem exts_app (w : Nat) (A B : List (List Nat)) : exts w (A ++ B) = exts w A ++ exts w B := List.flatMap_append
theorem exts_cons (w : Nat) (a : List Nat) (B : List (List Nat)) : exts w (a :: B) = ext w a ++ exts w B := rfl
theorem mem_ext {w : Nat} {u v : List Nat} : v ∈ ext w u ↔ ∃ k, k < w ∧ v = u ++ [k] := by
  rw [ext, List.mem_map]
  constructor
  · rintro ⟨k, hk, rfl⟩; exact ⟨k, List.mem_range.mp hk, rfl⟩
  · rintro ⟨k, hk, rfl⟩; exact ⟨k, List.mem_range.mpr hk, rfl⟩
theorem mem_exts {w : Nat} {B : List (List Nat)} {v : List Nat} : v ∈ exts w B ↔ ∃ u ∈ B, ∃ k, k < w ∧ v = u ++ [k] := by
  rw [exts, List.mem_flatMap]
  constructor
  · rintro ⟨u, hu, hv⟩; exact ⟨u, hu, mem_ext.mp hv⟩
  · rintro ⟨u, hu, hv⟩; exact ⟨u, hu, mem_ext.mpr hv⟩
/-- words that add no state add none behind them -/
theorem exts_dd {w : Nat} (hr : ∀ u v k, r u = r v → r (u ++ [k]) = r (v ++ [k])) : ∀ (A acc acc1 B : List (List Nat)), dd r acc A = acc ++ B → (∀ u ∈ acc, ∀ k, k < w → r (u ++ [k]) ∈ acc1.map r) → dd r acc1 (exts w A) = dd r acc1 (exts w B)
  | [], acc, acc1, B, h, _ => by
    have : B = [] := by
      have := congrArg List.length h
      rw [dd_nil, List.length_append] at this
      exact List.length_eq_zero_iff.mp (by omega)
    rw [this]
  | a :: A, acc, acc1, B, h, hc => by
    rw [dd_cons] at h
    by_cases e : r a ∈ acc.map r
    · rw [if_pos e] at h
      obtain ⟨b, hb, eb⟩ := List.mem_map.mp e
      have e1 : dd r acc1 (ext w a) = acc1 := dd_noop fun v hv => by
        obtain ⟨k, hk, rfl⟩ := mem_ext.mp hv
        rw [← hr b a k eb]
        exact hc b hb k hk
      rw [exts_cons, dd_app, e1]
      exact exts_dd hr A acc acc1 B h hc
    · rw [if_neg e] at h
      obtain ⟨N, en⟩ := dd_pre (r := r) A (acc ++ [a])
      have eB : B = a :: N := by
        rw [en, List.append_assoc] at h
        exact (List.append_cancel_left h).symm
      subst eB
      rw [exts_cons, exts_cons, dd_app, dd_app]
      refine exts_dd hr A (acc ++ [a]) _ N en fun u hu k hk => ?_
      rcases List.mem_append.mp hu with hu | hu
      · exact dd_keep (hc u hu k hk)
      · rw [List.mem_singleton.mp hu]
        exact dd_mem (mem_ext.mpr ⟨k, hk, rfl⟩)
/-- what a search has after n layers -/
structure BfsI (r : List Nat → List Int) (w n : Nat) (M B : List (List Nat)) : Prop where
  ex : ∃ M0, M = M0 ++ B ∧ M = dd r M0 (allW w n) ∧ ∀ u ∈ M0, ∀ k, k < w → r (u ++ [k]) ∈ M.map r
  all : M = dd r [] (allU w n)
  nd : (M.map r).Nodup
  pre : ∀ u k, u ++ [k] ∈ M → u ∈ M
  lt : ∀ u ∈ M, ∀ k ∈ u, k < w
  len : ∀ u ∈ B, u.length = n
  hd : ∃ T, M = [] :: T
theorem bfs_ok (hr : ∀ u v k, r u = r v → r (u ++ [k]) = r (v ++ [k])) (w : Nat) : ∀ n, BfsI r w n (bfs r w n).1 (bfs r w n).2
  | 0 => ⟨⟨[], rfl, rfl, fun u hu => nomatch hu⟩, rfl, by simp [bfs], fun u k h => by simp [bfs] at h, fun u hu k hk => by
      have : u = [] := by simpa [bfs] using hu
      rw [this] at hk; exact (List.not_mem_nil hk).elim, fun u hu => by
      have : u = [] := by simpa [bfs] using hu
      rw [this]; rfl, ⟨[], rfl⟩⟩
  | n + 1 => by
    obtain ⟨⟨M0, h1, h2, h3⟩, h4, h5, h6, h7, h8, h9⟩ := bfs_ok hr w n
    generalize hM : (bfs r w n).1 = M at *
    generalize hB : (bfs r w n).2 = B at *
    obtain ⟨N, en⟩ := dd_pre (r := r) (exts w B) M
    have e1 : (bfs r w (n + 1)).1 = M ++ N := by
      show dd r (bfs r w n).1 (exts w (bfs r w n).2) = _
      rw [hM, hB, en]
    have e2 : (bfs r w (n + 1)).2 = N := by
      show (dd r (bfs r w n).1 (exts w (bfs r w n).2)).drop (bfs r w n).1.length = _
      rw [hM, hB, en, List.drop_left]
    rw [e1, e2]
    have e3 : M ++ N = dd r M (allW w (n + 1)) := by
      rw [← en]
      exact (exts_dd hr (allW w n) M0 M B (by rw [← h2]; exact h1) h3).symm
    have hN : ∀ v ∈ N, ∃ u ∈ B, ∃ k, k < w ∧ v = u ++ [k] := fun v hv => by
      -- v is new
      have hnd : ((M ++ N).map r).Nodup := by rw [← en]; exact dd_nodup h5
      rcases dd_sub (r := r) (l := exts w B) (acc := M) (by rw [en]; exact List.mem_append_right _ hv) with h | h
      · exfalso
        rw [List.map_append] at hnd
        exact (List.nodup_append.mp hnd).2.2 (r v) (List.mem_map_of_mem h) (r v) (List.mem_map_of_mem hv) rfl
      · exact mem_exts.mp h
    have hBM : ∀ u ∈ B, u ∈ M := fun u hu => by rw [h1]; exact List.mem_append_right _ hu
    refine ⟨⟨M, rfl, e3, fun u hu k hk => ?_⟩, ?_, by rw [← en]; exact dd_nodup h5, fun u k hu => ?_, fun u hu k hk => ?_, fun u hu => ?_, ?_⟩
    · rw [← en]
      rw [h1] at hu
      rcases List.mem_append.mp hu with hu | hu
      · exact dd_keep (h3 u hu k hk)
      · exact dd_mem (mem_exts.mpr ⟨u, hu, k, hk, rfl⟩)
    · rw [e3, h4]
      exact (dd_app _ _ _).symm
    · rcases List.mem_append.mp hu with hu | hu
      · exact List.mem_append_left _ (h6 u k hu)
      · obtain ⟨u', hu', k', _, e⟩ := hN _ hu
        obtain ⟨rfl, _⟩ := List.append_inj' e rfl
        exact List.mem_append_left _ (hBM u hu')
    · rcases List.mem_append.mp hu with hu | hu
      · exact h7 u hu k hk
      · obtain ⟨u', hu', k', hk', rfl⟩ := hN _ hu
        rcases List.mem_append.mp hk with hk | hk
        · exact h7 u' (hBM u' hu') k hk
        · rw [List.mem_singleton.mp hk]; exact hk'
    · obtain ⟨u', hu', k', _, rfl⟩ := hN _ hu
      rw [List.length_append, h8 u' hu']; rfl
    · obtain ⟨T, eT⟩ := h9
      exact ⟨T ++ N, by rw [eT]; rfl⟩
theorem allU_pre (w : Nat) : ∀ {n m : Nat}, n ≤ m → ∃ R, allU w m = allU w n ++ R
  | n, 0, h => ⟨[], by rw [Nat.le_zero.mp h]; simp⟩
  | n, m + 1, h => by
    by_cases e : n = m + 1
    · exact ⟨[], by rw [e]; simp⟩
    · obtain ⟨R, eR⟩ := allU_pre w (show n ≤ m by omega)
      exact ⟨R ++ allW w (m + 1), by rw [allU, eR, List.append_assoc]⟩
theorem allW_len (w : Nat) : ∀ (n : Nat) (v : List Nat), v ∈ allW w n ↔ v.length = n ∧ ∀ k ∈ v, k < w
  | 0, v => by
    simp only [allW, List.mem_singleton]
    constructor
    · rintro rfl; exact ⟨rfl, fun k h => nomatch h⟩
    · rintro ⟨h, _⟩; exact List.length_eq_zero_iff.mp h
  | n + 1, v => by
    rw [allW, mem_exts]
    constructor
    · rintro ⟨u, hu, k, hk, rfl⟩
      obtain ⟨h1, h2⟩ := (allW_len w n u).mp hu
      refine ⟨by rw [List.length_append, h1]; rfl, fun j hj => ?_⟩
      rcases List.mem_append.mp hj with h | h
      · exact h2 j h
      · rw [List.mem_singleton.mp h]; exact hk
    · rintro ⟨h1, h2⟩
      have hne : v ≠ [] := fun e => by rw [e] at h1; simp at h1
      refine ⟨v.dropLast, (allW_len w n _).mpr ⟨by rw [List.length_dropLast, h1]; rfl, fun k hk => h2 k (List.dropLast_subset v hk)⟩, v.getLast hne, h2 _ (List.getLast_mem hne), (List.dropLast_concat_getLast hne).symm⟩
theorem allU_mem (w : Nat) : ∀ (n : Nat) (v : List Nat), v ∈ allU w n ↔ v.length ≤ n ∧ ∀ k ∈ v, k < w
  | 0, v => by
    simp only [allU, List.mem_singleton]
    constructor
    · rintro rfl; exact ⟨Nat.le_refl _, fun k h => nomatch h⟩
    · rintro ⟨h, _⟩; exact List.length_eq_zero_iff.mp (by omega)
  | n + 1, v => by
    rw [allU, List.mem_append, allU_mem w n, allW_len w (n + 1)]
    constructor
    · rintro (⟨a, b⟩ | ⟨a, b⟩)
      · exact ⟨by omega, b⟩
      · exact ⟨by omega, b⟩
    · rintro ⟨a, b⟩
      by_cases e : v.length = n + 1
      · exact .inr ⟨e, b⟩
      · exact .inl ⟨by omega, b⟩
/-- the first of all words, up to a length, for which p holds -/
theorem bfs_find {p : List Nat → Bool} (hr : ∀ u v k, r u = r v → r (u ++ [k]) = r (v ++ [k])) (hp : ∀ u v, r u = r v → p u = p v) (w n : Nat) : (bfs r w n).1.find? p = (allU w n).find? p := by
  rw [(bfs_ok hr w n).all, find_dd hp]; simp
/-- an empty layer: nothing comes later -/
theorem bfs_end (hr : ∀ u v k, r u = r v → r (u ++ [k]) = r (v ++ [k])) {w n : Nat} (h : (bfs r w n).2 = []) : ∀ m, n ≤ m → bfs r w m = ((bfs r w n).1, [])
  | m, hm => by
    induction m with
    | zero =>
      have : n = 0 := by omega
      subst this
      exact Prod.ext rfl h
    | succ m ih =>
      by_cases e : n = m + 1
      · subst e; exact Prod.ext rfl h
      · have := ih (by omega)
        show (dd r (bfs r w m).1 (exts w (bfs r w m).2), _) = _
        rw [this]
        exact Prod.ext rfl (by show List.drop _ (dd r _ (exts w [])) = []; simp [exts, dd_nil])
end
end K1
set_option Elab.async false
set_option linter.all false
set_option maxRecDepth 100000
/-! walks.next_layer -/
namespace L2
open PySem PySem.Spec PyProof.Rows
/-- zip of two tuples, walked -/
theorem walk_zipT {K : PySem.W.Frag} {a b : Addr} {xs ys : List V} {n : Nat} (hn : n = min xs.length ys.length) : Walk (RZ.ItzT K a b) n (fun H => SqT K H a xs ∧ SqT K H b ys) (YPair (fun i => xs[i]?) (fun i => ys[i]?)) := by
  refine ⟨fun i H hi h => ?_, fun H h => ⟨xs, ys, h.1, h.2, by omega⟩, fun i H x H' hi h y => ?_⟩
  · have h1 : i < xs.length := by omega
    have h2 : i < ys.length := by omega
    exact ⟨xs, ys, _, _, h.1, h.2, List.getElem?_eq_getElem h1, List.getElem?_eq_getElem h2⟩
  · obtain ⟨T, x', y', e, hT, e2, f1, f2⟩ := y
    exact ⟨T, x', y', e, hT, e2, f1 xs h.1, f2 ys h.2⟩
theorem valV_mem {κ : Type} [DecidableEq κ] {k : κ} {v : V} : ∀ {kvs : List (κ × V)}, (kvs.map (·.1)).Nodup → (k, v) ∈ kvs → valV kvs k = some v
  | [], _, h => nomatch h
  | p :: q, hn, h => by
    rcases List.mem_cons.mp h with e | h
    · rw [← e]; exact valV_pos rfl
    · rw [List.map_cons, List.nodup_cons] at hn
      rw [valV_neg fun e => hn.1 (by rw [e]; exact List.mem_map_of_mem (f := (·.1)) h)]
      exact valV_mem hn.2 h
theorem valV_no {κ : Type} [DecidableEq κ] {k : κ} : ∀ {kvs : List (κ × V)}, k ∉ kvs.map (·.1) → valV kvs k = none
  | [], _ => rfl
  | p :: q, h => by
    rw [List.map_cons, List.mem_cons] at h
    rw [valV_neg fun e => h (.inl e.symm)]
    exact valV_no fun z => h (.inr z)
end L2
namespace K1
open PySem L2 LamX
/-! tuples of states, tables -/
def stepT (ts : List (List (List Int))) (k : Nat) (vs : List Int) : List Int := List.zipWith (fun t v => (t.getD v.toNat []).getD k 0) ts vs
def runT (ts : List (List (List Int))) (s0 : List Int) (u : List Nat) : List Int := u.foldl (fun s k => stepT ts k s) s0
theorem runT_snoc (ts : List (List (List Int))) (s0 : List Int) (u : List Nat) (k : Nat) : runT ts s0 (u ++ [k]) = stepT ts k (runT ts s0 u) := by simp [runT]
theorem runT_c (ts : List (List (List Int))) (s0 : List Int) : ∀ u v k, runT ts s0 u = runT ts s0 v → runT ts s0 (u ++ [k]) = runT ts s0 (v ++ [k]) := fun u v k e => by rw [runT_snoc, runT_snoc, e]
def TabOk (w : Nat) (t : List (List Int)) : Prop := ∀ row ∈ t, row.length = w ∧ ∀ x ∈ row, 0 ≤ x ∧ x < (t.length : Int)
def StOk (ts : List (List (List Int))) (vs : List Int) : Prop := vs.length = ts.length ∧ ∀ (i : Nat) (t : List (List Int)) (v : Int), ts[i]? = some t → vs[i]? = some v → 0 ≤ v ∧ v < (t.length : Int)
theorem StOk.step {w : Nat} {ts : List (List (List Int))} {vs : List Int} {k : Nat} (h : StOk ts vs) (ht : ∀ t ∈ ts, TabOk w t) (hk : k < w) : StOk ts (stepT ts k vs) := by
  refine ⟨by simp [stepT, h.1], fun i t v e1 e2 => ?_⟩
  rw [stepT, List.getElem?_zipWith] at e2
  rw [e1] at e2
  cases ev : vs[i]? with
  | none => rw [ev] at e2; cases e2
  | some v0 =>
    rw [ev] at e2
    cases e2
    obtain ⟨h0, h1⟩ := h.2 i t v0 e1 ev
    have hrow := getD_get ([] : List Int) (xs := t) (n := v0.toNat) (by omega)
    obtain ⟨hl, hx⟩ := ht t (List.mem_of_getElem? e1) _ (List.mem_of_getElem? hrow)
    exact hx _ (List.mem_of_getElem? (getD_get (0 : Int) (by rw [hl]; exact hk)))
theorem StOk.run {w : Nat} {ts : List (List (List Int))} {s0 : List Int} (h : StOk ts s0) (ht : ∀ t ∈ ts, TabOk w t) : ∀ (u : List Nat) , (∀ k ∈ u, k < w) → StOk ts (runT ts s0 u) := fun u => by
  show _ → StOk ts (u.foldl (fun s k => stepT ts k s) s0)
  induction u generalizing s0 with
  | nil => exact fun _ => h
  | cons k u ih => exact fun hu => ih (h.step ht (hu k (List.mem_cons_self ..))) fun j hj => hu j (List.mem_cons_of_mem _ hj)
/-! dicts of what is met -/
def keyI (s : List Int) : List Key := s.map Sum.inl
theorem keyI_kV (s : List Int) : (keyI s).map kV = s.map V.int := by simp [keyI, kV]
theorem keyI_inj {s t : List Int} (h : keyI s = keyI t) : s = t := by
  induction s generalizing t with
  | nil => cases t with
    | nil => rfl
    | cons a b => cases h
  | cons x q ih => cases t with
    | nil => cases h
    | cons a b =>
      simp only [keyI, List.map_cons, List.cons.injEq, Sum.inl.injEq] at h
      rw [h.1, ih h.2]
def KeepT (H H' : Hp) : Prop := ∀ a xs, H a = some (.tup xs) → H' a = some (.tup xs)
theorem KeepT.of {H H' : Hp} (s : Same H H') : KeepT H H' := fun a xs e => s _ _ e
theorem KeepT.trans {H H1 H2 : Hp} (a : KeepT H H1) (b : KeepT H1 H2) : KeepT H H2 := fun c xs e => b _ _ (a _ _ e)
theorem KeepT.updT {H : Hp} {a : Addr} {kvs : List (List Key × V)} {o : HO} (h : H a = some (.dT kvs)) : KeepT H (upd H a o) := fun b xs e => by rw [upd_ne (ne_of e h (by intro z; cases z))]; exact e
theorem KeepT.updF {H : Hp} {a : Addr} {kvs : List (List Key × V)} {od : Obj} {o : HO} (h : H a = some (.frz od (.dT kvs))) : KeepT H (upd H a o) := fun b xs e => by rw [upd_ne (ne_of e h (by intro z; cases z))]; exact e
section
variable (r : List Nat → List Int) (ws : List Str)
/-- how a word's last step is told -/
def EVal (H : Hp) (v : V) (u : List Nat) : Prop := (u = [] ∧ v = .non) ∨ ∃ (u' : List Nat) (k : Nat) (t q : Addr), u = u' ++ [k] ∧ v = .ref t ∧ H t = some (.tup [.ref q, .str (ws.getD k "")]) ∧ H q = some (.tup ((r u').map V.int))
def Ents (H : Hp) (kvs : List (List Key × V)) (M : List (List Nat)) : Prop := kvs.length = M.length ∧ ∀ (i : Nat) (k : List Key) (v : V) (u : List Nat), kvs[i]? = some (k, v) → M[i]? = some u → k = keyI (r u) ∧ EVal r ws H v u
def DAt (H : Hp) (d : Addr) (M : List (List Nat)) : Prop := ∃ kvs, H d = some (.dT kvs) ∧ Ents r ws H kvs M
variable {r ws}
theorem EVal.keep {H H' : Hp} {v : V} {u : List Nat} (h : EVal r ws H v u) (k : KeepT H H') : EVal r ws H' v u := by
  rcases h with h | ⟨u', j, t, q, h1, h2, h3, h4⟩
  · exact .inl h
  · exact .inr ⟨u', j, t, q, h1, h2, k _ _ h3, k _ _ h4⟩
theorem Ents.keep {H H' : Hp} {kvs : List (List Key × V)} {M : List (List Nat)} (h : Ents r ws H kvs M) (k : KeepT H H') : Ents r ws H' kvs M := ⟨h.1, fun i j v u e1 e2 => ⟨(h.2 i j v u e1 e2).1, (h.2 i j v u e1 e2).2.keep k⟩⟩
theorem Ents.keys {H : Hp} : ∀ {kvs : List (List Key × V)} {M : List (List Nat)}, Ents r ws H kvs M → kvs.map (·.1) = M.map fun u => keyI (r u)
  | [], [], _ => rfl
  | [], _ :: _, h => by simp [Ents] at h
  | _ :: _, [], h => by simp [Ents] at h
  | (k, v) :: kvs, u :: M, h => by
    rw [List.map_cons, List.map_cons, (h.2 0 k v u rfl rfl).1, Ents.keys (kvs := kvs) (M := M) ⟨by simpa using h.1, fun i k v u e1 e2 => h.2 (i + 1) k v u e1 e2⟩]
theorem Ents.nodup {H : Hp} {kvs : List (List Key × V)} {M : List (List Nat)} (h : Ents r ws H kvs M) (hn : (M.map r).Nodup) : (kvs.map (·.1)).Nodup := by
  rw [h.keys]
  have : (M.map fun u => keyI (r u)) = (M.map r).map keyI := by rw [List.map_map]; rfl
  rw [this]
  exact hn.map keyI fun a b e hab => e (keyI_inj hab)
theorem Ents.no {H : Hp} {kvs : List (List Key × V)} {M : List (List Nat)} {s : List Int} (h : Ents r ws H kvs M) (hs : s ∉ M.map r) : valV kvs (keyI s) = none := by
  refine valV_no fun z => hs ?_
  rw [h.keys] at z
  obtain ⟨u, hu, e⟩ := List.mem_map.mp z
  rw [← keyI_inj e]
  exact List.mem_map_of_mem hu
theorem Ents.at {H : Hp} {kvs : List (List Key × V)} {M : List (List Nat)} (h : Ents r ws H kvs M) (hn : (M.map r).Nodup) {u : List Nat} (hu : u ∈ M) : ∃ v, valV kvs (keyI (r u)) = some v ∧ EVal r ws H v u := by
  obtain ⟨i, hi⟩ := List.getElem?_of_mem hu
  have hl : i < kvs.length := by rw [h.1]; exact (List.getElem?_eq_some_iff.mp hi).1
  obtain ⟨⟨k, v⟩, hk⟩ : ∃ p, kvs[i]? = some p := ⟨_, List.getElem?_eq_getElem hl⟩
  obtain ⟨e, ev⟩ := h.2 i k v u hk hi
  exact ⟨v, by rw [← e]; exact valV_mem (h.nodup hn) (List.mem_of_getElem? hk), ev⟩
theorem Ents.isSome {H : Hp} {kvs : List (List Key × V)} {M : List (List Nat)} (h : Ents r ws H kvs M) (hn : (M.map r).Nodup) (s : List Int) : (valV kvs (keyI s)).isSome = decide (s ∈ M.map r) := by
  by_cases hs : s ∈ M.map r
  · rw [decide_eq_true hs]
    obtain ⟨u, hu, rfl⟩ := List.mem_map.mp hs
    obtain ⟨v, e, _⟩ := h.at hn hu
    rw [e]; rfl
  · rw [decide_eq_false hs, h.no hs]; rfl
theorem Ents.snoc {H : Hp} {kvs : List (List Key × V)} {M : List (List Nat)} {u : List Nat} {v : V} (h : Ents r ws H kvs M) (hv : EVal r ws H v u) : Ents r ws H (kvs ++ [(keyI (r u), v)]) (M ++ [u]) := by
  refine ⟨by simp [h.1], fun i k v' u' e1 e2 => ?_⟩
  by_cases hi : i < kvs.length
  · rw [List.getElem?_append_left hi] at e1
    rw [List.getElem?_append_left (by rw [← h.1]; exact hi)] at e2
    exact h.2 i k v' u' e1 e2
  · rw [List.getElem?_append_right (by omega)] at e1
    rw [List.getElem?_append_right (by rw [← h.1]; omega), ← h.1] at e2
    cases hj : i - kvs.length with
    | zero =>
      rw [hj] at e1 e2
      simp at e1 e2
      obtain ⟨rfl, rfl⟩ := e1
      subst e2
      exact ⟨rfl, hv⟩
    | succ j => rw [hj] at e1; simp at e1
theorem DAt.same {H H' : Hp} {d : Addr} {M : List (List Nat)} (h : DAt r ws H d M) (s : Same H H') : DAt r ws H' d M := by
  obtain ⟨kvs, h1, h2⟩ := h
  exact ⟨kvs, s _ _ h1, h2.keep (.of s)⟩
end
theorem dd_len {r : List Nat → List Int} : ∀ (l acc : List (List Nat)), (dd r acc l).length ≤ acc.length + l.length
  | [], acc => by simp [dd_nil]
  | a :: l, acc => by
    rw [dd_cons]
    refine Nat.le_trans (dd_len l _) ?_
    by_cases e : r a ∈ acc.map r
    · rw [if_pos e, List.length_cons]; omega
    · rw [if_neg e, List.length_append]; simp only [List.length_cons, List.length_nil]; omega
theorem exts_len (w : Nat) : ∀ B : List (List Nat), (exts w B).length = w * B.length
  | [] => by simp [exts]
  | a :: B => by rw [exts_cons, List.length_append, exts_len w B, ext, List.length_map, List.length_range, List.length_cons, Nat.mul_succ]; omega
theorem ext_take {w j : Nat} (u : List Nat) (hj : j < w) : (ext w u).take (j + 1) = (ext w u).take j ++ [u ++ [j]] := by
  rw [List.take_add_one]
  congr 1
  rw [ext, List.getElem?_map, List.getElem?_range hj]; rfl
theorem ext_all {w : Nat} (u : List Nat) : (ext w u).take w = ext w u := List.take_of_length_le (by simp [ext])
/-- tables: tuples of tuples of rows -/
def TabsAt (K : PySem.W.Frag) (H : Hp) (tt : Addr) (ts : List (List (List Int))) : Prop := ∃ as : List Addr, SqT K H tt (as.map V.ref) ∧ as.length = ts.length ∧ ∀ (i : Nat) (a : Addr) (t : List (List Int)), as[i]? = some a → ts[i]? = some t → ∃ bs : List Addr, H a = some (.tup (bs.map V.ref)) ∧ RowsT H bs t
theorem TabsAt.keep {K : PySem.W.Frag} {H H' : Hp} {tt : Addr} {ts : List (List (List Int))} (h : TabsAt K H tt ts) (k : KeepT H H') (kt : ∀ a xs, SqT K H a xs → SqT K H' a xs) : TabsAt K H' tt ts := by
  obtain ⟨as, h1, h2, h3⟩ := h
  refine ⟨as, kt _ _ h1, h2, fun i a t e1 e2 => ?_⟩
  obtain ⟨bs, g1, g2⟩ := h3 i a t e1 e2
  exact ⟨bs, k _ _ g1, g2.1, fun j b q f1 f2 => k _ _ (g2.2 j b q f1 f2)⟩
abbrev sNL : Stmt := top 17
def spNL (K : PySem.W.Frag) : Sp := fun vs H Q _ => ∃ (de tt la me : Addr) (ws : List Str) (ts : List (List (List Int))) (s0 : List Int) (M B : List (List Nat)), vs = [.ref de, .ref tt, .ref la, .ref me] ∧ SqT K H de (ws.map V.str) ∧ TabsAt K H tt ts ∧
  (∀ t ∈ ts, TabOk ws.length t) ∧ StOk ts s0 ∧ DAt (runT ts s0) ws H la B ∧ DAt (runT ts s0) ws H me M ∧ la ≠ me ∧ (M.map (runT ts s0)).Nodup ∧ (∀ u ∈ B, ∀ k ∈ u, k < ws.length) ∧ ws.length * B.length ≤ 100000 ∧ ts.length ≤ 900 ∧
  ∀ (p : Addr) (N : List (List Nat)) (H' : Hp), H p = none → Same H H' → dd (runT ts s0) M (exts ws.length B) = M ++ N → DAt (runT ts s0) ws H' p N → Q (.ref p) H'
end K1
set_option Elab.async false
set_option linter.all false
set_option maxRecDepth 100000
/-! walks.next_layer keeps its promise -/
namespace K1
open PySem L2 LamX
section
variable {P : Program} {w : World} {K : PySem.W.Frag} {mg : Str → Option Value} {base : Heap}
abbrev pNL : List Str := ["deeds", "tables", "layer", "met"]
abbrev nNL : List Str := ["deeds", "tables", "layer", "met", "steps", "states", "index", "deed", "led", "table", "state"]
theorem scNL : FnScope nNL pNL (defScope sNL) := ⟨rfl, rfl, rfl, by decide +kernel, rfl, by decide +kernel, by decide +kernel⟩
theorem ok_nl {f : Addr} {fd : FuncData} (D : Df K mg "next_layer" sNL pNL f fd) (T : Bt2 mg) (hz : mg "zip" = none) : FnOk P w K mg base CX0 1 f fd pNL (spNL K) := by
  refine D.F.ok scNL (fun vs H Q E h => ?_) (fun cdv A outer s H vs Q E hr h => ?_)
  · obtain ⟨de, tt, la, me, ws, ts, s0, M, B, rfl, _⟩ := h
    rfl
  · obtain ⟨de, tt, la, me, ws, ts, s0, M, B, rfl, hde, htt, htab, hs0, hla, hme, nlm, hnd, hB, hsz, h900, k⟩ := h
    have hu := hu_of hr
    refine ⟨_, pss_cons (ps_set (i := 4) scNL.nd rfl (Or.inl rfl) pe_dnewT)
      (pss_cons (ps_lock (ps_for PassesOwn.never rfl (pi_keys (pv 2)) (pg_name (i := 5) scNL.nd rfl (Or.inl rfl))
        (pss_one (ps_for PassesOwn.never rfl (pi_enumT (by rfl) T.enumerate (pa_cons (pv 0) pa_nil)) (pg_tup (by rfl) (pgs_cons (pg_name (i := 6) scNL.nd rfl (Or.inr rfl)) (pgs_cons (pg_name (i := 7) scNL.nd rfl (Or.inl rfl)) pgs_nil)))
          (pss_cons (ps_set (i := 8) scNL.nd rfl (Or.inl rfl) (pe_callTy (r := rTu K) call_tuple_of (by rfl) T.tuple PyProof.Rows.boot_tuple (pa_cons (pe_lc (own := [("table", 9), ("state", 10)]) (g := gTup K 2 (gCons (gName 9) (gCons (gName 10) gNil))) (by rfl) scNL.nd (RZ.pi_zipA (by rfl) hz (pa_cons (pv 1) (pa_cons (pv 5) pa_nil)))
              (blkOk_by (own := [("table", 9), ("state", 10)]) (N := nNL) (sc := defScope sNL) (by decide +kernel)) (fun _ _ _ _ _ => pg_tup (by rfl) (pgs_cons (pg_name (i := 9) scNL.nd rfl (Or.inl rfl)) (pgs_cons (pg_name (i := 10) scNL.nd rfl (Or.inl rfl)) pgs_nil))) (fun _ _ _ _ _ => pts_nil)
              (fun _ _ _ _ _ => pe_ix (r := rIxT K) ix_tup (pe_ix (r := rIxT K) ix_tup (pv 9) (pv 10) (fun _ _ => rfl)) (pv 6) (fun _ _ => rfl))) pa_nil)))
          (pss_one (ps_if (PW.pt (pw_and (pt_cmp (pc_dnotin hu (pv 8) (pv 3))) (pw_and1 (pt_cmp (pc_dnotin hu (pv 8) (pv 4))))))
            (pss_one (ps_dput hu (pv 4) (pv 8) (pe_tup (pa_cons (pv 5) (pa_cons (pv 7) pa_nil))) rfl)) pss_nil)))))))
      (pss_one (ps_ret (pv 4)))), ?_⟩
    intro p hp
    obtain ⟨kB, hlaB, hEB⟩ := id hla
    obtain ⟨kM, hmeM, hEM⟩ := id hme
    have s1 := same_upd (o := .dT []) hp
    have ep1 : upd H p (.dT []) p = some (.dT []) := upd_same
    have npl : p ≠ la := (ne_of_none hlaB hp).symm
    have npm : p ≠ me := (ne_of_none hmeM hp).symm
    generalize hR : runT ts s0 = r at *
    generalize upd H p (.dT []) = H1 at s1 ep1 ⊢
    have hla1 := s1 _ _ hlaB
    have hme1 := s1 _ _ hmeM
    have tup_kx : ∀ {G : Hp}, (∀ b o, b ≠ la → b ≠ p → H1 b = some o → G b = some o) → KeepT H1 G := fun kx a xs e => kx _ _ (ne_of e hla1 (by intro z; cases z)) (ne_of e ep1 (by intro z; cases z)) e
    have sqt_kx : ∀ {G : Hp} {a : Addr} {xs : List V}, (∀ b o, b ≠ la → b ≠ p → H1 b = some o → G b = some o) → SqT K H1 a xs → SqT K G a xs := fun {G a xs} kx h => by
      rcases h with (h | ⟨o, h⟩) | h
      · exact .inl (.inl (tup_kx kx _ _ h))
      · exact .inl (.inr ⟨o, kx _ _ (ne_of h hla1 (by intro z; cases z)) (ne_of h ep1 (by intro z; cases z)) h⟩)
      · exact .inr h
    have hde1 := hde.ext s1
    have htt1 : TabsAt K H1 tt ts := htt.keep (.of s1) fun a xs h => h.ext s1
    have hEM1 := hEM.keep (.of s1)
    have hEB1 := hEB.keep (.of s1)
    have lw : ((ws.map V.str).length) = ws.length := List.length_map _
    refine ⟨la, .dT kB, hla1, trivial, fun od => ?_⟩
    refine ⟨_, rfl, la, od, rfl, .inr ⟨kB, upd_same, for_it (walk_keysT (d := la) (o := od) (kvs := kB)) (fun i σ H' => (∀ b o, b ≠ la → b ≠ p → H1 b = some o → H' b = some o) ∧ H' la = some (.frz od (.dT kB)) ∧
      (∃ kN N, H' p = some (.dT kN) ∧ Ents r ws H' kN N ∧ dd r M (exts ws.length (B.take i)) = M ++ N) ∧ ∃ v5 v6 v7 v8, σ = [some (.ref de), some (.ref tt), some (.ref la), some (.ref me), some (.ref p), v5, v6, v7, v8, none, none]) ?_ (fun i σ H' _ q => q.2.1) ?_ ?_⟩⟩
    · refine ⟨fun b o n1 n2 e => by rw [upd_ne n1]; exact e, upd_same, ⟨[], [], by rw [upd_ne npl]; exact ep1, ⟨rfl, fun i k v u e => by simp at e⟩, by simp [exts, dd_nil]⟩, none, none, none, none, rfl⟩
    · rintro i y σ H2 H2' hi ⟨kx, hla2, ⟨kN, N, hpN, hEN, hdd⟩, v5, v6, v7, v8, rfl⟩ ⟨rfl, key, v, q, hkv, rfl, hq⟩
      have hiB : i < B.length := by rw [← hEB.1]; exact hi
      have eu : B[i]? = some B[i] := List.getElem?_eq_getElem hiB
      have hub := hB _ (List.getElem_mem hiB)
      have etk : B.take (i + 1) = B.take i ++ [B[i]] := by rw [List.take_add_one, eu]; rfl
      generalize B[i] = u at eu hub etk
      obtain ⟨rfl, hev⟩ := hEB1.2 i _ _ _ hkv eu
      rw [keyI_kV] at hq
      have hst : StOk ts (r u) := by rw [← hR]; exact hs0.run htab u hub
      have hgo : ∀ j, r (u ++ [j]) = stepT ts j (r u) := fun j => by rw [← hR]; exact runT_snoc ts s0 u j
      -- the deeds
      refine ⟨_, rfl, de, _, rfl, sqt_kx kx hde1, ?_⟩
      refine for_it (walk_enumT (K := K) (a := de) (xs := ws.map V.str)) (fun j σ H' => (∀ b o, b ≠ la → b ≠ p → H1 b = some o → H' b = some o) ∧ H' la = some (.frz od (.dT kB)) ∧ H' q = some (.tup ((r u).map V.int)) ∧
        (∃ kN N, H' p = some (.dT kN) ∧ Ents r ws H' kN N ∧ dd r M (exts ws.length (B.take i) ++ (ext ws.length u).take j) = M ++ N) ∧ ∃ v6 v7 v8, σ = [some (.ref de), some (.ref tt), some (.ref la), some (.ref me), some (.ref p), some (.ref q), v6, v7, v8, none, none]) ?_ (fun j σ H' _ q => sqt_kx q.1 hde1) ?_ ?_
      · exact ⟨kx, hla2, hq, ⟨kN, N, hpN, hEN, by rw [List.take_zero, List.append_nil]; exact hdd⟩, v6, v7, v8, rfl⟩
      · rintro j y σ H3 H4 hj ⟨kx3, hla3, hq3, ⟨kN3, N3, hpN3, hEN3, hdd3⟩, v6', v7', v8', rfl⟩ ⟨t, x1, x2, rfl, ht, rfl, f1, f2⟩
        cases f1
        replace f2 : (ws.map V.str)[j]? = some x2 := f2
        rw [List.getElem?_map] at f2
        obtain ⟨z, ez, rfl⟩ := Option.map_eq_some_iff.mp f2
        have hjw : j < ws.length := by rw [List.length_map] at hj; exact hj
        have ezd : z = ws.getD j "" := by rw [List.getD_eq_getElem?_getD, ez]; rfl
        have s4 := same_upd (o := .tup [V.int (j : Nat), V.str z]) ht
        refine ⟨t, _, rfl, SqT.of upd_same, rfl, _, _, rfl, _, _, rfl, rfl, ?_⟩
        have kx4 : ∀ b o, b ≠ la → b ≠ p → H1 b = some o → upd H3 t (.tup [V.int (j : Nat), V.str z]) b = some o := fun b o n1 n2 e => s4 _ _ (kx3 b o n1 n2 e)
        have hla4 := s4 _ _ hla3
        have hq4 := s4 _ _ hq3
        have hpN4 := s4 _ _ hpN3
        have hEN4 := hEN3.keep (.of s4)
        generalize upd H3 t (.tup [V.int (j : Nat), V.str z]) = H4 at s4 kx4 hla4 hq4 hpN4 hEN4 ⊢
        obtain ⟨as, hta, hal, hab⟩ := htt1
        have hta4 := sqt_kx kx4 hta
        -- led
        refine ⟨_, rfl, _, rfl, tt, q, _, _, rfl, .inr ⟨hta4, SqT.of hq4, fun D hD => ?_⟩⟩
        have hln : ts.length = min (as.map V.ref).length ((r u).map V.int).length := by rw [List.length_map, List.length_map, hal, hst.1]; simp
        refine lc_it (walk_zipT hln) (fun m H' => Same H4 H' ∧ H' D = some (.lst (((stepT ts j (r u)).take m).map V.int))) ?_ ?_ ?_ ?_
        · exact ⟨same_upd hD, upd_same⟩
        · exact fun m H' _ pp => ⟨hta4.ext pp.1, (SqT.of hq4).ext pp.1⟩
        · rintro m y H5 H6 hm ⟨s5, hD5⟩ ⟨t5, x1, x2, rfl, ht5, rfl, e1, e2⟩
          replace e1 : (as.map V.ref)[m]? = some x1 := e1
          replace e2 : ((r u).map V.int)[m]? = some x2 := e2
          rw [List.getElem?_map] at e1 e2
          obtain ⟨a, ea, rfl⟩ := Option.map_eq_some_iff.mp e1
          obtain ⟨vi, evi, rfl⟩ := Option.map_eq_some_iff.mp e2
          have et : ts[m]? = some ts[m] := List.getElem?_eq_getElem hm
          have hT := htab _ (List.getElem_mem hm)
          generalize ts[m] = tb at et hT
          obtain ⟨bs, ha1, hrow⟩ := hab m a tb ea et
          obtain ⟨v0, v1⟩ := hst.2 m tb vi et evi
          have s56 := same_upd (o := .tup [V.ref a, V.int vi]) ht5
          have s46 := s5.trans s56
          have kx6 : KeepT H1 (upd H5 t5 (.tup [V.ref a, V.int vi])) := (tup_kx kx4).trans (.of s46)
          have hvl : vi.toNat < tb.length := by omega
          have erow := getD_get ([] : List Int) hvl
          obtain ⟨hrl, _⟩ := hT _ (List.mem_of_getElem? erow)
          have hbl : bs.length = tb.length := hrow.1
          obtain ⟨ab, eab, atb⟩ := at_ref (as := bs) (k := vi) v0 (by omega)
          have hab6 := kx6 _ _ (hrow.2 _ _ _ eab erow)
          have el : (stepT ts j (r u))[m]? = some ((tb.getD vi.toNat []).getD j 0) := by
            rw [stepT, List.getElem?_zipWith, et, evi]
          refine ⟨t5, _, rfl, SqT.of upd_same, rfl, _, _, rfl, _, _, rfl, rfl, rfl, _, rfl, _, rfl, a, _, _, _, rfl, rfl, SqT.of (kx6 _ _ ha1), atb, _, rfl, ab, _, _, _, rfl, rfl, SqT.of hab6, at_int (k := (j : Nat)) (by omega) (by omega), ?_⟩
          refine ⟨_, s56 _ _ hD5, ?_, ?_, ?_⟩
          · rw [List.length_map, List.length_take]
            exact small1000 (by omega)
          · exact fun c o e => by rw [upd_ne (ne_of_none e hD)]; exact s56 _ _ (s5 c o e)
          · rw [upd_same, List.take_add_one, el, List.map_append]; rfl
        · rintro H5 ⟨s5, hD5⟩
          have hsl : (stepT ts j (r u)).length = ts.length := by simp [stepT, hst.1]
          rw [List.take_of_length_le (by omega)] at hD5
          refine ⟨D, _, rfl, .inl ⟨SqL.of hD5, fun p8 hp8 => ?_⟩⟩
          have e8 : upd H5 p8 (.tup ((stepT ts j (r u)).map V.int)) p8 = some (.tup ((keyI (stepT ts j (r u))).map kV)) := by rw [keyI_kV]; exact upd_same
          have s8 := s5.trans (same_upd (o := .tup ((stepT ts j (r u)).map V.int)) hp8)
          generalize upd H5 p8 (.tup ((stepT ts j (r u)).map V.int)) = H8 at e8 s8 ⊢
          have kx8 : ∀ b o, b ≠ la → b ≠ p → H1 b = some o → H8 b = some o := fun b o n1 n2 e => s8 _ _ (kx4 b o n1 n2 e)
          have hme8 := kx8 _ _ nlm.symm npm.symm hme1
          have hla8 := s8 _ _ hla4
          have hq8 := s8 _ _ hq4
          have hpN8 := s8 _ _ hpN4
          have hEN8 := hEN4.keep (.of s8)
          have hnd3 : ((M ++ N3).map r).Nodup := by rw [← hdd3]; exact dd_nodup hnd
          have hndN : (N3.map r).Nodup := by rw [List.map_append] at hnd3; exact (List.nodup_append.mp hnd3).2.1
          have edd : dd r M (exts ws.length (B.take i) ++ (ext ws.length u).take (j + 1)) = dd r (M ++ N3) [u ++ [j]] := by
            rw [ext_take u hjw, ← List.append_assoc, dd_app, hdd3]
          have old : stepT ts j (r u) ∈ (M ++ N3).map r → dd r M (exts ws.length (B.take i) ++ (ext ws.length u).take (j + 1)) = M ++ N3 := fun hm => by
            rw [edd]; exact dd_noop fun v hv => by rw [List.mem_singleton.mp hv, hgo]; exact hm
          refine ⟨_, rfl, _, rfl, me, _, rfl, DGet.t hme8 e8, _, rfl, ?_⟩
          rw [hEM1.isSome hnd]
          refine ite2 (fun hno => ?_) (fun hyes => ?_)
          · have hnM : stepT ts j (r u) ∉ M.map r := by simpa using hno
            refine ⟨_, rfl, _, rfl, p, _, rfl, DGet.t hpN8 e8, _, rfl, ?_⟩
            rw [hEN8.isSome hndN]
            refine ite2 (fun hno2 => ?_) (fun hyes => ?_)
            · have hnN : stepT ts j (r u) ∉ N3.map r := by simpa using hno2
              refine ⟨_, rfl, _, rfl, Nat.le_of_ble_eq_true rfl, fun tv htv => ⟨_, rfl, _, rfl, p, _, rfl, DPut.t (same_upd htv _ _ hpN8) (same_upd htv _ _ e8) ?_, ?_⟩⟩
              · have h1 := dd_len (r := r) (exts ws.length (B.take i) ++ (ext ws.length u).take j) M
                rw [hdd3, List.length_append, List.length_append, exts_len, List.length_take, List.length_take] at h1
                have h2 : ws.length * min i B.length ≤ ws.length * B.length := Nat.mul_le_mul_left _ (Nat.min_le_right _ _)
                have h3 := hEN3.1
                have h4 : ws.length ≤ ws.length * B.length := Nat.le_mul_of_pos_right _ (by omega)
                have h5 : min j (ext ws.length u).length ≤ j := Nat.min_le_left _ _
                rw [sizeLine_eq]; omega
              have s9 := same_upd (o := .tup [V.ref q, V.str z]) htv
              have e9 : upd H8 tv (.tup [V.ref q, V.str z]) tv = some (.tup [V.ref q, V.str z]) := upd_same
              have nev : valV kN3 (keyI (stepT ts j (r u))) = none := hEN8.no hnN
              rw [putK_new _ nev]
              have hpN9 := s9 _ _ hpN8
              have hEN9 := hEN8.keep (.of s9)
              have hq9 := s9 _ _ hq8
              have hla9 := s9 _ _ hla8
              generalize upd H8 tv (.tup [V.ref q, V.str z]) = H9 at s9 e9 hpN9 hEN9 hq9 hla9 ⊢
              have hEN10 := (hEN9.snoc (u := u ++ [j]) (v := .ref tv) (.inr ⟨u, j, tv, q, rfl, rfl, by rw [← ezd]; exact e9, hq9⟩)).keep (KeepT.updT (o := .dT (kN3 ++ [(keyI (r (u ++ [j])), V.ref tv)])) hpN9)
              rw [hgo] at hEN10
              refine ⟨fun b o n1 n2 e => by rw [upd_ne n2]; exact s9 _ _ (kx8 b o n1 n2 e), by rw [upd_ne npl.symm]; exact hla9, KeepT.updT hpN9 _ _ hq9, ⟨_, N3 ++ [u ++ [j]], upd_same, hEN10, ?_⟩, _, _, _, rfl⟩
              rw [edd, dd_cons, if_neg, dd_nil, List.append_assoc]
              rw [hgo, List.map_append, List.mem_append]
              exact fun z => z.elim hnM hnN
            · have hN : stepT ts j (r u) ∈ N3.map r := by simpa using hyes
              exact ⟨kx8, hla8, hq8, ⟨kN3, N3, hpN8, hEN8, old (by rw [List.map_append]; exact List.mem_append_right _ hN)⟩, _, _, _, rfl⟩
          · have hM : stepT ts j (r u) ∈ M.map r := by simpa using hyes
            exact ⟨kx8, hla8, hq8, ⟨kN3, N3, hpN8, hEN8, old (by rw [List.map_append]; exact List.mem_append_left _ hM)⟩, _, _, _, rfl⟩
      · rintro σ H3 ⟨kx3, hla3, hq3, ⟨kN3, N3, hpN3, hEN3, hdd3⟩, v6', v7', v8', rfl⟩
        rw [lw, ext_all] at hdd3
        exact ⟨kx3, hla3, ⟨kN3, N3, hpN3, hEN3, by rw [etk, exts_app]; simpa [exts] using hdd3⟩, _, v6', v7', v8', rfl⟩
    · rintro σ H2 ⟨kx, hla2, ⟨kN, N, hpN, hEN, hdd⟩, v5, v6, v7, v8, rfl⟩
      rw [hEB.1, List.take_length] at hdd
      refine ⟨hla2, _, rfl, k p N _ hp (fun b o e => ?_) hdd ⟨kN, by rw [upd_ne npl]; exact hpN, hEN.keep (KeepT.updF hla2)⟩⟩
      by_cases hb : b = la
      · subst hb
        rw [hlaB] at e; cases e
        exact upd_same
      · rw [upd_ne hb]
        exact kx b o hb (ne_of_none e hp) (s1 _ _ e)
end
end K1
set_option Elab.async false
set_option linter.all false
set_option maxRecDepth 100000
/-! walks.row_to -/
namespace L2
open PySem PySem.Spec PyProof.Rows
/-- a while by a number that the invariant tells -/
theorem while_ix {c : TT} {tb : TS} {D : Ends} {σ : St} {H : Hp} (Pv : Nat → St → Hp → Prop) (m0 : Nat) (h0 : Pv m0 σ H)
    (hs : ∀ m σ H, Pv m σ H → c σ H fun b H1 => if b = true then tb { D with nx := fun σ' H' => ∃ m', m' < m ∧ Pv m' σ' H', ct := fun σ' H' => ∃ m', m' < m ∧ Pv m' σ' H', bk := D.nx } σ H1 else D.nx σ H1)
    (mono : ∀ σ H Q Q', (∀ b H1, Q b H1 → Q' b H1) → c σ H Q → c σ H Q') : tWhile c tb D σ H := by
  refine ⟨Pv, ⟨_, h0⟩, fun m σ H p => ?_⟩
  refine mono σ H _ _ (fun b H1 q => ?_) (hs m σ H p)
  cases b with
  | true => exact ⟨_, fun σ' H' z => z, q⟩
  | false => exact q
end L2
namespace K1
open PySem L2 LamX
abbrev sRT : Stmt := top 19
def names (ws : List Str) (u : List Nat) : List V := u.map fun k => V.str (ws.getD k "")
def spRT (K : PySem.W.Frag) : Sp := fun vs H Q _ => ∃ (fo q : Addr) (r : List Nat → List Int) (ws : List Str) (M : List (List Nat)) (u : List Nat), vs = [.ref fo, .ref q] ∧ DAt r ws H fo M ∧ (M.map r).Nodup ∧ (∀ u k, u ++ [k] ∈ M → u ∈ M) ∧ u ∈ M ∧ H q = some (.tup ((r u).map V.int)) ∧ u.length ≤ 100000 ∧
  ∀ p H', H p = none → Same H H' → H' p = some (.tup (names ws u)) → Q (.ref p) H'
section
variable {P : Program} {w : World} {K : PySem.W.Frag} {mg : Str → Option Value} {base : Heap}
abbrev pRT : List Str := ["found", "states"]
abbrev nRT : List Str := ["found", "states", "deeds", "step"]
theorem scRT : FnScope nRT pRT (defScope sRT) := ⟨rfl, rfl, rfl, by decide +kernel, rfl, by decide +kernel, by decide +kernel⟩
theorem ok_rt {f : Addr} {fd : FuncData} (D : Df K mg "row_to" sRT pRT f fd) (T : Bt2 mg) : FnOk P w K mg base CX0 1 f fd pRT (spRT K) := by
  refine D.F.ok scRT (fun vs H Q E h => ?_) (fun cdv A outer s H vs Q E hr h => ?_)
  · obtain ⟨fo, q, r, ws, M, u, rfl, _⟩ := h
    rfl
  · obtain ⟨fo, q, r, ws, M, u, rfl, ⟨kv, hfo, hE⟩, hnd, hpre, hu', hq, hlen, k⟩ := h
    have hu := hu_of hr
    refine ⟨_, pss_cons (ps_set (i := 2) scRT.nd rfl (Or.inl rfl) (pe_lst pa_nil))
      (pss_cons (ps_set (i := 3) scRT.nd rfl (Or.inl rfl) (pe_dget hu (pv 0) (pv 1) (fun _ _ => rfl)))
      (pss_cons (ps_while PassesOwn.never (pt_cmpR op_notN (pv 3) pe_non (nomark _))
        (pss_cons (ps_expr (pe_bm PySem.F.plainAttrs_list PySem.F.slot_list_append PySem.F.type_list_append mt_append (pv 2) (pa_cons (pe_ix (r := rIxT K) ix_tup (pv 3) pe_int (fun _ _ => rfl)) pa_nil)))
        (pss_one (ps_set (i := 3) scRT.nd rfl (Or.inl rfl) (pe_dget hu (pv 0) (pe_ix (r := rIxT K) ix_tup (pv 3) pe_int (fun _ _ => rfl)) (fun _ _ => rfl))))))
      (pss_one (ps_ret (pe_callTy (r := rTu K) call_tuple_of (by rfl) T.tuple PyProof.Rows.boot_tuple (pa_cons (pe_revL (pv 2)) pa_nil)))))), ?_⟩
    refine ⟨Nat.zero_le _, fun l hl => ?_⟩
    have s1 := same_upd (o := .lst []) hl
    have el1 : upd H l (.lst []) l = some (.lst []) := upd_same
    generalize upd H l (.lst []) = H1 at s1 el1 ⊢
    obtain ⟨v0, ev0, hv0⟩ := hE.at hnd hu'
    refine ⟨_, rfl, _, rfl, fo, v0, rfl, by rw [← ev0]; exact DGet.t (s1 _ _ hfo) (by rw [keyI_kV]; exact s1 _ _ hq), ?_⟩
    refine while_ix (fun m σ H' => ∃ (u1 u2 : List Nat) (v : V), u1.length = m ∧ u = u1 ++ u2 ∧ u1 ∈ M ∧ EVal r ws H v u1 ∧ Same H H' ∧ H' l = some (.lst (names ws u2.reverse)) ∧ σ = [some (.ref fo), some (.ref q), some (.ref l), some v]) u.length ?_ ?_ ?_
    · exact ⟨u, [], v0, rfl, (List.append_nil u).symm, hu', hv0, s1, el1, rfl⟩
    · rintro m σ H2 ⟨u1, u2, v, rfl, eu, hm1, hv, s2, el2, rfl⟩
      refine ⟨_, rfl, rfl, _, rfl, ?_⟩
      rcases hv with ⟨rfl, rfl⟩ | ⟨u', j, t, q', rfl, rfl, ht, hq'⟩
      · refine iteF ?_
        refine ⟨_, rfl, l, _, rfl, SqL.of el2, fun p1 hp1 => ?_⟩
        have e3 : upd H2 p1 (.lst (names ws u2.reverse).reverse) p1 = some (.lst (names ws u2.reverse).reverse) := upd_same
        have s3 := s2.trans (same_upd (o := .lst (names ws u2.reverse).reverse) hp1)
        generalize upd H2 p1 (.lst (names ws u2.reverse).reverse) = H3 at e3 s3 ⊢
        refine ⟨p1, _, rfl, .inl ⟨SqL.of e3, fun p2 hp2 => ?_⟩⟩
        refine k p2 _ (s3.free hp2) (s3.trans (same_upd hp2)) ?_
        rw [upd_same, eu, names, names, List.map_reverse, List.reverse_reverse]; rfl
      · refine iteT ?_
        have hll : (names ws u2.reverse).length < sizeLine := by
          have h1 := congrArg List.length eu
          rw [List.length_append, List.length_append] at h1
          rw [names, List.length_map, List.length_reverse, sizeLine_eq]; omega
        refine ⟨_, rfl, .inl ⟨rfl, _, SqL.of el2⟩, _, rfl, t, _, _, _, rfl, rfl, SqT.of (s2 _ _ ht), atI_nat (j := 1) rfl, l, _, _, rfl, rfl, el2, hll, ?_⟩
        have s3 : Same H (upd H2 l (.lst (names ws u2.reverse ++ [V.str (ws.getD j "")]))) := fun b o e => by rw [upd_ne (ne_of_none e hl)]; exact s2 _ _ e
        have el3 : upd H2 l (.lst (names ws u2.reverse ++ [V.str (ws.getD j "")])) l = some (.lst (names ws (j :: u2).reverse)) := by
          rw [upd_same, names, names, List.reverse_cons, List.map_append]; rfl
        generalize upd H2 l (.lst (names ws u2.reverse ++ [V.str (ws.getD j "")])) = H3 at s3 el3 ⊢
        have hm' := hpre u' j hm1
        obtain ⟨v', ev', hv'⟩ := hE.at hnd hm'
        refine ⟨_, rfl, _, rfl, t, _, _, _, rfl, rfl, SqT.of (s3 _ _ ht), atI_nat (j := 0) rfl, fo, v', rfl, by rw [← ev']; exact DGet.t (s3 _ _ hfo) (by rw [keyI_kV]; exact s3 _ _ hq'), ?_⟩
        exact ⟨u'.length, by rw [List.length_append]; exact Nat.lt_succ_self _, u', j :: u2, v', rfl, by rw [eu, List.append_assoc]; rfl, hm', hv', s3, el3, rfl⟩
    · rintro σ H Q Q' hQ ⟨v, e, h1, c, h2, h3⟩
      exact ⟨v, e, h1, c, h2, hQ _ _ h3⟩
end
end K1
set_option Elab.async false
set_option linter.all false
set_option maxRecDepth 100000
/-! machines.first_parting -/
namespace K1
open PySem L2 LamX
abbrev sFP : Stmt := top 37
theorem nodup_sub_len {α : Type} [DecidableEq α] : ∀ (l m : List α), l.Nodup → (∀ x ∈ l, x ∈ m) → l.length ≤ m.length
  | [], _, _, _ => Nat.zero_le _
  | a :: l, m, hn, hs => by
    rw [List.nodup_cons] at hn
    have ha := hs a (List.mem_cons_self ..)
    have h1 := nodup_sub_len l (m.erase a) hn.2 fun x hx => (List.mem_erase_of_ne (fun e => hn.1 (by rw [← e]; exact hx))).mpr (hs x (List.mem_cons_of_mem _ hx))
    rw [List.length_erase_of_mem ha] at h1
    have := List.length_pos_of_mem ha
    rw [List.length_cons]; omega
/-- all tuples of states -/
def prodL : List (List (List Int)) → List (List Int)
  | [] => [[]]
  | t :: ts => (List.range t.length).flatMap fun (x : Nat) => (prodL ts).map fun q => (x : Int) :: q
def prodN : List (List (List Int)) → Nat
  | [] => 1
  | t :: ts => t.length * prodN ts
theorem prodL_len : ∀ ts, (prodL ts).length = prodN ts
  | [] => rfl
  | t :: ts => by
    rw [prodL, prodN, ← prodL_len ts, List.length_flatMap]
    simp [List.map_const']
theorem prodL_mem : ∀ (ts : List (List (List Int))) (vs : List Int), StOk ts vs → vs ∈ prodL ts
  | [], vs, h => by
    have : vs = [] := List.length_eq_zero_iff.mp h.1
    rw [this]; exact List.mem_singleton.mpr rfl
  | t :: ts, [], h => by have := h.1; simp at this
  | t :: ts, v :: vs, h => by
    obtain ⟨h0, h1⟩ := h.2 0 t v rfl rfl
    rw [prodL, List.mem_flatMap]
    refine ⟨v.toNat, List.mem_range.mpr (by omega), List.mem_map.mpr ⟨vs, prodL_mem ts vs ⟨by simpa using h.1, fun i t' v' e1 e2 => h.2 (i + 1) t' v' e1 e2⟩, ?_⟩⟩
    rw [Int.toNat_of_nonneg h0]
theorem met_len {w : Nat} {ts : List (List (List Int))} {s0 : List Int} {M : List (List Nat)} (h : StOk ts s0) (ht : ∀ t ∈ ts, TabOk w t) (hn : (M.map (runT ts s0)).Nodup) (hl : ∀ u ∈ M, ∀ k ∈ u, k < w) : M.length ≤ prodN ts := by
  rw [← prodL_len, ← List.length_map (f := runT ts s0)]
  refine nodup_sub_len _ _ hn fun x hx => ?_
  obtain ⟨u, hu, rfl⟩ := List.mem_map.mp hx
  exact prodL_mem _ _ (h.run ht u (hl u hu))
/-- the two tell different things -/
def dif (s1 s2 : List Str) (vs : List Int) : Bool := decide (s1.getD (vs.getD 0 0).toNat "" ≠ s2.getD (vs.getD 1 0).toNat "")
theorem Parts.tab {ws : List Str} {rs : List (List Int)} {ss : List Str} {st : Int} (h : Parts ws rs ss st) : TabOk ws.length rs := h.row
/-- the first word, of all, for which two states are told apart; none -/
def FirstW (w : Nat) (r : List Nat → List Int) (s1 s2 : List Str) (u : List Nat) : Prop := (allU w u.length).find? (fun v => dif s1 s2 (r v)) = some u
def NoW (w : Nat) (r : List Nat → List Int) (s1 s2 : List Str) : Prop := ∀ n, (allU w n).find? (fun v => dif s1 s2 (r v)) = none
theorem MachAt.same {K : PySem.W.Frag} {C : Addr} {H H' : Hp} {x : Addr} {ws : List Str} {rs : List (List Int)} {ss : List Str} {st : Int} (h : MachAt K C H x ws rs ss st) (s : Same H H') : MachAt K C H' x ws rs ss st := by
  obtain ⟨dx, t, r, l, as, h1, h2, h3, h4, h5⟩ := h
  exact ⟨dx, t, r, l, as, s _ _ h1, h2.same s, s _ _ h3, h4.same s, s _ _ h5⟩
def spFP (K : PySem.W.Frag) (C : Addr) : Sp := fun vs H Q _ => ∃ (x y : Addr) (a b : Int) (ws : List Str) (rs1 : List (List Int)) (ss1 : List Str) (st1 : Int) (rs2 : List (List Int)) (ss2 : List Str) (st2 : Int),
  vs = [.ref x, .int a, .ref y, .int b] ∧ MachAt K C H x ws rs1 ss1 st1 ∧ MachAt K C H y ws rs2 ss2 st2 ∧ Parts ws rs1 ss1 st1 ∧ Parts ws rs2 ss2 st2 ∧ 0 ≤ a ∧ a < (rs1.length : Int) ∧ 0 ≤ b ∧ b < (rs2.length : Int) ∧
  (∀ u p H', FirstW ws.length (runT [rs1, rs2] [a, b]) ss1 ss2 u → H p = none → Same H H' → H' p = some (.tup (names ws u)) → Q (.ref p) H') ∧
  (∀ H', NoW ws.length (runT [rs1, rs2] [a, b]) ss1 ss2 → Same H H' → Q .non H')
section
variable {P : Program} {w : World} {K : PySem.W.Frag} {mg : Str → Option Value} {base : Heap}
abbrev pFP : List Str := ["one", "a", "other", "b"]
abbrev nFP : List Str := ["one", "a", "other", "b", "met", "layer", "mine", "theirs", "pair", "step"]
theorem scFP : FnScope nFP pFP (defScope sFP) := ⟨rfl, rfl, rfl, by decide +kernel, rfl, by decide +kernel, by decide +kernel⟩
theorem ok_fp {C f fN fR : Addr} {fd fdN fdR : FuncData} (D : Df K mg "first_parting" sFP pFP f fd) (DN : Df K mg "next_layer" sNL pNL fN fdN) (DR : Df K mg "row_to" sRT pRT fR fdR) (M : Tm K mg C) (T : Bt2 mg) (hz : mg "zip" = none) : FnOk P w K mg base CX0 2 f fd pFP (spFP K C) := by
  have GN : FnOk P w K mg base CX0 1 fN fdN pNL (spNL K) := ok_nl DN T hz
  have GR : FnOk P w K mg base CX0 1 fR fdR pRT (spRT K) := ok_rt DR T
  refine D.F.ok scFP (fun vs H Q E h => ?_) (fun cdv A outer s H vs Q E hr h => ?_)
  · obtain ⟨x, y, a, b, ws, rs1, ss1, st1, rs2, ss2, st2, rfl, _⟩ := h
    rfl
  · obtain ⟨x, y, a, b, ws, rs1, ss1, st1, rs2, ss2, st2, rfl, mx, my, px, py, a0, a1, b0, b1, kS, kN⟩ := h
    have hu := hu_of hr
    refine ⟨_, pss_cons (ps_set (i := 4) scFP.nd rfl (Or.inl rfl) (pe_disp1T hu (pe_tup (pa_cons (pv 1) (pa_cons (pv 3) pa_nil))) pe_non))
      (pss_cons (ps_set (i := 5) scFP.nd rfl (Or.inl rfl) (pe_disp1T hu (pe_tup (pa_cons (pv 1) (pa_cons (pv 3) pa_nil))) pe_non))
      (pss_cons (ps_while PassesOwn.never (pt_cmpR op_gt (pe_callB call_len_dT (by rfl) T.len PySem.boot_len (pa_cons (pv 5) pa_nil)) pe_int (nomark _))
        (pss_cons (ps_lock (ps_for PassesOwn.never rfl (pi_keys (pv 5)) (pg_tup (by rfl) (pgs_cons (pg_name (i := 6) scFP.nd rfl (Or.inl rfl)) (pgs_cons (pg_name (i := 7) scFP.nd rfl (Or.inl rfl)) pgs_nil)))
          (pss_one (ps_if (pt_cmpR op_ne (pe_ix (r := rIxT K) ix_tup (pe_fld (pv 0) rfl) (pv 6) (fun _ _ => rfl)) (pe_ix (r := rIxT K) ix_tup (pe_fld (pv 2) rfl) (pv 7) (fun _ _ => rfl)) (nomark _))
            (pss_one (ps_ret (pe_call GR hr rfl DR.g DR.F.kp DR.b .nil pass0 (pa_cons (pv 4) (pa_cons (pe_tup (pa_cons (pv 6) (pa_cons (pv 7) pa_nil))) pa_nil))))) pss_nil))))
        (pss_cons (ps_set (i := 5) scFP.nd rfl (Or.inl rfl) (pe_call GN hr rfl DN.g DN.F.kp DN.b .nil pass0 (pa_cons (pe_fld (pv 0) rfl) (pa_cons (pe_tup (pa_cons (pe_fld (pv 0) rfl) (pa_cons (pe_fld (pv 2) rfl) pa_nil))) (pa_cons (pv 5) (pa_cons (pv 4) pa_nil))))))
        (pss_one (ps_lock (ps_for PassesOwn.never rfl (pi_itemsT (pv 5)) (pg_tup (by rfl) (pgs_cons (pg_name (i := 8) scFP.nd rfl (Or.inl rfl)) (pgs_cons (pg_name (i := 9) scFP.nd rfl (Or.inl rfl)) pgs_nil)))
          (pss_one (ps_dput hu (pv 4) (pv 8) (pv 9) rfl))))))))
      (pss_one (ps_ret pe_non)))), ?_⟩
    have w6 := px.gd.len.2
    have hs0 : StOk [rs1, rs2] [a, b] := ⟨rfl, fun i t v e1 e2 => by
      match i, e1, e2 with
      | 0, e1, e2 => cases e1; cases e2; exact ⟨a0, a1⟩
      | 1, e1, e2 => cases e1; cases e2; exact ⟨b0, b1⟩
      | _ + 2, e1, _ => simp at e1⟩
    have htab : ∀ t ∈ [rs1, rs2], TabOk ws.length t := fun t ht => by
      simp only [List.mem_cons, List.not_mem_nil, or_false] at ht
      rcases ht with rfl | rfl
      · exact px.tab
      · exact py.tab
    have hpn : prodN [rs1, rs2] ≤ 3600 := by
      show rs1.length * (rs2.length * 1) ≤ 3600
      rw [Nat.mul_one]
      have h1 := px.many.2
      have h2 := py.many.2
      have := Nat.mul_le_mul h1 h2
      omega
    have r0 : runT [rs1, rs2] [a, b] [] = [a, b] := rfl
    have hrc := runT_c [rs1, rs2] [a, b]
    have hrun : ∀ u, (∀ k ∈ u, k < ws.length) → StOk [rs1, rs2] (runT [rs1, rs2] [a, b] u) := fun u => hs0.run htab u
    have hml : ∀ M : List (List Nat), (M.map (runT [rs1, rs2] [a, b])).Nodup → (∀ u ∈ M, ∀ k ∈ u, k < ws.length) → M.length ≤ prodN [rs1, rs2] := fun M => met_len hs0 htab
    generalize hR : runT [rs1, rs2] [a, b] = r at r0 hrc hrun hml kS kN
    have hpc : ∀ u v, r u = r v → dif ss1 ss2 (r u) = dif ss1 ss2 (r v) := fun u v e => by rw [e]
    have kvab : (keyI [a, b]).map kV = [V.int a, V.int b] := rfl
    have mk1 : ∀ {G : Hp} {p t : Addr}, G p = none → upd G p (.dT []) t = none → Same G (upd (upd (upd G p (.dT [])) t (.tup [V.int a, V.int b])) p (.dT [(keyI [a, b], V.non)])) ∧ DAt r ws (upd (upd (upd G p (.dT [])) t (.tup [V.int a, V.int b])) p (.dT [(keyI [a, b], V.non)])) p [[]] := fun {G p t} hp ht => by
      refine ⟨fun c o e => ?_, _, upd_same, rfl, fun i k v u e1 e2 => ?_⟩
      · rw [upd_ne (ne_of_none e hp)]
        exact same_upd ht _ _ (same_upd hp _ _ e)
      · match i, e1, e2 with
        | 0, e1, e2 => cases e1; cases e2; exact ⟨by rw [r0], .inl ⟨rfl, rfl⟩⟩
        | _ + 1, e1, _ => simp at e1
    -- met
    intro me hme
    refine ⟨_, rfl, _, rfl, Nat.le_of_ble_eq_true rfl, fun t1 ht1 => ?_⟩
    have nt1 : me ≠ t1 := ne_of_none upd_same ht1
    refine ⟨by rw [upd_ne nt1]; exact upd_same, t1, keyI [a, b], .non, rfl, upd_same, ?_⟩
    obtain ⟨s1, dm1⟩ := mk1 hme ht1
    generalize upd (upd (upd H me (.dT [])) t1 (.tup [V.int a, V.int b])) me (.dT [(keyI [a, b], V.non)]) = H1 at s1 dm1 ⊢
    -- layer
    intro la hla
    refine ⟨_, rfl, _, rfl, Nat.le_of_ble_eq_true rfl, fun t2 ht2 => ?_⟩
    have nt2 : la ≠ t2 := ne_of_none upd_same ht2
    refine ⟨by rw [upd_ne nt2]; exact upd_same, t2, keyI [a, b], .non, rfl, upd_same, ?_⟩
    obtain ⟨s2, dl2⟩ := mk1 hla ht2
    have nml : me ≠ la := by
      obtain ⟨kv, e, _⟩ := id dm1
      exact ne_of_none e hla
    have dm2 := dm1.same s2
    have s02 := s1.trans s2
    generalize upd (upd (upd H1 la (.dT [])) t2 (.tup [V.int a, V.int b])) la (.dT [(keyI [a, b], V.non)]) = H2 at s2 dl2 dm2 s02 ⊢
    -- the loop
    refine while_ix (fun m σ H' => ∃ (n : Nat) (M0 B : List (List Nat)) (la : Addr) (v6 v7 v8 v9 : Option V), bfs r ws.length n = (M0 ++ B, B) ∧ M0.find? (fun v => dif ss1 ss2 (r v)) = none ∧ Same H H' ∧ DAt r ws H' me (M0 ++ B) ∧ DAt r ws H' la B ∧ me ≠ la ∧ (B ≠ [] → n + 1 ≤ (M0 ++ B).length) ∧ m = 2 * (prodN [rs1, rs2] - (M0 ++ B).length) + (if B = [] then 0 else 1) ∧
      σ = [some (.ref x), some (.int a), some (.ref y), some (.int b), some (.ref me), some (.ref la), v6, v7, v8, v9]) (2 * (prodN [rs1, rs2] - 1) + 1) ?_ ?_ ?_
    · exact ⟨0, [], [[]], la, none, none, none, none, rfl, rfl, s02, dm2, dl2, nml, fun _ => Nat.le_refl _, rfl, rfl⟩
    · rintro m σ H3 ⟨n, M0, B, la, v6, v7, v8, v9, eb, hf0, s3, dm, dl, nml, hnl, rfl, rfl⟩
      obtain ⟨kM, hme3, hEM⟩ := id dm
      obtain ⟨kB, hla3, hEB⟩ := id dl
      have I := bfs_ok hrc ws.length n
      rw [eb] at I
      have hBM : ∀ u ∈ B, u ∈ M0 ++ B := fun u hu => List.mem_append_right _ hu
      have hMl : (M0 ++ B).length ≤ prodN [rs1, rs2] := hml _ I.nd I.lt
      refine ⟨_, rfl, la, kB, rfl, hla3, _, _, rfl, rfl, _, rfl, ?_⟩
      refine ite2 (fun hgt => ?_) (fun hgt => ?_)
      · have hB0 : B ≠ [] := fun e => by
          have h1 := hEB.1
          rw [e] at h1
          have h2 := of_decide_eq_true hgt
          simp at h1
          rw [h1] at h2
          exact absurd h2 (by decide)
        have hn1 := hnl hB0
        -- looked at
        refine ⟨la, .dT kB, hla3, trivial, fun od => ?_⟩
        have kf : KeepT H3 (upd H3 la (.frz od (.dT kB))) := KeepT.updT hla3
        have ef : upd H3 la (.frz od (.dT kB)) la = some (.frz od (.dT kB)) := upd_same
        have kx : ∀ b o, b ≠ la → H3 b = some o → upd H3 la (.frz od (.dT kB)) b = some o := fun b o nb e => by rw [upd_ne nb]; exact e
        have back : Same H3 (upd (upd H3 la (.frz od (.dT kB))) la (.dT kB)) := fun b o e => by
          by_cases hb : b = la
          · subst hb; rw [hla3] at e; cases e; exact upd_same
          · rw [upd_ne hb, upd_ne hb]; exact e
        have fzn : ∀ b, H3 b = none → upd H3 la (.frz od (.dT kB)) b = none := fun b e => by
          rw [upd_ne (fun z => by rw [z, hla3] at e; cases e)]; exact e
        have nzf : ∀ b, upd H3 la (.frz od (.dT kB)) b = none → H3 b = none := fun b e => by
          by_cases hb : b = la
          · rw [hb, ef] at e; cases e
          · rw [upd_ne hb] at e; exact e
        generalize upd H3 la (.frz od (.dT kB)) = Hf at kf ef kx back fzn nzf ⊢
        refine ⟨_, rfl, la, od, rfl, .inr ⟨kB, ef, for_it (walk_keysT (d := la) (o := od) (kvs := kB)) (fun i σ H' => H' = Hf ∧ (B.take i).find? (fun v => dif ss1 ss2 (r v)) = none ∧ ∃ v6 v7, σ = [some (.ref x), some (.int a), some (.ref y), some (.int b), some (.ref me), some (.ref la), v6, v7, v8, v9]) ⟨rfl, by rw [List.take_zero]; rfl, v6, v7, rfl⟩ (fun i σ H' _ q => by rw [q.1]; exact ef) ?_ ?_⟩⟩
        · rintro i yv σ H4 H4' hi ⟨rfl, hfi, v6', v7', rfl⟩ ⟨rfl, key, v, q, hkv, rfl, hq⟩
          have hiB : i < B.length := by rw [← hEB.1]; exact hi
          have eu : B[i]? = some B[i] := List.getElem?_eq_getElem hiB
          have hmem := List.getElem_mem hiB
          have etk : B.take (i + 1) = B.take i ++ [B[i]] := by rw [List.take_add_one, eu]; rfl
          have edr : B = B.take i ++ B[i] :: B.drop (i + 1) := by rw [← List.drop_eq_getElem_cons hiB, List.take_append_drop]
          generalize B[i] = u at eu hmem etk edr
          obtain ⟨rfl, hev⟩ := hEB.2 i _ _ _ hkv eu
          rw [keyI_kV] at hq
          have hst := hrun u (I.lt u (hBM u hmem))
          obtain ⟨c, e, ece⟩ : ∃ c e, r u = [c, e] := by
            have := hst.1
            match hru : r u, this with
            | [c, e], _ => exact ⟨c, e, rfl⟩
          rw [ece] at hq hst
          obtain ⟨c0, c1⟩ := hst.2 0 rs1 c rfl rfl
          obtain ⟨e0, e1⟩ := hst.2 1 rs2 e rfl rfl
          have edif : dif ss1 ss2 (r u) = decide (ss1.getD c.toNat "" ≠ ss2.getD e.toNat "") := by rw [ece]; rfl
          obtain ⟨dx, tx, rx, lx, asx, gx1, gx2, gx3, gx4, gx5⟩ := mx.same s3
          obtain ⟨dy, ty, ry, ly, asy, gy1, gy2, gy3, gy4, gy5⟩ := my.same s3
          refine ⟨q, _, rfl, SqT.of hq, rfl, _, _, rfl, _, _, rfl, rfl, ?_⟩
          refine ⟨_, rfl, x, C, dx, _, _, rfl, kx _ _ (ne_of gx1 hla3 (by intro z; cases z)) gx1, M.cl, M.nT, mf_tells _ _ _ _, _, rfl, lx, _, c, _, rfl, rfl, SqT.of (kf _ _ gx5), at_deed c0 (by rw [px.tl.1]; exact c1), ?_⟩
          refine ⟨_, rfl, y, C, dy, _, _, rfl, kx _ _ (ne_of gy1 hla3 (by intro z; cases z)) gy1, M.cl, M.nT, mf_tells _ _ _ _, _, rfl, ly, _, e, _, rfl, rfl, SqT.of (kf _ _ gy5), at_deed e0 (by rw [py.tl.1]; exact e1), rfl, _, rfl, ?_⟩
          refine ite2 (fun hd => ?_) (fun hd => ?_)
          · -- told apart
            have hdt : dif ss1 ss2 (r u) = true := by
              rw [edif]
              refine decide_eq_true fun z => ?_
              rw [z] at hd
              simp at hd
            have hfu : (M0 ++ B).find? (fun v => dif ss1 ss2 (r v)) = some u := by
              rw [List.find?_append, hf0, edr, List.find?_append, hfi, List.find?_cons, hdt]; rfl
            have hlu := I.len u hmem
            have hM' : u ∈ M0 ++ B := hBM u hmem
            refine ⟨_, rfl, _, rfl, _, rfl, Nat.le_of_ble_eq_true rfl, fun t ht => ?_⟩
            have s5 := same_upd (o := .tup [V.int c, V.int e]) ht
            have e5 : upd H4' t (.tup [V.int c, V.int e]) t = some (.tup ((r u).map V.int)) := by rw [ece]; exact upd_same
            generalize upd H4' t (.tup [V.int c, V.int e]) = H5 at s5 e5 ⊢
            refine ⟨me, t, r, ws, M0 ++ B, u, rfl, ⟨kM, s5 _ _ (kx _ _ nml hme3), hEM.keep (kf.trans (.of s5))⟩, I.nd, I.pre, hM', e5, by omega, fun p H6 hp s6 e6 => ?_⟩
            have s46 := s5.trans s6
            have npl : p ≠ la := (ne_of_none (s5 _ _ ef) hp).symm
            refine ⟨s46 _ _ ef, kS u p _ ?_ ?_ (fun b o e => ?_) (by rw [upd_ne npl]; exact e6)⟩
            · show (allU ws.length u.length).find? _ = some u
              rw [hlu, ← bfs_find hrc hpc ws.length n, eb]
              exact hfu
            · exact s3.free (nzf _ (s5.free hp))
            · by_cases hb : b = la
              · subst hb
                have := s3 _ _ e
                rw [hla3] at this; cases this
                exact upd_same
              · rw [upd_ne hb]
                exact s46 _ _ (kx _ _ hb (s3 _ _ e))
          · have hdf : dif ss1 ss2 (r u) = false := by
              rw [edif]
              refine decide_eq_false fun z => hd ?_
              rw [decide_eq_false (fun e' => z (by injection e'))]; rfl
            exact ⟨rfl, by rw [etk, List.find?_append, hfi, List.find?_cons, hdf]; rfl, _, _, rfl⟩
        · rintro σ H4 ⟨rfl, hfi, v6', v7', rfl⟩
          rw [hEB.1, List.take_length] at hfi
          refine ⟨ef, ?_⟩
          have s5 := s3.trans back
          have dm5 := dm.same back
          have dl5 := dl.same back
          generalize upd H4 la (.dT kB) = H5 at s5 dm5 dl5 ⊢
          obtain ⟨dx, tx, rx, lx, asx, gx1, gx2, gx3, gx4, gx5⟩ := mx.same s5
          obtain ⟨dy, ty, ry, ly, asy, gy1, gy2, gy3, gy4, gy5⟩ := my.same s5
          refine ⟨_, rfl, x, C, dx, _, _, rfl, gx1, M.cl, M.nD, mf_deeds _ _ _ _, _, rfl, x, C, dx, _, _, rfl, gx1, M.cl, M.nR, mf_rows _ _ _ _, _, rfl, y, C, dy, _, _, rfl, gy1, M.cl, M.nR, mf_rows _ _ _ _, Nat.le_of_ble_eq_true rfl, fun tt htt => ?_⟩
          have s6 := same_upd (o := .tup [V.ref rx, V.ref ry]) htt
          have e6 : upd H5 tt (.tup [V.ref rx, V.ref ry]) tt = some (.tup ([rx, ry].map V.ref)) := upd_same
          generalize upd H5 tt (.tup [V.ref rx, V.ref ry]) = H6 at s6 e6 ⊢
          refine ⟨_, rfl, _, rfl, tx, tt, la, me, ws, [rs1, rs2], [a, b], M0 ++ B, B, rfl, (gx2.same s6).sq, ⟨[rx, ry], SqT.of e6, rfl, fun i a' t' e1 e2 => ?_⟩, htab, hs0, by rw [hR]; exact dl5.same s6, by rw [hR]; exact dm5.same s6, nml.symm, by rw [hR]; exact I.nd, fun u hu => I.lt u (hBM u hu), ?_, by simp, fun p N H7 hp s7 edd dN => ?_⟩
          · match i, e1, e2 with
            | 0, e1, e2 => cases e1; cases e2; exact ⟨asx, s6 _ _ gx3, gx4.1, fun j b' q' f1 f2 => s6 _ _ (gx4.2 j b' q' f1 f2)⟩
            | 1, e1, e2 => cases e1; cases e2; exact ⟨asy, s6 _ _ gy3, gy4.1, fun j b' q' f1 f2 => s6 _ _ (gy4.2 j b' q' f1 f2)⟩
            | _ + 2, e1, _ => simp at e1
          · have h1 : B.length ≤ 3600 := by rw [List.length_append] at hMl; omega
            have := Nat.mul_le_mul w6 h1
            omega
          rw [hR] at edd dN
          have s57 := s6.trans s7
          have s07 := s5.trans s57
          have dm7 := dm5.same s57
          obtain ⟨kN, hpN, hEN⟩ := id dN
          obtain ⟨kM7, hme7, hEM7⟩ := id dm7
          have nmp : me ≠ p := by
            obtain ⟨kv, e, _⟩ := id dm5
            exact ne_of_none (s6 _ _ e) hp
          have ebs : bfs r ws.length (n + 1) = (M0 ++ B ++ N, N) := by
            show (dd r (bfs r ws.length n).1 (exts ws.length (bfs r ws.length n).2), (dd r (bfs r ws.length n).1 (exts ws.length (bfs r ws.length n).2)).drop (bfs r ws.length n).1.length) = _
            rw [eb]
            show (dd r (M0 ++ B) (exts ws.length B), (dd r (M0 ++ B) (exts ws.length B)).drop (M0 ++ B).length) = _
            rw [edd, List.drop_left]
          have I2 := bfs_ok hrc ws.length (n + 1)
          rw [ebs] at I2
          have hMl2 : (M0 ++ B ++ N).length ≤ prodN [rs1, rs2] := hml _ I2.nd I2.lt
          -- what is new is met
          refine ⟨p, .dT kN, hpN, trivial, fun od2 => ?_⟩
          have ef8 : upd H7 p (.frz od2 (.dT kN)) p = some (.frz od2 (.dT kN)) := upd_same
          have kf8 : KeepT H7 (upd H7 p (.frz od2 (.dT kN))) := KeepT.updT hpN
          have kx8 : ∀ b o, b ≠ p → H7 b = some o → upd H7 p (.frz od2 (.dT kN)) b = some o := fun b o nb e => by rw [upd_ne nb]; exact e
          generalize upd H7 p (.frz od2 (.dT kN)) = H8 at ef8 kf8 kx8 ⊢
          have hEN8 := hEN.keep kf8
          refine ⟨_, rfl, p, od2, kN, rfl, ef8, for_it (walk_itemsT (d := p) (o := od2) (kvs := kN)) (fun j σ H' => (∀ b o, b ≠ p → b ≠ me → H8 b = some o → H' b = some o) ∧ H' p = some (.frz od2 (.dT kN)) ∧ (∃ kM', H' me = some (.dT kM') ∧ Ents r ws H' kM' (M0 ++ B ++ N.take j)) ∧ ∃ v8 v9, σ = [some (.ref x), some (.int a), some (.ref y), some (.int b), some (.ref me), some (.ref p), v6', v7', v8, v9]) ?_ (fun j σ H' _ q => q.2.1) ?_ ?_⟩
          · exact ⟨fun b o _ _ e => e, ef8, ⟨kM7, kx8 _ _ nmp hme7, by rw [List.take_zero, List.append_nil]; exact hEM7.keep kf8⟩, v8, v9, rfl⟩
          · rintro j yv σ H9 H10 hj ⟨kx9, hp9, ⟨kM', hme9, hEM9⟩, v8', v9', rfl⟩ ⟨T', key, v, q, hkv, hq, rfl, hT', rfl⟩
            have hjN : j < N.length := by rw [← hEN.1]; exact hj
            have eu : N[j]? = some N[j] := List.getElem?_eq_getElem hjN
            have etk : N.take (j + 1) = N.take j ++ [N[j]] := by rw [List.take_add_one, eu]; rfl
            have edr : N = N.take j ++ N[j] :: N.drop (j + 1) := by rw [← List.drop_eq_getElem_cons hjN, List.take_append_drop]
            generalize N[j] = u at eu etk edr
            obtain ⟨rfl, hev⟩ := hEN8.2 j _ _ _ hkv eu
            have s10 := same_upd (o := .tup [V.ref q, v]) hT'
            have e10 : upd H9 T' (.tup [V.ref q, v]) T' = some (.tup [V.ref q, v]) := upd_same
            have kt89 : KeepT H8 H9 := fun c xs e => kx9 _ _ (ne_of e ef8 (by intro z; cases z)) (ne_of e (kx8 _ _ nmp hme7) (by intro z; cases z)) e
            refine ⟨T', _, rfl, SqT.of upd_same, rfl, _, _, rfl, _, _, rfl, rfl, ?_⟩
            have kx10 : ∀ b o, b ≠ p → b ≠ me → H8 b = some o → upd H9 T' (.tup [V.ref q, v]) b = some o := fun b o n1 n2 e => s10 _ _ (kx9 b o n1 n2 e)
            have hp10 := s10 _ _ hp9
            have hme10 := s10 _ _ hme9
            have hEM10 := hEM9.keep (.of s10)
            have hev10 := (hev.keep kt89).keep (.of s10)
            have hq10 := s10 _ _ hq
            generalize upd H9 T' (.tup [V.ref q, v]) = H10 at kx10 hp10 hme10 hEM10 hev10 hq10 ⊢
            have hnew : r u ∉ (M0 ++ B ++ N.take j).map r := by
              have h1 := I2.nd
              rw [edr, ← List.append_assoc, List.map_append] at h1
              intro hz
              exact (List.nodup_append.mp h1).2.2 _ hz _ (by rw [List.map_cons]; exact List.mem_cons_self ..) rfl
            have hkl : kM'.length < sizeLine := by
              rw [hEM10.1, List.length_append, List.length_take]
              rw [List.length_append] at hMl2
              rw [sizeLine_eq]; omega
            refine ⟨_, rfl, _, rfl, _, rfl, me, _, rfl, DPut.t hme10 hq10 hkl, ?_⟩
            rw [putK_new _ (hEM10.no hnew)]
            have hE11 := (hEM10.snoc hev10).keep (KeepT.updT (o := .dT (kM' ++ [(keyI (r u), v)])) hme10)
            exact ⟨fun b o n1 n2 e => by rw [upd_ne n2]; exact kx10 b o n1 n2 e, by rw [upd_ne nmp.symm]; exact hp10, ⟨_, upd_same, by rw [etk, ← List.append_assoc]; exact hE11⟩, _, _, rfl⟩
          · rintro σ H9 ⟨kx9, hp9, ⟨kM', hme9, hEM9⟩, v8', v9', rfl⟩
            rw [hEN.1, List.take_length] at hEM9
            have kf9 := KeepT.updF (o := .dT kN) hp9
            have s9 : Same H (upd H9 p (.dT kN)) := fun b o e => by
              have e7 := s07 _ _ e
              have nbm : b ≠ me := ne_of_none e hme
              by_cases hb : b = p
              · subst hb; rw [hpN] at e7; cases e7; exact upd_same
              · rw [upd_ne hb]; exact kx9 _ _ hb nbm (kx8 _ _ hb e7)
            have kt79 : KeepT H7 H9 := fun c xs e => kx9 _ _ (ne_of e hpN (by intro z; cases z)) (ne_of e hme7 (by intro z; cases z)) (kf8 _ _ e)
            refine ⟨hp9, _, ?_, n + 1, M0 ++ B, N, p, _, _, _, _, ebs, ?_, s9, ⟨kM', by rw [upd_ne nmp]; exact hme9, hEM9.keep kf9⟩, ⟨kN, upd_same, (hEN.keep kt79).keep kf9⟩, nmp, ?_, rfl, rfl⟩
            · rw [if_neg hB0]
              have h1 : (M0 ++ B ++ N).length = (M0 ++ B).length + N.length := List.length_append
              by_cases hN0 : N = []
              · rw [if_pos hN0, hN0, List.append_nil]; omega
              · have h2 := List.length_pos_iff.mpr hN0
                rw [if_neg hN0]; omega
            · rw [List.find?_append, hf0, hfi]; rfl
            · intro hN0
              have h2 := List.length_pos_iff.mpr hN0
              rw [List.length_append]; omega
      · have hB0 : B = [] := by
          have h1 := hEB.1
          refine List.length_eq_zero_iff.mp ?_
          rw [← h1]
          have h2 : ¬ ((kB.length : Nat) : Int) > 0 := fun z => hgt (decide_eq_true z)
          omega
        subst hB0
        rw [List.append_nil] at eb
        refine kN H3 (fun n' => ?_) s3
        rw [← bfs_find hrc hpc]
        by_cases hn' : n ≤ n'
        · rw [bfs_end hrc (by rw [eb]) n' hn', eb]; exact hf0
        · obtain ⟨R, eR⟩ := allU_pre ws.length (show n' ≤ n by omega)
          have h1 := bfs_find hrc hpc ws.length n
          rw [eb, eR, List.find?_append] at h1
          rw [bfs_find hrc hpc]
          have h2 : ((allU ws.length n').find? fun v => dif ss1 ss2 (r v)).or (R.find? fun v => dif ss1 ss2 (r v)) = none := by rw [← h1]; exact hf0
          cases hz : (allU ws.length n').find? fun v => dif ss1 ss2 (r v) with
          | none => rfl
          | some z => rw [hz] at h2; cases h2
    · rintro σ H Q Q' hQ ⟨v, e, d, kvs, h1, h2, i, j, h3, h4, c, h5, h6⟩
      exact ⟨v, e, d, kvs, h1, h2, i, j, h3, h4, c, h5, hQ _ _ h6⟩
end
end K1
set_option Elab.async false
set_option linter.all false
set_option maxRecDepth 100000
/-! Machine.apart -/
namespace K1
open PySem L2 LamX
abbrev sMApart : Stmt := inClass (top 34) 9
def ThP (K : PySem.W.Frag) (H : Hp) (v : V) (t : String) : Prop := ∀ G, Same H G → Th K G v t
def spApart (K : PySem.W.Frag) (C CB : Addr) : Sp := fun vs H Q E => ∃ (x : Addr) (va vb : V) (ta tb : String) (ws : List Str) (rs : List (List Int)) (ss : List Str) (st : Int),
  vs = [.ref x, va, vb] ∧ MachAt K C H x ws rs ss st ∧ Parts ws rs ss st ∧ ThP K H va ta ∧ ThP K H vb tb ∧
  ((ixB va rs.length = false ∧ Rs CB ["state"] [va] H E) ∨ (ixB va rs.length = true ∧ ixB vb rs.length = false ∧ Rs CB ["state"] [vb] H E) ∨
   (∃ a b : Int, va = .int a ∧ vb = .int b ∧ 0 ≤ a ∧ a < (rs.length : Int) ∧ 0 ≤ b ∧ b < (rs.length : Int) ∧
    (∀ u p H', FirstW ws.length (runT [rs, rs] [a, b]) ss ss u → H p = none → Same H H' → H' p = some (.tup (names ws u)) → Q (.ref p) H') ∧
    (∀ H', NoW ws.length (runT [rs, rs] [a, b]) ss ss → Same H H' → Q .non H')))
section
variable {P : Program} {w : World} {K : PySem.W.Frag} {mg : Str → Option Value} {base : Heap}
abbrev pMA : List Str := ["self", "a", "b"]
abbrev nMA : List Str := ["self", "a", "b", "state"]
theorem scMA : FnScope nMA pMA (defScope sMApart) := ⟨rfl, rfl, rfl, by decide +kernel, rfl, by decide +kernel, by decide +kernel⟩
theorem ok_apart {C CB f fX fI fP fB : Addr} {fd fdX fdI fdP fdB : FuncData} (F : Fun K "apart" "Machine.apart" sMApart f fd) (M : Tm K mg C) (T : Bt2 mg) (DX : Df K mg "is_index" sIsIndex ["value", "many"] fX fdX) (DI : Df K mg "is_integer" sIsInt ["value"] fI fdI)
    (DP : Df K mg "first_parting" sFP pFP fP fdP) (GP : FnOk P w K mg base CX0 2 fP fdP pFP (spFP K C)) (OB : OBadState K mg CB fB fdB) : FnOk P w K mg base (L2.CX P w) 3 f fd pMA (spApart K C CB) := by
  have GX : FnOk P w K mg base CX0 2 fX fdX ["value", "many"] (spIx K) := g_isindex DX DI T
  refine F.okX scMA (fun vs H Q E h => ?_) (fun cdv A outer s H vs Q E hr h => ?_)
  · obtain ⟨x, va, vb, ta, tb, ws, rs, ss, st, rfl, _⟩ := h
    rfl
  · obtain ⟨x, va, vb, ta, tb, ws, rs, ss, st, rfl, mx, px, hta, htb, kk⟩ := h
    refine ⟨_, pss_cons (ps_for (passes_of rfl) rfl (pi_tup (pe_tup (pa_cons (pv 1) (pa_cons (pv 2) pa_nil)))) (pg_name (i := 3) scMA.nd rfl (Or.inl rfl))
        (pss_one (ps_if (pt_not (pt_val (pe_call GX hr rfl DX.g DX.F.kp DX.b .nil pass0 (pa_cons (pv 3) (pa_cons (pe_callB call_len (by rfl) T.len PySem.boot_len (pa_cons (pe_fld (pv 0) rfl) pa_nil)) pa_nil)))))
          (pss_one (ps_raise rfl (takes_of rfl rfl rfl rfl) (pmk_oex OB.T OB.ini OB.tI (ini_BadState OB) (hr.mono (by decide)) OB.b .nil pass0 rfl OB.g (pa_cons (pv 3) pa_nil)))) pss_nil)))
      (pss_one (ps_ret (pe_call GP hr rfl DP.g DP.F.kp DP.b .nil pass0 (pa_cons (pv 0) (pa_cons (pv 1) (pa_cons (pv 0) (pa_cons (pv 2) pa_nil))))))), ?_⟩
    refine ⟨_, rfl, _, rfl, Nat.le_of_ble_eq_true rfl, fun t ht => ?_⟩
    have s1 := same_upd (o := .tup [va, vb]) ht
    have e1 : upd H t (.tup [va, vb]) t = some (.tup [va, vb]) := upd_same
    generalize upd H t (.tup [va, vb]) = H1 at s1 e1 ⊢
    have mx1 := mx.same s1
    obtain ⟨dx, tx, rx, lx, asx, gx1, gx2, gx3, gx4, gx5⟩ := id mx1
    have hrl : (asx.map V.ref).length = rs.length := by rw [List.length_map, gx4.1]
    refine ⟨t, rfl, ⟨_, SqT.of e1⟩, for_tup (K := K) (a := t) (xs := [va, vb]) (fun i σ H' => H' = H1 ∧ (i = 1 → ixB va rs.length = true) ∧ (i = 2 → ixB va rs.length = true ∧ ixB vb rs.length = true) ∧ ∃ v3, σ = [some (.ref x), some va, some vb, v3]) ⟨rfl, (fun z => by cases z), (fun z => by cases z), none, rfl⟩ (fun i σ H' _ q => by rw [q.1]; exact SqT.of e1) ?_ ?_⟩
    · rintro i y σ H2 hi ⟨rfl, h1, h2, v3, rfl⟩
      have hi2 : i = 0 ∨ i = 1 := by
        have := (List.getElem?_eq_some_iff.mp hi).1
        simp at this; omega
      obtain ⟨ty, hth, hno, hyes⟩ : ∃ ty, Th K H2 y ty ∧ (ixB y rs.length = false → Rs CB ["state"] [y] H E) ∧ (ixB y rs.length = true → (i + 1 = 1 → ixB va rs.length = true) ∧ (i + 1 = 2 → ixB va rs.length = true ∧ ixB vb rs.length = true)) := by
        rcases hi2 with rfl | rfl
        · cases hi
          refine ⟨ta, hta _ s1, fun z => ?_, fun z => ⟨fun _ => z, fun q => by cases q⟩⟩
          rcases kk with ⟨_, r⟩ | ⟨z', _⟩ | ⟨a, b, rfl, rfl, a0, a1, _⟩
          · exact r
          · rw [z] at z'; cases z'
          · rw [ix_of a0 a1] at z; cases z
        · cases hi
          refine ⟨tb, htb _ s1, fun z => ?_, fun z => ⟨fun q => (by cases q), fun _ => ⟨h1 rfl, z⟩⟩⟩
          rcases kk with ⟨z', _⟩ | ⟨_, _, r⟩ | ⟨a, b, rfl, rfl, _, _, b0, b1, _⟩
          · rw [h1 rfl] at z'; cases z'
          · exact r
          · rw [ix_of b0 b1] at z; cases z
      refine ⟨_, rfl, _, rfl, x, C, dx, _, _, rfl, gx1, M.cl, M.nR, mf_rows _ _ _ _, _, rs.length, rfl, .inr ⟨_, SqT.of gx3, hrl.symm⟩, y, ty, _, rfl, hth, _, rfl, ?_⟩
      cases hix : ixB y rs.length with
      | true =>
        refine iteF ?_
        obtain ⟨g1, g2⟩ := hyes hix
        exact ⟨rfl, g1, g2, _, rfl⟩
      | false =>
        refine iteT ?_
        refine ⟨_, rfl, ?_⟩
        exact err_read (fs := ["state"]) (by decide) rfl ((hno hix).same s1)
    · rintro σ H2 ⟨rfl, _, h2, v3, rfl⟩
      obtain ⟨ha, hb⟩ := h2 rfl
      rcases kk with ⟨z, _⟩ | ⟨_, z, _⟩ | ⟨a, b, rfl, rfl, a0, a1, b0, b1, kS, kN⟩
      · rw [ha] at z; cases z
      · rw [hb] at z; cases z
      · refine ⟨_, rfl, _, rfl, _, rfl, _, rfl, x, x, a, b, ws, rs, ss, st, rs, ss, st, rfl, mx1, mx1, px, px, a0, a1, b0, b1, fun u p H' hf hp sp ep => ?_, fun H' hn sp => ?_⟩
        · exact kS u p H' hf (s1.free hp) (s1.trans sp) ep
        · exact kN H' hn (s1.trans sp)
end
end K1
set_option Elab.async false
set_option linter.all false
set_option maxRecDepth 100000
set_option maxHeartbeats 4000000
/-! a tuple taken no time, or once: t * 0, t * 1 -/
namespace L2
open PySem PySem.Spec PyProof.Rows
theorem tuple_mul0 (l : Addr) (items : Array Value) (n : Nat) (dd : Option Addr) (sl : Array (Option Value)) (u : Tok) (hi : items.isEmpty = false) :
    Meets (Builtin.«tuple.__mul__» ⟨[.ref l, .int 0 u], []⟩) (fun _ R s => s.heap.get? l = some { cls := .type "tuple", dict := dd, data := .seq items n, slots := sl } ∧
      R (.ok (.ret (Value.ref s.heap.objs.size))) { s with heap := s.heap.push { cls := Value.type "tuple", data := Data.seq #[] }, toks := s.toks }) :=
  .of_wp fun prog w A R s h => by
    obtain ⟨hp, g, d, tk, os⟩ := s
    obtain ⟨hl, h⟩ := h
    have f1 := AutoSeq1.idx_int
    have c1 : (items.isEmpty || (0 : Int) == 1) = false := by rw [hi]; rfl
    wp_walk using wpAny_loadPart' hl
    repeat (first
      | (refine wpAny_ite_false (decide_eq_false (by decide)) ?_; wp_walk using wpAny_loadPart' hl)
      | (refine wpAny_ite_false (decide_eq_false (by rw [c1]; exact Bool.false_ne_true)) ?_; wp_walk using wpAny_loadPart' hl)
      | (refine wpAny_ite_true (decide_eq_true (by rfl)) ?_; wp_walk using wpAny_loadPart' hl))
    exact ⟨_, rfl, h⟩
theorem tuple_mul1 (l : Addr) (items : Array Value) (n : Nat) (dd : Option Addr) (sl : Array (Option Value)) (u : Tok) :
    Meets (Builtin.«tuple.__mul__» ⟨[.ref l, .int 1 u], []⟩) (fun _ R s => s.heap.get? l = some { cls := .type "tuple", dict := dd, data := .seq items n, slots := sl } ∧
      R (.ok (.ret (Value.ref l))) s) :=
  .of_wp fun prog w A R s h => by
    obtain ⟨hp, g, d, tk, os⟩ := s
    obtain ⟨hl, h⟩ := h
    have f1 := AutoSeq1.idx_int
    wp_walk using wpAny_loadPart' hl
    exact ⟨_, rfl, h⟩
def rRepA (K : PySem.W.Frag) : R2 := fun x y H Q => ∃ (l : Addr) (k : Nat) (xs : List V), x = .ref l ∧ y = .int (k : Int) ∧ SqT K H l xs ∧ xs ≠ [] ∧ k ≤ 1000 ∧ xs.length ≤ 1000 ∧ (k = 0 → ∀ p, H p = none → Q (.ref p) (upd H p (.tup []))) ∧ (k = 1 → Q (.ref l) H) ∧
  (2 ≤ k → ∀ p, H p = none → Q (.ref p) (upd H p (.tup (List.replicate k xs).flatten)))
section
variable {X : Cx}
theorem op_repA : OpR X (binaryOp .Mult) (rRepA X.K) := by
  intro pins s σ H x y v u Q I rx ry h
  obtain ⟨l, k, xs, rfl, rfl, hT, hne, h2, hz, q0, q1, q2⟩ := h
  by_cases hk : 2 ≤ k
  · exact op_repT pins s σ H (.ref l) (.int (k : Int)) v u Q I rx ry ⟨l, (k : Int), xs, rfl, rfl, hT, hne, by omega, by omega, hz, fun p hp => by rw [Int.toNat_natCast]; exact q2 hk p hp⟩
  cases rx
  obtain ⟨t, rfl⟩ := ry
  obtain ⟨its, r, ⟨⟨cls, dd, data, sl⟩, ho, hc, n, hd⟩, hs⟩ := I.tuple hT
  simp only at hc hd
  subst hc hd
  have hle : its.length = xs.length := r.length.symm
  have hn : its ≠ [] := fun e => hne (by
    rw [e] at hle
    exact List.eq_nil_of_length_eq_zero hle.symm)
  have hi : its.toArray.isEmpty = false := by
    cases its with
    | nil => exact absurd rfl hn
    | cons a b => rfl
  obtain rfl | rfl : k = 0 ∨ k = 1 := by omega
  · refine wpAny_binaryOp_repeat_ref (T := "tuple") (U := "int") (by decide) ⟨_, ho, rfl⟩ (fun s' => typeIs_int s' _ t) noFill_tuple_mul F.fills_int_mul F.slot_int_rmul repeat_tuple F.slot_int_index.lookup
      (call_meets F.slot_int_rmul (typeIs_int s _ t) F.entry_int_rmul (F.args_int_rmul_2 _ _) (int_rmul_tuple _ t l its.toArray n dd sl)
        ⟨ho, rfl, ⟨_, ho, rfl⟩, call_meets F.slot_tuple_mul ⟨_, ho, rfl⟩ F.entry_tuple_mul (F.args_tuple_mul_2 _ _) (tuple_mul0 l its.toArray n dd sl t hi) ⟨ho, ?_⟩⟩)
    refine ⟨.ref s.heap.objs.size, _, I.laid (t' := s.toks) (o := .tup []) (fun b ob q => Heap.get?_push_of_some _ q) (Nat.le_refl _) ?_, rfl, q0 rfl _ (I.hok.fresh (Nat.le_refl _))⟩
    exact ⟨Nat.zero_le _, [], .nil, IsTup.new _ _⟩
  · refine wpAny_binaryOp_repeat_ref (T := "tuple") (U := "int") (by decide) ⟨_, ho, rfl⟩ (fun s' => typeIs_int s' _ t) noFill_tuple_mul F.fills_int_mul F.slot_int_rmul repeat_tuple F.slot_int_index.lookup
      (call_meets F.slot_int_rmul (typeIs_int s _ t) F.entry_int_rmul (F.args_int_rmul_2 _ _) (int_rmul_tuple _ t l its.toArray n dd sl)
        ⟨ho, rfl, ⟨_, ho, rfl⟩, call_meets F.slot_tuple_mul ⟨_, ho, rfl⟩ F.entry_tuple_mul (F.args_tuple_mul_2 _ _) (tuple_mul1 l its.toArray n dd sl t) ⟨ho, ?_⟩⟩)
    exact ⟨.ref l, H, I, rfl, q1 rfl⟩
end
end L2
set_option Elab.async false
set_option linter.all false
set_option maxRecDepth 100000
/-! the law's own rows: named, led -/
namespace K1
open PySem L2
theorem PlainAt.same {H H' : Hp} {p : Addr} {ws : List Str} {rs : List (List Int)} {ss : List Str} {st : Int} (h : PlainAt H p ws rs ss st) (s : Same H H') : PlainAt H' p ws rs ss st := by
  obtain ⟨t, r, l, as, h1, h2, h3, h4, h5⟩ := h
  exact ⟨t, r, l, as, s _ _ h1, h2.same s, s _ _ h3, s _ _ h4, h5.same s⟩
abbrev sNamed : Stmt := top 45
theorem nm_mem {ws : List Str} {ks : List Int} (h : Ix ws.length ks) : ∀ z ∈ nm ws ks, z ∈ ws := fun z hz => by
  obtain ⟨k, hk, rfl⟩ := List.mem_map.mp hz
  obtain ⟨h0, h1⟩ := h k hk
  have hl : k.toNat < ws.length := by omega
  rw [List.getD_eq_getElem?_getD, List.getElem?_eq_getElem hl]
  exact List.getElem_mem hl
def spNamed (K : PySem.W.Frag) : Sp := fun vs H Q _ => ∃ (a r : Addr) (ws : List Str) (ks : List Int), vs = [.ref a, .ref r] ∧ SqL K H a (ws.map V.str) ∧ SqT K H r (ks.map V.int) ∧ Ix ws.length ks ∧ ks.length ≤ 100 ∧
  ∀ (p : Addr) (H' : Hp), H p = none → Same H H' → H' p = some (.tup ((nm ws ks).map V.str)) → Q (.ref p) H'
section
variable {P : Program} {w : World} {K : PySem.W.Frag} {mg : Str → Option Value} {base : Heap}
abbrev pNamed : List Str := ["_law_deeds", "_law_row"]
abbrev nNamed : List Str := ["_law_deeds", "_law_row", "_law_k"]
theorem scNamed : FnScope nNamed pNamed (defScope sNamed) := ⟨rfl, rfl, rfl, by decide +kernel, rfl, by decide +kernel, by decide +kernel⟩
theorem ok_named {f : Addr} {fd : FuncData} (D : Df K mg "_law_named" sNamed pNamed f fd) (T : Bt mg) : FnOk P w K mg base CX0 1 f fd pNamed (spNamed K) := by
  refine D.F.ok scNamed (fun vs H Q E h => ?_) (fun cdv A outer s H vs Q E hr h => ?_)
  · obtain ⟨a, r, ws, ks, rfl, _⟩ := h
    rfl
  · obtain ⟨a, r, ws, ks, rfl, ha, hR, hk, hl, k⟩ := h
    refine ⟨_, pss_one (ps_ret (pe_callTy (r := rTu K) call_tuple_of (by rfl) T.tuple PyProof.Rows.boot_tuple (pa_cons (pe_lc (own := [("_law_k", 2)]) (g := gName 2) (by rfl) scNamed.nd (pi_tup (pv 1))
        (blkOk_by (own := [("_law_k", 2)]) (N := nNamed) (sc := defScope sNamed) (by decide +kernel)) (fun _ _ _ _ _ => pg_name (i := 2) scNamed.nd rfl (Or.inl rfl)) (fun _ _ _ _ _ => pts_nil)
        (fun _ _ _ _ _ => pe_ix (r := rIxL K) ix_list (pv 0) (pv 2) (fun _ _ => rfl))) pa_nil))), ?_⟩
    refine ⟨_, rfl, r, rfl, ⟨_, hR⟩, fun D1 hD1 => ?_⟩
    refine lc_tup (K := K) (a := r) (xs := ks.map V.int) (fun i H' => Same H H' ∧ H' D1 = some (.lst ((nm ws (ks.take i)).map V.str))) ?_ ?_ ?_ ?_
    · exact ⟨same_upd hD1, upd_same⟩
    · exact fun i H' _ q => hR.ext q.1
    · rintro i y H1 hi ⟨sm, hD⟩
      rw [List.getElem?_map] at hi
      obtain ⟨j, ej, rfl⟩ := Option.map_eq_some_iff.mp hi
      obtain ⟨j0, j1⟩ := hk j (List.mem_of_getElem? ej)
      have hil : i < ks.length := (List.getElem?_eq_some_iff.mp ej).1
      refine ⟨rfl, _, rfl, _, rfl, a, _, j, _, rfl, rfl, sm.seq ha, at_deed j0 j1, _, hD, ?_, ?_, ?_⟩
      · rw [List.length_map, nm, List.length_map, List.length_take]; exact small1000 (by omega)
      · exact fun b u e => by rw [upd_ne (ne_of_none e hD1)]; exact sm b u e
      · have e : ks.take (i + 1) = ks.take i ++ [j] := by rw [List.take_add_one, ej]; rfl
        rw [upd_same, e, nm, nm, List.map_append, List.map_append]; rfl
    · rintro H1 ⟨sm, hD⟩
      rw [List.length_map, List.take_length] at hD
      refine ⟨D1, _, rfl, .inl ⟨SqL.of hD, fun p hp => ?_⟩⟩
      exact k p _ (sm.free hp) (sm.trans (same_upd hp)) upd_same
end
abbrev sLed : Stmt := top 48
section
variable {P : Program} {w : World} {K : PySem.W.Frag} {mg : Str → Option Value} {base : Heap}
def spLed (K : PySem.W.Frag) : Sp := fun vs H Q _ => ∃ (p q : Addr) (s0 : Int) (ws : List Str) (rs : List (List Int)) (ss : List Str) (st : Int) (ks : List Int), vs = [.ref p, .ref q, .int s0] ∧ PlainAt H p ws rs ss st ∧ Parts ws rs ss st ∧ SqT K H q (ks.map V.int) ∧ Ix ws.length ks ∧ 0 ≤ s0 ∧ s0 < (rs.length : Int) ∧
  ∀ H', Same H H' → Q (.int (led rs ks s0)) H'
abbrev pLed : List Str := ["_law_plain_here", "_law_row", "_law_spot"]
abbrev nLed : List Str := ["_law_plain_here", "_law_row", "_law_spot", "_law_k"]
theorem scLed : FnScope nLed pLed (defScope sLed) := ⟨rfl, rfl, rfl, by decide +kernel, rfl, by decide +kernel, by decide +kernel⟩
theorem ok_led {f : Addr} {fd : FuncData} (D : Df K mg "_law_led" sLed pLed f fd) : FnOk P w K mg base CX0 1 f fd pLed (spLed K) := by
  refine D.F.ok scLed (fun vs H Q E h => ?_) (fun cdv A outer s H vs Q E hr h => ?_)
  · obtain ⟨p, q, s0, ws, rs, ss, st, ks, rfl, _⟩ := h
    rfl
  · obtain ⟨p, q, s0, ws, rs, ss, st, ks, rfl, hp, pt, hq, hix, h0, h1, k⟩ := h
    have hu := hu_of hr
    refine ⟨_, pss_cons (ps_for PassesOwn.never rfl (pi_tup (pv 1)) (pg_name (i := 3) scLed.nd rfl (Or.inl rfl))
        (pss_one (ps_set (i := 2) scLed.nd rfl (Or.inl rfl) (pe_ix ix_list (pe_ix ix_list (pe_dget hu (pv 0) pe_str (fun _ _ => rfl)) (pv 2) (fun _ _ => rfl)) (pv 3) (fun _ _ => rfl)))))
      (pss_one (ps_ret (pv 2))), ?_⟩
    obtain ⟨t, r, l, as, ep, et, er, el, hR⟩ := id hp
    refine ⟨_, rfl, q, rfl, ⟨_, hq⟩, for_tup (K := K) (a := q) (xs := ks.map V.int) (fun i σ H' => Same H H' ∧ ∃ v3, σ = [some (.ref p), some (.ref q), some (.int (led rs (ks.take i) s0)), v3]) ⟨Same.refl H, none, rfl⟩ (fun i σ H' _ p => hq.ext p.1) ?_ ?_⟩
    · rintro i y σ H1 hi ⟨sm, v3, rfl⟩
      rw [List.getElem?_map] at hi
      obtain ⟨j, ej, rfl⟩ := Option.map_eq_some_iff.mp hi
      obtain ⟨j0, j1⟩ := hix j (List.mem_of_getElem? ej)
      have hl0 := pt.led (hix.take i) h0 h1
      obtain ⟨row, eq, hql, hst, hb0, hb1⟩ := pt.stp hl0.1 hl0.2 j0 j1
      have hlen : as.length = rs.length := hR.1
      obtain ⟨ra, era, eat⟩ := at_ref (as := as) hl0.1 (by rw [hlen]; exact hl0.2)
      have hra := sm _ _ (hR.2 _ _ _ era eq)
      refine ⟨_, rfl, p, _, rfl, gRows (sm _ _ ep), _, rfl, r, _, _, _, rfl, rfl, SqL.of (sm _ _ er), eat, _, rfl, ra, _, _, _, rfl, rfl, SqL.of hra, at_int j0 (by omega), sm, some (.int j), ?_⟩
      have e : ks.take (i + 1) = ks.take i ++ [j] := by rw [List.take_add_one, ej]; rfl
      rw [e, led_snoc, hst]
      rfl
    · rintro σ H1 ⟨sm, v3, rfl⟩
      rw [List.length_map, List.take_length]
      exact ⟨_, rfl, k H1 sm⟩
end
end K1
set_option Elab.async false
set_option linter.all false
set_option maxRecDepth 100000
/-! the law's own rows, in their order -/
namespace K1
open PySem L2 LamX
/-- tuple + tuple: some tuple -/
theorem catA_any {K : PySem.W.Frag} {H : Hp} {Q : VK} {a b : Addr} {xs ys : List V} (ha : SqT K H a xs) (hb : SqT K H b ys) (hz : xs.length + ys.length ≤ 1000) (k : ∀ p H', SqT K H' p (xs ++ ys) → Same H H' → Q (.ref p) H') : rCatA K (.ref a) (.ref b) H Q := by
  refine ⟨a, b, xs, ys, rfl, rfl, ha, hb, Nat.le_of_lt (small1000 hz), fun e => ?_, fun _ e => ?_, fun _ _ p hp => k p _ (SqT.of upd_same) (same_upd hp)⟩
  · exact k b H (by rw [e, List.nil_append]; exact hb) (Same.refl H)
  · exact k a H (by rw [e, List.append_nil]; exact ha) (Same.refl H)
theorem small2 {n : Nat} (h : n ≤ 900) : n ≤ sizeLine := Nat.le_of_lt (small1000 (by omega))
def toI (u : List Nat) : List Int := u.map fun (k : Nat) => (k : Int)
theorem toI_snoc (u : List Nat) (k : Nat) : toI (u ++ [k]) = toI u ++ [(k : Int)] := by simp [toI]
def RowsQ (K : PySem.W.Frag) (H : Hp) (as : List Addr) (us : List (List Nat)) : Prop := as.length = us.length ∧ ∀ (i : Nat) (a : Addr) (u : List Nat), as[i]? = some a → us[i]? = some u → SqT K H a ((toI u).map V.int)
theorem RowsQ.same {K : PySem.W.Frag} {H H' : Hp} {as : List Addr} {us : List (List Nat)} (h : RowsQ K H as us) (s : Same H H') : RowsQ K H' as us := ⟨h.1, fun i a u e1 e2 => (h.2 i a u e1 e2).ext s⟩
theorem RowsQ.updL {K : PySem.W.Frag} {H : Hp} {as : List Addr} {us : List (List Nat)} {D : Addr} {xs ys : List V} (h : RowsQ K H as us) (hD : H D = some (.lst xs)) : RowsQ K (upd H D (.lst ys)) as us := ⟨h.1, fun i a u e1 e2 => by
  rcases h.2 i a u e1 e2 with (z | ⟨o, z⟩) | z
  · exact .inl (.inl (by rw [upd_ne (ne_of z hD (by intro q; cases q))]; exact z))
  · exact .inl (.inr ⟨o, by rw [upd_ne (ne_of z hD (by intro q; cases q))]; exact z⟩)
  · exact .inr z⟩
theorem RowsQ.app {K : PySem.W.Frag} {H : Hp} {as bs : List Addr} {us vs : List (List Nat)} (h : RowsQ K H as us) (e : RowsQ K H bs vs) : RowsQ K H (as ++ bs) (us ++ vs) := by
  refine ⟨by simp [h.1, e.1], fun i b q e1 e2 => ?_⟩
  by_cases hi : i < as.length
  · rw [List.getElem?_append_left hi] at e1
    rw [List.getElem?_append_left (by rw [← h.1]; exact hi)] at e2
    exact h.2 i b q e1 e2
  · rw [List.getElem?_append_right (by omega)] at e1
    rw [List.getElem?_append_right (by rw [← h.1]; omega), ← h.1] at e2
    exact e.2 _ b q e1 e2
theorem RowsQ.one {K : PySem.W.Frag} {H : Hp} {a : Addr} {u : List Nat} (h : SqT K H a ((toI u).map V.int)) : RowsQ K H [a] [u] := ⟨rfl, fun i b q e1 e2 => by
  match i, e1, e2 with
  | 0, e1, e2 => cases e1; cases e2; exact h
  | _ + 1, e1, _ => simp at e1⟩
theorem allU_le (w : Nat) {n m : Nat} (h : n ≤ m) : (allU w n).length ≤ (allU w m).length := by
  obtain ⟨R, e⟩ := allU_pre w h
  rw [e, List.length_append]; omega
theorem allW_le (w : Nat) : ∀ n : Nat, (allW w n).length ≤ (allU w n).length
  | 0 => Nat.le_refl _
  | n + 1 => by rw [allU, List.length_append]; omega
abbrev sRowsL : Stmt := top 44
def spRowsL (K : PySem.W.Frag) : Sp := fun vs H Q _ => ∃ (w m : Nat), vs = [.int (w : Int), .int (m : Int)] ∧ w ≤ 6 ∧ m ≤ 100 ∧ (allU w m).length ≤ 900 ∧
  ∀ (p : Addr) (as : List Addr) (H' : Hp), H p = none → Same H H' → H' p = some (.lst (as.map V.ref)) → RowsQ K H' as (allU w m) → Q (.ref p) H'
section
variable {P : Program} {w : World} {K : PySem.W.Frag} {mg : Str → Option Value} {base : Heap}
abbrev pRowsL : List Str := ["_law_width", "_law_most"]
abbrev nRowsL : List Str := ["_law_width", "_law_most", "_law_layer", "_law_found", "_law_size", "_law_longer", "_law_row", "_law_k"]
theorem scRowsL : FnScope nRowsL pRowsL (defScope sRowsL) := ⟨rfl, rfl, rfl, by decide +kernel, rfl, by decide +kernel, by decide +kernel⟩
theorem ok_rowsl {f : Addr} {fd : FuncData} (D : Df K mg "_law_rows" sRowsL pRowsL f fd) (T : Bt mg) : FnOk P w K mg base CX0 1 f fd pRowsL (spRowsL K) := by
  refine D.F.ok scRowsL (fun vs H Q E h => ?_) (fun cdv A outer s H vs Q E hr h => ?_)
  · obtain ⟨w, m, rfl, _⟩ := h
    rfl
  · obtain ⟨w, m, rfl, w6, m100, hle, k⟩ := h
    refine ⟨_, pss_cons (ps_par (i := 2) (j := 3) (by rfl) scRowsL.nd rfl rfl (by decide) rfl rfl (pa_cons (pe_lst (pa_cons (pe_tup pa_nil) pa_nil)) (pa_cons (pe_lst (pa_cons (pe_tup pa_nil) pa_nil)) pa_nil)) (by rfl))
      (pss_cons (ps_for PassesOwn.never rfl (pi_range1 rfl T.range (pa_cons (pv 1) pa_nil)) (pg_name (i := 4) scRowsL.nd rfl (Or.inl rfl))
        (pss_cons (ps_set (i := 5) scRowsL.nd rfl (Or.inl rfl) (pe_lst pa_nil))
        (pss_cons (ps_for PassesOwn.never rfl (pi_list (pv 2)) (pg_name (i := 6) scRowsL.nd rfl (Or.inr rfl))
          (pss_one (ps_set (i := 5) scRowsL.nd rfl (Or.inl rfl) (pe_op op_cat (pv 5) (pe_lc (own := [("_law_k", 7)]) (g := gName 7) (by rfl) scRowsL.nd (pi_range1 rfl T.range (pa_cons (pv 0) pa_nil))
            (blkOk_by (own := [("_law_k", 7)]) (N := nRowsL) (sc := defScope sRowsL) (by decide +kernel)) (fun _ _ _ _ _ => pg_name (i := 7) scRowsL.nd rfl (Or.inl rfl)) (fun _ _ _ _ _ => pts_nil)
            (fun _ _ _ _ _ => pe_op (r := rCatA K) op_catA (pv 6) (pe_tup (pa_cons (pv 7) pa_nil))))))))
        (pss_one (ps_par (i := 2) (j := 3) (by rfl) scRowsL.nd rfl rfl (by decide) rfl rfl (pa_cons (pv 5) (pa_cons (pe_op op_cat (pv 3) (pv 5)) pa_nil)) (by rfl))))))
      (pss_one (ps_ret (pv 3)))), ?_⟩
    refine ⟨Nat.zero_le _, fun t1 ht1 => ⟨Nat.le_of_ble_eq_true rfl, fun l1 hl1 => ⟨Nat.zero_le _, fun t2 ht2 => ⟨Nat.le_of_ble_eq_true rfl, fun l2 hl2 => ?_⟩⟩⟩⟩
    have s1 := same_upd (o := .tup []) ht1
    have s2 := same_upd (o := .lst [V.ref t1]) hl1
    have s3 := same_upd (o := .tup []) ht2
    have s4 := same_upd (o := .lst [V.ref t2]) hl2
    have q1 := s4 _ _ (s3 _ _ (s2 _ _ (upd_same (H := H) (a := t1) (o := .tup []))))
    have q2 := s4 _ _ (s3 _ _ (upd_same (H := upd H t1 (.tup [])) (a := l1) (o := .lst [V.ref t1])))
    have q3 := s4 _ _ (upd_same (H := upd (upd H t1 (.tup [])) l1 (.lst [V.ref t1])) (a := t2) (o := .tup []))
    have q4 : upd (upd (upd (upd H t1 (.tup [])) l1 (.lst [V.ref t1])) t2 (.tup [])) l2 (.lst [V.ref t2]) l2 = some (.lst [V.ref t2]) := upd_same
    have s04 := ((s1.trans s2).trans s3).trans s4
    have z2 : H l2 = none := ((s1.trans s2).trans s3).free hl2
    generalize upd (upd (upd (upd H t1 (.tup [])) l1 (.lst [V.ref t1])) t2 (.tup [])) l2 (.lst [V.ref t2]) = H4 at s04 q1 q2 q3 q4 ⊢
    refine ⟨_, _, rfl, ?_⟩
    refine ⟨_, rfl, (m : Int), rfl, by omega, by omega, ?_⟩
    rw [Int.toNat_natCast]
    refine for_range (lo := 0) (n := m) (fun n σ H' => ∃ (la fo : Addr) (as bs : List Addr) (v4 v5 v6 : Option V), Same H H' ∧ H fo = none ∧ H' la = some (.lst (as.map V.ref)) ∧ RowsQ K H' as (allW w n) ∧ H' fo = some (.lst (bs.map V.ref)) ∧ RowsQ K H' bs (allU w n) ∧ σ = [some (.int (w : Int)), some (.int (m : Int)), some (.ref la), some (.ref fo), v4, v5, v6, none]) ?_ ?_ ?_
    · exact ⟨l1, l2, [t1], [t2], none, none, none, s04, z2, q2, .one (SqT.of q1), q4, .one (SqT.of q3), rfl⟩
    · rintro n σ H5 hn ⟨la, fo, as, bs, v4, v5, v6, s5, zf, hla, hA, hfo, hB, rfl⟩
      have hW : (allW w (n + 1)).length ≤ 900 := Nat.le_trans (Nat.le_trans (allW_le w _) (allU_le w (show n + 1 ≤ m by omega))) hle
      have hU : (allU w (n + 1)).length ≤ 900 := Nat.le_trans (allU_le w (show n + 1 ≤ m by omega)) hle
      refine ⟨Nat.zero_le _, fun lo hlo => ?_⟩
      have s6 := same_upd (o := .lst []) hlo
      have e6 : upd H5 lo (.lst []) lo = some (.lst []) := upd_same
      generalize upd H5 lo (.lst []) = H6 at s6 e6 ⊢
      have hla6 := s6 _ _ hla
      refine ⟨_, rfl, la, rfl, ⟨_, SqL.of hla6⟩, for_list (K := K) (a := la) (xs := as.map V.ref) (fun i σ H' => ∃ (lo : Addr) (cs : List Addr) (v6 : Option V), Same H6 H' ∧ H' lo = some (.lst (cs.map V.ref)) ∧ RowsQ K H' cs (exts w ((allW w n).take i)) ∧ σ = [some (.int (w : Int)), some (.int (m : Int)), some (.ref la), some (.ref fo), some (.int (0 + (n : Nat))), some (.ref lo), v6, none]) ?_ (fun i σ H' _ p => SqL.of (p.choose_spec.choose_spec.choose_spec.1 _ _ hla6)) ?_ ?_⟩
      · exact ⟨lo, [], v6, Same.refl H6, e6, ⟨rfl, fun i a u e => by simp at e⟩, rfl⟩
      · rintro i y σ H7 hi ⟨lo, cs, v6', s7, hlo7, hC, rfl⟩
        rw [List.getElem?_map] at hi
        obtain ⟨a, ea, rfl⟩ := Option.map_eq_some_iff.mp hi
        have hil : i < (allW w n).length := by rw [← hA.1]; exact (List.getElem?_eq_some_iff.mp ea).1
        have eu : (allW w n)[i]? = some (allW w n)[i] := List.getElem?_eq_getElem hil
        have etk : (allW w n).take (i + 1) = (allW w n).take i ++ [(allW w n)[i]] := by rw [List.take_add_one, eu]; rfl
        have hun : ((allW w n)[i]).length = n := ((allW_len w n _).mp (List.getElem_mem hil)).1
        have hrow := ((hA.2 i a _ ea eu).ext s6).ext s7
        have hcl : (exts w ((allW w n).take i)).length + w ≤ 900 := by
          have h1 : (allW w (n + 1)).length = w * (allW w n).length := exts_len w _
          have h2 : (exts w ((allW w n).take (i + 1))).length ≤ (allW w (n + 1)).length := by
            rw [exts_len, h1, List.length_take]
            exact Nat.mul_le_mul_left _ (Nat.min_le_right _ _)
          rw [etk, exts_app, List.length_append] at h2
          have h3 : (exts w [(allW w n)[i]]).length = w := by rw [exts_len]; simp
          omega
        generalize (allW w n)[i] = u at eu etk hun hrow
        refine ⟨_, rfl, _, rfl, (w : Int), rfl, by omega, by omega, fun D1 hD1 => ?_⟩
        rw [Int.toNat_natCast]
        refine lc_range (lo := 0) (n := w) (fun j H' => ∃ ds : List Addr, Same H7 H' ∧ H' D1 = some (.lst (ds.map V.ref)) ∧ RowsQ K H' ds ((ext w u).take j)) ?_ ?_ ?_
        · exact ⟨[], same_upd hD1, upd_same, ⟨rfl, fun i a u e => by simp at e⟩⟩
        · rintro j H8 hj ⟨ds, s8, hD8, hR8⟩
          have ej : ((0 : Int) + (j : Nat)) = ((j : Nat) : Int) := by omega
          refine ⟨rfl, _, rfl, _, rfl, Nat.le_of_ble_eq_true rfl, fun t ht => ?_⟩
          have s9 := same_upd (o := .tup [V.int (0 + (j : Nat))]) ht
          refine catA_any ((hrow.ext s8).ext s9) (SqT.of upd_same) ?_ fun t2 H10 ht2 s10 => ?_
          · rw [List.length_map, toI, List.length_map, hun]; simp; omega
          have s810 := s9.trans s10
          have hD10 := s810 _ _ hD8
          refine ⟨_, hD10, ?_, ds ++ [t2], ?_, ?_, ?_⟩
          · rw [List.length_map, hR8.1, List.length_take]; exact small1000 (by omega)
          · exact fun b o e => by rw [upd_ne (ne_of_none e hD1)]; exact s810 _ _ (s8 b o e)
          · rw [upd_same, List.map_append]; rfl
          · rw [ext_take u hj]
            refine ((hR8.same s810).app (.one ?_)).updL hD10
            rw [toI_snoc, List.map_append, ← ej]
            exact ht2
        · rintro H8 ⟨ds, s8, hD8, hR8⟩
          rw [ext_all] at hR8
          have hC8 := hC.same s8
          refine ⟨lo, D1, _, _, rfl, rfl, s8 _ _ hlo7, hD8, ?_, fun lo2 hlo2 => ?_⟩
          · rw [List.length_map, List.length_map, hC8.1, hR8.1]
            have : (ext w u).length = w := by simp [ext]
            exact small2 (by omega)
          have s9 := same_upd (o := .lst (cs.map V.ref ++ ds.map V.ref)) hlo2
          refine ⟨lo2, cs ++ ds, _, (s7.trans s8).trans s9, by rw [upd_same, List.map_append], ?_, rfl⟩
          have e1 : exts w ((allW w n).take (i + 1)) = exts w ((allW w n).take i) ++ ext w u := by rw [etk, exts_app]; simp [exts]
          rw [e1]
          exact (hC8.app hR8).same s9
      · rintro σ H7 ⟨lo, cs, v6', s7, hlo7, hC, rfl⟩
        rw [List.length_map, hA.1, List.take_length] at hC
        have s67 := s6.trans s7
        have hfo7 := s67 _ _ hfo
        have hB7 := hB.same s67
        refine ⟨_, rfl, _, rfl, _, rfl, fo, lo, _, _, rfl, rfl, hfo7, hlo7, ?_, fun fo2 hfo2 => ?_⟩
        · rw [List.length_map, List.length_map, hB7.1, hC.1]
          rw [allU, List.length_append] at hU
          exact small2 hU
        have s8 := same_upd (o := .lst (bs.map V.ref ++ cs.map V.ref)) hfo2
        refine ⟨_, _, rfl, lo, fo2, cs, bs ++ cs, _, _, _, (s5.trans s67).trans s8, (s5.trans s67).free hfo2, s8 _ _ hlo7, hC.same s8, by rw [upd_same, List.map_append], (hB7.app hC).same s8, rfl⟩
    · rintro σ H5 ⟨la, fo, as, bs, v4, v5, v6, s5, zf, hla, hA, hfo, hB, rfl⟩
      exact ⟨_, rfl, k fo bs H5 zf s5 hfo hB⟩
end
end K1
set_option Elab.async false
set_option linter.all false
set_option maxRecDepth 100000
/-! the law's own first row that parts two states; what is refused -/
namespace L2
open PySem PySem.Spec PyProof.Rows
section
variable {X : Cx} {CX : CXT} {k : Nat} {f C : Addr} {fd : FuncData} {ps : List Str} {sp : Sp} {E : St → XK} {x m : Str} {p pos apos : Pos} {e o : Expr} {es : List Expr} {ta : TE} {t : TA}
/-- o.m(e, ..) that may raise, inside a try -/
def tMethE (C : Addr) (m : Str) (sp : Sp) (E : St → XK) (ta : TE) (t : TA) : TE := fun σ H Q => ta σ H fun x H1 => ∃ a dx fs, x = .ref a ∧ H1 a = some (.ins C dx fs) ∧ fs.lookup m = none ∧ t σ H1 fun vs H2 => sp (.ref a :: vs) H2 Q (E σ)
theorem pe_methE {pl : Sem Bool} (he : PE X o ta) (c : Cls X.K C) (hm : Meth X.K C m f) (F : FnOk X.prog X.w X.K X.mg X.base CX k f fd ps sp) (hr : Room k X.A) (hb : Binds X.K fd ps []) (hx : ∀ σ, PassesAt CX X σ (E σ)) (ha : PA X (e :: es) t)
    (hst : starEach (e :: es) X.env = (false, eval e X.env) :: starEach es X.env := by rfl) (hpl : (backTo pos (starEach es X.env)).any (·.1) = false := by rfl)
    (ht : eval (.Call (.Attribute o m apos) (e :: es) [] pos) X.env = (do
      let ov ← eval o X.env
      standAt apos.atName
      let (f, first) ← holding [ov] (getMethod ov m pl)
      callWith pos f first (backTo pos (starEach (e :: es) X.env)) (backToKw pos (keywordEach [] X.env))) := by rfl) :
    PE X (.Call (.Attribute o m apos) (e :: es) [] pos) (tMethE C m sp E ta t) := by
  refine ⟨fun pins s σ H Q I h => ?_⟩
  refine PySem.W.methodCall_KW (pl := pl) (thn (he.run pins s σ H _ I h) fun u s1 ⟨x, H1, I1, rx, a, dx, fs, ex, ea, l, q⟩ => ?_) ht
  subst ex
  obtain rfl : u = Value.ref a := rx
  refine getmeth_ok I1 ea c hm l ?_
  refine PySem.W.callWith_K (first := [.ref a]) (h₀ := X.base) I.ok.mod.kin hm.kp (thn (ha.run pos pins s1 σ H1 _ I1 q) fun us s2 ⟨vs, H2, I2, r, q2⟩ => ⟨I2.kIn, ?_⟩) hst hpl
  exact run_fnS (us := .ref a :: us) (vs := .ref a :: vs) F hr hb (hx σ) I2 (.cons rfl r) q2
end
end L2
namespace K1
open PySem L2 LamX
theorem run_led (rs : List (List Int)) (a b : Int) (u : List Nat) : runT [rs, rs] [a, b] u = [led rs (toI u) a, led rs (toI u) b] := by
  show u.foldl (fun s k => stepT [rs, rs] k s) [a, b] = _
  induction u generalizing a b with
  | nil => rfl
  | cons k u ih =>
    show u.foldl _ (stepT [rs, rs] k [a, b]) = [led rs (toI u) (stp rs a (k : Int)), led rs (toI u) (stp rs b (k : Int))]
    rw [← ih]; rfl
theorem ix_toI {w : Nat} {u : List Nat} (h : ∀ k ∈ u, k < w) : Ix w (toI u) := fun j hj => by
  obtain ⟨k, hk, rfl⟩ := List.mem_map.mp hj
  have := h k hk
  omega
theorem nm_toI (ws : List Str) (u : List Nat) : (nm ws (toI u)).map V.str = names ws u := by
  simp [nm, toI, names]
abbrev sParts : Stmt := top 49
abbrev sRefA : Stmt := top 50
def spParts (K : PySem.W.Frag) : Sp := fun vs H Q _ => ∃ (p : Addr) (a b : Int) (ws : List Str) (rs : List (List Int)) (ss : List Str) (st : Int), vs = [.ref p, .int a, .int b] ∧ PlainAt H p ws rs ss st ∧ Parts ws rs ss st ∧ 0 ≤ a ∧ a < (rs.length : Int) ∧ 0 ≤ b ∧ b < (rs.length : Int) ∧ (allU ws.length (rs.length - 1)).length ≤ 900 ∧
  (∀ u q H', (allU ws.length (rs.length - 1)).find? (fun v => dif ss ss (runT [rs, rs] [a, b] v)) = some u → Same H H' → SqT K H' q ((toI u).map V.int) → Q (.ref q) H') ∧
  (∀ H', (allU ws.length (rs.length - 1)).find? (fun v => dif ss ss (runT [rs, rs] [a, b] v)) = none → Same H H' → Q .non H')
section
variable {P : Program} {w : World} {K : PySem.W.Frag} {mg : Str → Option Value} {base : Heap}
abbrev pParts : List Str := ["_law_plain_here", "_law_a", "_law_b"]
abbrev nParts : List Str := ["_law_plain_here", "_law_a", "_law_b", "_law_row"]
theorem scParts : FnScope nParts pParts (defScope sParts) := ⟨rfl, rfl, rfl, by decide +kernel, rfl, by decide +kernel, by decide +kernel⟩
theorem ok_parts {f fR fL : Addr} {fd fdR fdL : FuncData} (D : Df K mg "_law_parts" sParts pParts f fd) (DR : Df K mg "_law_rows" sRowsL pRowsL fR fdR) (DL : Df K mg "_law_led" sLed pLed fL fdL) (T : Bt mg) : FnOk P w K mg base CX0 2 f fd pParts (spParts K) := by
  have GR : FnOk P w K mg base CX0 1 fR fdR pRowsL (spRowsL K) := ok_rowsl DR T
  have GL : FnOk P w K mg base CX0 1 fL fdL pLed (spLed K) := ok_led DL
  refine D.F.ok scParts (fun vs H Q E h => ?_) (fun cdv A outer s H vs Q E hr h => ?_)
  · obtain ⟨p, a, b, ws, rs, ss, st, rfl, _⟩ := h
    rfl
  · obtain ⟨p, a, b, ws, rs, ss, st, rfl, hp, pt, a0, a1, b0, b1, hle, kS, kN⟩ := h
    have hu := hu_of hr
    have w6 := pt.gd.len.2
    have r60 := pt.many
    refine ⟨_, pss_cons (ps_for PassesOwn.never rfl (pi_list (pe_call GR hr rfl DR.g DR.F.kp DR.b .nil pass0 (pa_cons (pe_callB call_len (by rfl) T.len PySem.boot_len (pa_cons (pe_dget hu (pv 0) pe_str (fun _ _ => rfl)) pa_nil))
          (pa_cons (pe_op op_sub (pe_callB call_len (by rfl) T.len PySem.boot_len (pa_cons (pe_dget hu (pv 0) pe_str (fun _ _ => rfl)) pa_nil)) pe_int) pa_nil)))) (pg_name (i := 3) scParts.nd rfl (Or.inl rfl))
        (pss_one (ps_if (pt_cmpR op_ne (pe_ix ix_list (pe_dget hu (pv 0) pe_str (fun _ _ => rfl)) (pe_call GL hr rfl DL.g DL.F.kp DL.b .nil pass0 (pa_cons (pv 0) (pa_cons (pv 3) (pa_cons (pv 1) pa_nil)))) (fun _ _ => rfl))
            (pe_ix ix_list (pe_dget hu (pv 0) pe_str (fun _ _ => rfl)) (pe_call GL hr rfl DL.g DL.F.kp DL.b .nil pass0 (pa_cons (pv 0) (pa_cons (pv 3) (pa_cons (pv 2) pa_nil)))) (fun _ _ => rfl)) (nomark _))
          (pss_one (ps_ret (pv 3))) pss_nil)))
      (pss_one (ps_ret pe_non)), ?_⟩
    obtain ⟨t, r, l, as, ep, et, er, el, hR⟩ := id hp
    refine ⟨_, rfl, p, _, rfl, gDeeds ep, _, ws.length, rfl, .inr ⟨_, et.sq, (List.length_map _).symm⟩, _, rfl, p, _, rfl, gRows ep, _, rs.length, rfl, .inl ⟨_, SqL.of er, by rw [List.length_map, hR.1]⟩, _, _, rfl, rfl, ?_⟩
    refine ⟨ws.length, rs.length - 1, by show [V.int ((ws.length : Nat) : Int), V.int (((rs.length : Nat) : Int) - 1)] = _; rw [show ((rs.length : Nat) : Int) - 1 = ((rs.length - 1 : Nat) : Int) by omega], w6, by omega, hle, fun lq aq H1 hlq s1 elq hRq => ?_⟩
    refine ⟨lq, rfl, ⟨_, SqL.of elq⟩, ?_⟩
    have hall := allU_mem ws.length (rs.length - 1)
    generalize allU ws.length (rs.length - 1) = us at hRq hall kS kN
    refine for_list (K := K) (a := lq) (xs := aq.map V.ref) (fun i σ H' => Same H1 H' ∧ (us.take i).find? (fun v => dif ss ss (runT [rs, rs] [a, b] v)) = none ∧ ∃ v3, σ = [some (.ref p), some (.int a), some (.int b), v3]) ⟨Same.refl H1, by rw [List.take_zero]; rfl, none, rfl⟩ (fun i σ H' _ q => SqL.of (q.1 _ _ elq)) ?_ ?_
    · rintro i y σ H2 hi ⟨s2, hf, v3, rfl⟩
      rw [List.getElem?_map] at hi
      obtain ⟨q, eq, rfl⟩ := Option.map_eq_some_iff.mp hi
      have hil : i < us.length := by rw [← hRq.1]; exact (List.getElem?_eq_some_iff.mp eq).1
      have eu : us[i]? = some us[i] := List.getElem?_eq_getElem hil
      have hm := (hall _).mp (List.getElem_mem hil)
      have etk : us.take (i + 1) = us.take i ++ [us[i]] := by rw [List.take_add_one, eu]; rfl
      have edr : us = us.take i ++ us[i] :: us.drop (i + 1) := by rw [← List.drop_eq_getElem_cons hil, List.take_append_drop]
      generalize us[i] = u at eu hm etk edr
      have hq := (hRq.2 i q u eq eu).ext s2
      have hix := ix_toI hm.2
      have s02 := s1.trans s2
      have e1 := pt.led hix a0 a1
      have e2 := pt.led hix b0 b1
      have edif : dif ss ss (runT [rs, rs] [a, b] u) = decide (ss.getD (led rs (toI u) a).toNat "" ≠ ss.getD (led rs (toI u) b).toNat "") := by rw [run_led]; rfl
      refine ⟨_, rfl, p, _, rfl, gTells (s02 _ _ ep), ?_⟩
      refine ⟨_, rfl, _, rfl, _, rfl, p, q, a, ws, rs, ss, st, toI u, rfl, hp.same s02, pt, hq, hix, a0, a1, fun H3 s3 => ?_⟩
      have s03 := s02.trans s3
      refine ⟨l, _, _, _, rfl, rfl, SqL.of (s03 _ _ el), at_deed e1.1 (by rw [pt.tl.1]; exact e1.2), ?_⟩
      refine ⟨_, rfl, p, _, rfl, gTells (s03 _ _ ep), ?_⟩
      refine ⟨_, rfl, _, rfl, _, rfl, p, q, b, ws, rs, ss, st, toI u, rfl, hp.same s03, pt, hq.ext s3, hix, b0, b1, fun H4 s4 => ?_⟩
      have s04 := s03.trans s4
      refine ⟨l, _, _, _, rfl, rfl, SqL.of (s04 _ _ el), at_deed e2.1 (by rw [pt.tl.1]; exact e2.2), rfl, _, rfl, ?_⟩
      refine ite2 (fun hd => ?_) (fun hd => ?_)
      · have hdt : dif ss ss (runT [rs, rs] [a, b] u) = true := by
          rw [edif]
          refine decide_eq_true fun z => ?_
          rw [z] at hd
          simp at hd
        refine ⟨_, rfl, kS u q H4 ?_ s04 ((hq.ext s3).ext s4)⟩
        rw [edr, List.find?_append, hf, List.find?_cons, hdt]; rfl
      · have hdf : dif ss ss (runT [rs, rs] [a, b] u) = false := by
          rw [edif]
          refine decide_eq_false fun z => hd ?_
          rw [decide_eq_false (fun e' => z (by injection e'))]; rfl
        exact ⟨(s2.trans s3).trans s4, by rw [etk, List.find?_append, hf, List.find?_cons, hdf]; rfl, _, rfl⟩
    · rintro σ H2 ⟨s2, hf, v3, rfl⟩
      rw [List.length_map, hRq.1, List.take_length] at hf
      exact kN H2 hf (s1.trans s2)
/-! what is refused -/
def spRefA (K : PySem.W.Frag) (C : Addr) : Sp := fun vs H Q _ => ∃ (x : Addr) (va vb : V) (ta tb : String) (ws : List Str) (rs : List (List Int)) (ss : List Str) (st : Int),
  vs = [.ref x, va, vb] ∧ MachAt K C H x ws rs ss st ∧ Parts ws rs ss st ∧ ThP K H va ta ∧ ThP K H vb tb ∧
  ((ixB va rs.length = false ∧ reprOk va ∧ ∀ p H', Same H H' → H p = none → H' p = some (.tup [.str "state", .str (reprV va)]) → Q (.ref p) H') ∨
   (ixB va rs.length = true ∧ ixB vb rs.length = false ∧ reprOk vb ∧ ∀ p H', Same H H' → H p = none → H' p = some (.tup [.str "state", .str (reprV vb)]) → Q (.ref p) H') ∨
   (∃ a b : Int, va = .int a ∧ vb = .int b ∧ 0 ≤ a ∧ a < (rs.length : Int) ∧ 0 ≤ b ∧ b < (rs.length : Int) ∧ ∀ H', Same H H' → Q .non H'))
abbrev pRefA : List Str := ["_law_made_here", "_law_a", "_law_b"]
abbrev nRefA : List Str := ["_law_made_here", "_law_a", "_law_b", "e"]
theorem scRefA : FnScope nRefA pRefA (defScope sRefA) := ⟨rfl, rfl, rfl, by decide +kernel, rfl, by decide +kernel, by decide +kernel⟩
theorem ok_refa {C CB CL f fA fB : Addr} {fd fdA fdB : FuncData} (D : Df K mg "_law_refused" sRefA pRefA f fd) (M : Tm K mg C) (MA : Meth K C "apart" fA) (bA : Binds K fdA pMA []) (GA : FnOk P w K mg base (L2.CX P w) 3 fA fdA pMA (spApart K C CB))
    (OB : OBadState K mg CB fB fdB) (eBB : PySem.W.exmOne K (.ref CB) (.ref CB) = some true) (hL : mg "LooksError" = some (.ref CL)) (hrp : mg "repr" = none) : FnOk P w K mg base CX0 4 f fd pRefA (spRefA K C) := by
  refine D.F.ok scRefA (fun vs H Q E h => ?_) (fun cdv A outer s H vs Q E hr h => ?_)
  · obtain ⟨x, va, vb, ta, tb, ws, rs, ss, st, rfl, _⟩ := h
    rfl
  · obtain ⟨x, va, vb, ta, tb, ws, rs, ss, st, rfl, mx, pt, hta, htb, kk⟩ := h
    obtain ⟨dx, tx, rx, lx, asx, gx1, _⟩ := id mx
    refine ⟨_, pss_cons (ps_try_asAll (i := 3) rfl rfl scRefA.nd rfl rfl L2.takes0
        (fun W pn xe tk _ => pss_one (ps_expr (L2.pe_methE (pv 0) M.cl MA GA hr bA (fun σ => passAt tk σ) (pa_cons (pv 1) (pa_cons (pv 2) pa_nil)))))
        (.cons (x := "BadState") ⟨rfl, by decide, .inl OB.g⟩ (fun a oe cl dd pn hz hf => pss_one (ps_ret (pe_tup (pa_cons pe_str (pa_cons (pe_callB call_repr_any (by rfl) hrp PyProof.Rows.boot_repr (pa_cons (pe_xf OB.xf (OB.no "state" (by simp)) hz hf (pv 3)) pa_nil)) pa_nil)))))
          (.cons (x := "LooksError") ⟨rfl, by decide, .inl hL⟩ (fun a oe cl dd pn hz hf => pss_one (ps_ret (pe_tup (pa_cons pe_str pa_nil)))) .nil)))
      (pss_one (ps_ret pe_non)), ?_⟩
    refine ⟨_, rfl, x, dx, _, rfl, gx1, mf_no _ _ _ _ (by decide +kernel) (by decide +kernel) (by decide +kernel) (by decide +kernel), _, rfl, _, rfl, x, va, vb, ta, tb, ws, rs, ss, st, rfl, mx, pt, hta, htb, ?_⟩
    rcases kk with ⟨z, rv, kv⟩ | ⟨z1, z, rv, kv⟩ | ⟨a, b, rfl, rfl, a0, a1, b0, b1, kv⟩
    · refine .inl ⟨z, fun d G sG hd eG => ?_⟩
      refine ⟨true, eBB, fun _ e he => ?_, fun q => nomatch q⟩
      refine ⟨_, rfl, rfl, rfl, d, _, va, rfl, eG, rfl, va, rfl, rv, Nat.le_of_ble_eq_true rfl, fun p hp => ?_⟩
      exact kv p _ (sG.trans (same_upd hp)) (sG.free hp) upd_same
    · refine .inr (.inl ⟨z1, z, fun d G sG hd eG => ?_⟩)
      refine ⟨true, eBB, fun _ e he => ?_, fun q => nomatch q⟩
      refine ⟨_, rfl, rfl, rfl, d, _, vb, rfl, eG, rfl, vb, rfl, rv, Nat.le_of_ble_eq_true rfl, fun p hp => ?_⟩
      exact kv p _ (sG.trans (same_upd hp)) (sG.free hp) upd_same
    · exact .inr (.inr ⟨a, b, rfl, rfl, a0, a1, b0, b1, fun u p H' _ hp s1 _ => kv H' s1, fun H' _ s1 => kv H' s1⟩)
end
end K1
set_option Elab.async false
set_option linter.all false
set_option maxRecDepth 100000
/-! how long the first row that parts two states is at most; what the two searches find -/
namespace K1
open PySem L2 LamX
section
variable (w : Nat) (rs : List (List Int)) (ss : List Str)
def ld (v : List Nat) (x : Int) : Int := led rs (toI v) x
def Tb (x y : Int) : Prop := ss.getD x.toNat "" ≠ ss.getD y.toNat ""
/-- some word of at most k letters tells them apart -/
def Sp' (k : Nat) (x y : Int) : Prop := ∃ v : List Nat, v.length ≤ k ∧ (∀ j ∈ v, j < w) ∧ Tb ss (ld rs v x) (ld rs v y)
variable {w rs ss}
theorem ld_app (u v : List Nat) (x : Int) : ld rs (u ++ v) x = ld rs v (ld rs u x) := by
  unfold ld led toI
  rw [List.map_append, List.foldl_append]
theorem Sp'.mono {k j : Nat} {x y : Int} (h : Sp' w rs ss k x y) (e : k ≤ j) : Sp' w rs ss j x y := by
  obtain ⟨v, h1, h2⟩ := h
  exact ⟨v, by omega, h2⟩
theorem Sp'.symm {k : Nat} {x y : Int} (h : Sp' w rs ss k x y) : Sp' w rs ss k y x := by
  obtain ⟨v, h1, h2, h3⟩ := h
  exact ⟨v, h1, h2, h3.symm⟩
theorem Sp'.irr {k : Nat} {x : Int} (h : Sp' w rs ss k x x) : False := by
  obtain ⟨v, _, _, h⟩ := h
  exact h rfl
theorem Sp'.split {k : Nat} {x z : Int} (y : Int) (h : Sp' w rs ss k x z) : Sp' w rs ss k x y ∨ Sp' w rs ss k y z := by
  obtain ⟨v, h1, h2, h3⟩ := h
  by_cases e : ss.getD (ld rs v x).toNat "" = ss.getD (ld rs v y).toNat ""
  · exact .inr ⟨v, h1, h2, fun z => h3 (e.trans z)⟩
  · exact .inl ⟨v, h1, h2, e⟩
theorem pair_of {α : Type} {R : α → α → Prop} (hs : ∀ a b, R a b → R b a) : ∀ {L : List α}, L.Pairwise R → ∀ {x y : α}, x ∈ L → y ∈ L → x ≠ y → R x y
  | [], _, _, _, h, _, _ => nomatch h
  | a :: L, h, x, y, hx, hy, hn => by
    rw [List.pairwise_cons] at h
    rcases List.mem_cons.mp hx with ex | hx'
    · rcases List.mem_cons.mp hy with ey | hy'
      · exact absurd (ex.trans ey.symm) hn
      · rw [ex]; exact h.1 y hy'
    · rcases List.mem_cons.mp hy with ey | hy'
      · rw [ey]; exact hs _ _ (h.1 x hx')
      · exact pair_of hs h.2 hx' hy' hn
open Classical in
/-- as many states as letters and two, told apart by pairs -/
theorem many_of {n : Nat} (ok : ∀ v : List Nat, (∀ j ∈ v, j < w) → ∀ x : Int, 0 ≤ x → x < (n : Int) → 0 ≤ ld rs v x ∧ ld rs v x < (n : Int)) {a b : Int} (a0 : 0 ≤ a) (a1 : a < (n : Int)) (b0 : 0 ≤ b) (b1 : b < (n : Int)) {u : List Nat} (hu : ∀ j ∈ u, j < w) (ht : Tb ss (ld rs u a) (ld rs u b))
    (hmin : ∀ v : List Nat, (∀ j ∈ v, j < w) → v.length < u.length → ¬ Tb ss (ld rs v a) (ld rs v b)) : ∀ j, j ≤ u.length → ∃ L : List Int, L.Pairwise (Sp' w rs ss j) ∧ L.length = j + 2 ∧ ∀ x ∈ L, 0 ≤ x ∧ x < (n : Int) := by
  have key : ∀ j, j ≤ u.length → ∃ x y : Int, (0 ≤ x ∧ x < (n : Int)) ∧ (0 ≤ y ∧ y < (n : Int)) ∧ Sp' w rs ss j x y ∧ ∀ i, i < j → ¬ Sp' w rs ss i x y := fun j hj => by
    have ht' : ∀ k ∈ u.take (u.length - j), k < w := fun k hk => hu k (List.mem_of_mem_take hk)
    have hd' : ∀ k ∈ u.drop (u.length - j), k < w := fun k hk => hu k (List.mem_of_mem_drop hk)
    refine ⟨ld rs (u.take (u.length - j)) a, ld rs (u.take (u.length - j)) b, ok _ ht' a a0 a1, ok _ ht' b b0 b1, ⟨u.drop (u.length - j), by rw [List.length_drop]; omega, hd', ?_⟩, fun i hi hs => ?_⟩
    · rw [← ld_app, ← ld_app, List.take_append_drop]; exact ht
    · obtain ⟨v, h1, h2, h3⟩ := hs
      refine hmin (u.take (u.length - j) ++ v) (fun k hk => ?_) (by rw [List.length_append, List.length_take]; omega) (by rw [ld_app, ld_app]; exact h3)
      rcases List.mem_append.mp hk with h | h
      · exact ht' k h
      · exact h2 k h
  intro j
  induction j with
  | zero =>
    intro hj
    obtain ⟨x, y, hx, hy, hs, _⟩ := key 0 hj
    refine ⟨[x, y], by simp [hs], rfl, fun z hz => ?_⟩
    simp only [List.mem_cons, List.not_mem_nil, or_false] at hz
    rcases hz with rfl | rfl
    · exact hx
    · exact hy
  | succ j ih =>
    intro hj
    obtain ⟨L, hp, hl, hr⟩ := ih (by omega)
    obtain ⟨x, y, hx, hy, hs, hn⟩ := key (j + 1) hj
    have hp' : L.Pairwise (Sp' w rs ss (j + 1)) := hp.imp fun z => z.mono (by omega)
    have add : ∀ z : Int, (0 ≤ z ∧ z < (n : Int)) → (∀ q ∈ L, Sp' w rs ss (j + 1) q z) → ∃ L : List Int, L.Pairwise (Sp' w rs ss (j + 1)) ∧ L.length = j + 1 + 2 ∧ ∀ x ∈ L, 0 ≤ x ∧ x < (n : Int) := fun z hz hq => by
      refine ⟨L ++ [z], List.pairwise_append.mpr ⟨hp', by simp, fun q hq' z' hz' => by rw [List.mem_singleton.mp hz']; exact hq q hq'⟩, by rw [List.length_append, hl]; rfl, fun q hq' => ?_⟩
      rcases List.mem_append.mp hq' with h | h
      · exact hr q h
      · rw [List.mem_singleton.mp h]; exact hz
    by_cases hall : ∀ q ∈ L, Sp' w rs ss (j + 1) q x
    · exact add x hx hall
    · obtain ⟨z, hz, hzx⟩ : ∃ z ∈ L, ¬ Sp' w rs ss (j + 1) z x := by
        refine Classical.byContradiction fun h => hall fun q hq => Classical.byContradiction fun h' => h ⟨q, hq, h'⟩
      refine add y hy fun q hq => ?_
      by_cases e : q = z
      · subst e
        rcases hs.split q with h | h
        · exact absurd h.symm hzx
        · exact h
      · have h1 := pair_of (fun _ _ z => Sp'.symm z) hp hq hz e
        rcases h1.split y with h | h
        · exact h.mono (by omega)
        · exfalso
          rcases h.split x with h | h
          · exact hn j (by omega) h.symm
          · exact hzx (h.mono (by omega)).symm
theorem first_short {n : Nat} (ok : ∀ v : List Nat, (∀ j ∈ v, j < w) → ∀ x : Int, 0 ≤ x → x < (n : Int) → 0 ≤ ld rs v x ∧ ld rs v x < (n : Int)) {a b : Int} (a0 : 0 ≤ a) (a1 : a < (n : Int)) (b0 : 0 ≤ b) (b1 : b < (n : Int)) {u : List Nat} (hu : ∀ j ∈ u, j < w) (ht : Tb ss (ld rs u a) (ld rs u b))
    (hmin : ∀ v : List Nat, (∀ j ∈ v, j < w) → v.length < u.length → ¬ Tb ss (ld rs v a) (ld rs v b)) : u.length + 2 ≤ n := by
  obtain ⟨L, hp, hl, hr⟩ := many_of ok a0 a1 b0 b1 hu ht hmin u.length (Nat.le_refl _)
  rw [← hl]
  have hnd : (L.map Int.toNat).Nodup := by
    unfold List.Nodup
    rw [List.pairwise_map]
    refine List.Pairwise.imp_of_mem (fun {x y} hx hy hs e => ?_) hp
    obtain ⟨x0, _⟩ := hr x hx
    obtain ⟨y0, _⟩ := hr y hy
    have : x = y := by omega
    rw [this] at hs
    exact hs.irr
  have := nodup_sub_len (L.map Int.toNat) (List.range n) hnd fun x hx => by
    obtain ⟨z, hz, rfl⟩ := List.mem_map.mp hx
    obtain ⟨z0, z1⟩ := hr z hz
    exact List.mem_range.mpr (by omega)
  rwa [List.length_map, List.length_range] at this
end
theorem dif_ld (rs : List (List Int)) (ss : List Str) (a b : Int) (u : List Nat) : dif ss ss (runT [rs, rs] [a, b] u) = true ↔ Tb ss (ld rs u a) (ld rs u b) := by
  rw [run_led]
  exact decide_eq_true_iff
theorem find_len {w n : Nat} {p : List Nat → Bool} {u : List Nat} (h : (allU w n).find? p = some u) : u.length ≤ n ∧ (∀ j ∈ u, j < w) ∧ p u = true := by
  have h1 := (allU_mem w n u).mp (List.mem_of_find?_eq_some h)
  exact ⟨h1.1, h1.2, List.find?_some h⟩
/-- two searches, one of all words of as many letters as states and one less -/
theorem first_find {ws : List Str} {rs : List (List Int)} {ss : List Str} {st : Int} (pt : Parts ws rs ss st) {a b : Int} (a0 : 0 ≤ a) (a1 : a < (rs.length : Int)) (b0 : 0 ≤ b) (b1 : b < (rs.length : Int)) {u : List Nat} (h : FirstW ws.length (runT [rs, rs] [a, b]) ss ss u) :
    (allU ws.length (rs.length - 1)).find? (fun v => dif ss ss (runT [rs, rs] [a, b] v)) = some u := by
  have h' : (allU ws.length u.length).find? (fun v => dif ss ss (runT [rs, rs] [a, b] v)) = some u := h
  obtain ⟨_, hl, hp⟩ := find_len h'
  have hmin : ∀ v : List Nat, (∀ j ∈ v, j < ws.length) → v.length < u.length → ¬ Tb ss (ld rs v a) (ld rs v b) := fun v hv hlt ht => by
    obtain ⟨R, eR⟩ := allU_pre ws.length (show v.length ≤ u.length by omega)
    have hm : v ∈ allU ws.length v.length := (allU_mem _ _ _).mpr ⟨Nat.le_refl _, hv⟩
    rw [eR, List.find?_append] at h'
    cases hf : (allU ws.length v.length).find? fun v => dif ss ss (runT [rs, rs] [a, b] v) with
    | none =>
      have := List.find?_eq_none.mp hf v hm
      exact this ((dif_ld rs ss a b v).mpr ht)
    | some z =>
      rw [hf] at h'
      have e : z = u := by simpa using h'
      have := (find_len hf).1
      rw [e] at this; omega
  have hs := first_short (w := ws.length) (n := rs.length) (fun v hv x x0 x1 => pt.led (ix_toI hv) x0 x1) a0 a1 b0 b1 hl ((dif_ld rs ss a b u).mp hp) hmin
  obtain ⟨R, eR⟩ := allU_pre ws.length (show u.length ≤ rs.length - 1 by omega)
  rw [eR, List.find?_append, h']; rfl
end K1
set_option Elab.async false
set_option linter.all false
set_option maxRecDepth 100000
/-! rings that tell alike; a long row of states -/
namespace K1
open PySem L2 LamX
def ringR : List (List Int) := (List.range 8).map (fun (k : Nat) => [((k : Int) + 1) % 8, (k : Int)]) ++ (List.range 9).map (fun (k : Nat) => [8 + ((k : Int) + 1) % 9, 8 + (k : Int)])
def ringS : List Str := List.replicate 17 "no"
theorem no_tl : Tl "no" := by show 1 ≤ ("no" : Str).cps.toList.length ∧ ("no" : Str).cps.toList.length ≤ 60 ∧ ∀ x ∈ ("no" : Str).cps.toList, x ∈ TL'; decide +kernel
theorem yes_tl : Tl "yes" := by show 1 ≤ ("yes" : Str).cps.toList.length ∧ ("yes" : Str).cps.toList.length ≤ 60 ∧ ∀ x ∈ ("yes" : Str).cps.toList, x ∈ TL'; decide +kernel
theorem ring_parts {ws : List Str} (gd : GoodD ws) (hl : ws.length = 2) : Parts ws ringR ringS 0 := by
  have h1 : ∀ r ∈ ringR, r.length = 2 ∧ ∀ x ∈ r, 0 ≤ x ∧ x < (ringR.length : Int) := by decide +kernel
  have h2 : ringR.length = 17 := by decide +kernel
  refine ⟨gd, by rw [h2]; decide, by rw [hl]; exact h1, ⟨by rw [h2]; rfl, fun z hz => ?_⟩, by rw [h2]; decide⟩
  rw [List.eq_of_mem_replicate hz]; exact no_tl
theorem ring_no {ws : List Str} (gd : GoodD ws) (hl : ws.length = 2) {a b : Int} (a0 : 0 ≤ a) (a1 : a < 17) (b0 : 0 ≤ b) (b1 : b < 17) (u : List Nat) (hu : ∀ j ∈ u, j < ws.length) : dif ringS ringS (runT [ringR, ringR] [a, b] u) = false := by
  have pt := ring_parts gd hl
  have h2 : ringR.length = 17 := by decide +kernel
  rw [run_led]
  have e1 := pt.led (ix_toI hu) a0 (by rw [h2]; exact a1)
  have e2 := pt.led (ix_toI hu) b0 (by rw [h2]; exact b1)
  rw [h2] at e1 e2
  have g : ∀ y : Int, 0 ≤ y → y < 17 → ringS.getD y.toNat "" = "no" := fun y y0 y1 => by
    rw [ringS, List.getD_eq_getElem?_getD, List.getElem?_replicate, if_pos (by omega)]; rfl
  refine decide_eq_false fun z => z ?_
  show ringS.getD (led ringR (toI u) a).toNat "" = ringS.getD (led ringR (toI u) b).toNat ""
  rw [g _ e1.1 e1.2, g _ e2.1 e2.2]
theorem ring_first {ws : List Str} (gd : GoodD ws) (hl : ws.length = 2) {a b : Int} (a0 : 0 ≤ a) (a1 : a < 17) (b0 : 0 ≤ b) (b1 : b < 17) {u : List Nat} (h : FirstW ws.length (runT [ringR, ringR] [a, b]) ringS ringS u) : False := by
  obtain ⟨_, h2, h3⟩ := find_len (p := fun v => dif ringS ringS (runT [ringR, ringR] [a, b] v)) h
  have := ring_no gd hl a0 a1 b0 b1 u h2
  rw [this] at h3; cases h3
/-! the long row -/
def longR (s : Nat) : List (List Int) := (List.range s).map fun (k : Nat) => [if (s : Int) - 1 < (k : Int) + 1 then (s : Int) - 1 else (k : Int) + 1, (k : Int)]
def longS (s : Nat) : List Str := List.replicate (s - 1) ("no" : Str) ++ [("yes" : Str)]
theorem longR_len (s : Nat) : (longR s).length = s := by simp [longR]
theorem longR_get {s i : Nat} (h : i < s) : (longR s).getD i [] = [if (s : Int) - 1 < (i : Int) + 1 then (s : Int) - 1 else (i : Int) + 1, (i : Int)] := by
  rw [longR, List.getD_eq_getElem?_getD, List.getElem?_map, List.getElem?_range h]; rfl
theorem long_parts {ws : List Str} (gd : GoodD ws) (hl : ws.length = 2) {s : Nat} (h3 : 3 ≤ s) (h60 : s ≤ 60) : Parts ws (longR s) (longS s) 0 := by
  refine ⟨gd, by rw [longR_len]; omega, fun r hr => ?_, ⟨by rw [longR_len, longS, List.length_append, List.length_replicate]; show s - 1 + 1 = s; omega, fun z hz => ?_⟩, by rw [longR_len]; omega⟩
  · rw [longR_len, hl]
    obtain ⟨k, hk, rfl⟩ := List.mem_map.mp hr
    have := List.mem_range.mp hk
    refine ⟨rfl, fun x hx => ?_⟩
    simp only [List.mem_cons, List.not_mem_nil, or_false] at hx
    rcases hx with rfl | rfl
    · by_cases h : (s : Int) - 1 < (k : Int) + 1
      · rw [if_pos h]; omega
      · rw [if_neg h]; omega
    · omega
  · rcases List.mem_append.mp hz with h | h
    · rw [List.eq_of_mem_replicate h]; exact no_tl
    · rw [List.mem_singleton.mp h]; exact yes_tl
def zr (v : List Nat) : Nat := (v.filter (· == 0)).length
theorem zr_le (v : List Nat) : zr v ≤ v.length := List.length_filter_le _ _
theorem zr_rep (n : Nat) : zr (List.replicate n 0) = n := by
  unfold zr
  rw [List.filter_eq_self.mpr fun a ha => by rw [List.eq_of_mem_replicate ha]; rfl, List.length_replicate]
theorem ld_long {s : Nat} : ∀ (v : List Nat) (x : Int), (∀ j ∈ v, j < 2) → 0 ≤ x → x < (s : Int) → led (longR s) (toI v) x = if x + (zr v : Nat) < (s : Int) - 1 then x + (zr v : Nat) else (s : Int) - 1
  | [], x, _, x0, x1 => by
    show x = if x + ((0 : Nat) : Int) < (s : Int) - 1 then x + ((0 : Nat) : Int) else (s : Int) - 1
    by_cases h : x + ((0 : Nat) : Int) < (s : Int) - 1
    · rw [if_pos h]; omega
    · rw [if_neg h]; omega
  | k :: v, x, hv, x0, x1 => by
    have hk := hv k (List.mem_cons_self ..)
    have hv' : ∀ j ∈ v, j < 2 := fun j hj => hv j (List.mem_cons_of_mem _ hj)
    show led (longR s) (toI v) (((longR s).getD x.toNat []).getD (Int.toNat (k : Int)) 0) = _
    rw [longR_get (by omega : x.toNat < s), Int.toNat_of_nonneg x0]
    obtain rfl | rfl : k = 0 ∨ k = 1 := by omega
    · have ez : zr (0 :: v) = zr v + 1 := rfl
      show led (longR s) (toI v) (if (s : Int) - 1 < x + 1 then (s : Int) - 1 else x + 1) = _
      rw [ez]
      by_cases h : (s : Int) - 1 < x + 1
      · rw [if_pos h, ld_long v _ hv' (by omega) (by omega), if_neg (by omega), if_neg (by omega)]
      · rw [if_neg h, ld_long v _ hv' (by omega) (by omega)]
        by_cases h2 : x + 1 + (zr v : Nat) < (s : Int) - 1
        · rw [if_pos h2, if_pos (by omega)]; omega
        · rw [if_neg h2, if_neg (by omega)]
    · have ez : zr (1 :: v) = zr v := rfl
      show led (longR s) (toI v) x = _
      rw [ez, ld_long v _ hv' x0 x1]
theorem longS_get {s : Nat} {y : Int} (y0 : 0 ≤ y) (y1 : y < (s : Int)) : (longS s).getD y.toNat "" = if y = (s : Int) - 1 then "yes" else "no" := by
  rw [longS, List.getD_eq_getElem?_getD]
  by_cases h : y = (s : Int) - 1
  · have hl : (List.replicate (s - 1) ("no" : Str)).length ≤ y.toNat := by rw [List.length_replicate]; omega
    have e0 : y.toNat - (s - 1) = 0 := by omega
    rw [if_pos h, List.getElem?_append_right hl, List.length_replicate, e0]; rfl
  · have hl : y.toNat < (List.replicate (s - 1) ("no" : Str)).length := by rw [List.length_replicate]; omega
    have h2 : y.toNat < s - 1 := by omega
    rw [if_neg h, List.getElem?_append_left hl, List.getElem?_replicate, if_pos h2]; rfl
theorem yn : ("yes" : Str) ≠ "no" := by decide +kernel
/-- told apart by just so many first deeds -/
theorem long_dif {s a : Nat} (ha : a + 1 < s) {v : List Nat} (hv : ∀ j ∈ v, j < 2) : dif (longS s) (longS s) (runT [longR s, longR s] [(a : Int), (a : Int) + 1] v) = decide (zr v = s - 2 - a) := by
  rw [run_led, ld_long v _ hv (by omega) (by omega), ld_long v _ hv (by omega) (by omega)]
  show decide ((longS s).getD (if (a : Int) + (zr v : Nat) < (s : Int) - 1 then (a : Int) + (zr v : Nat) else (s : Int) - 1).toNat "" ≠ (longS s).getD (if (a : Int) + 1 + (zr v : Nat) < (s : Int) - 1 then (a : Int) + 1 + (zr v : Nat) else (s : Int) - 1).toNat "") = _
  by_cases h1 : (a : Int) + (zr v : Nat) < (s : Int) - 1
  · by_cases h2 : (a : Int) + 1 + (zr v : Nat) < (s : Int) - 1
    · rw [if_pos h1, if_pos h2, longS_get (by omega) (by omega), longS_get (by omega) (by omega), if_neg (by omega), if_neg (by omega), decide_eq_false (by omega : ¬ zr v = s - 2 - a)]
      simp
    · rw [if_pos h1, if_neg h2, longS_get (by omega) (by omega), longS_get (by omega) (by omega), if_neg (by omega), if_pos rfl, decide_eq_true (by omega : zr v = s - 2 - a)]
      exact decide_eq_true yn.symm
  · rw [if_neg h1, if_neg (by omega), decide_eq_false (by omega : ¬ zr v = s - 2 - a)]
    simp
theorem long_dif2 {s a : Nat} (ha : a + 1 < s) {v : List Nat} (hv : ∀ j ∈ v, j < 2) : dif (longS s) (longS s) (runT [longR s, longR s] [(a : Int) + 1, (a : Int)] v) = decide (zr v = s - 2 - a) := by
  rw [← long_dif ha hv, run_led, run_led]
  show decide (_ ≠ _) = decide (_ ≠ _)
  congr 1
  exact propext ⟨fun h => h.symm, fun h => h.symm⟩
theorem allW_head {w : Nat} (hw : 1 ≤ w) : ∀ n : Nat, ∃ R, allW w n = List.replicate n 0 :: R
  | 0 => ⟨[], rfl⟩
  | n + 1 => by
    obtain ⟨R, e⟩ := allW_head hw n
    obtain ⟨w', rfl⟩ : ∃ w', w = w' + 1 := ⟨w - 1, by omega⟩
    refine ⟨((List.range w').map Nat.succ |>.map fun k => List.replicate n 0 ++ [k]) ++ exts (w' + 1) R, ?_⟩
    rw [allW, e, exts_cons, ext, List.range_succ_eq_map, List.replicate_succ']
    rfl
theorem long_find {s a : Nat} (ha : a + 1 < s) {p : List Nat → Bool} (hp : ∀ v : List Nat, (∀ j ∈ v, j < 2) → p v = decide (zr v = s - 2 - a)) : (allU 2 (s - 2 - a)).find? p = some (List.replicate (s - 2 - a) 0) := by
  have hrep : p (List.replicate (s - 2 - a) 0) = true := by
    rw [hp _ (fun j hj => by rw [List.eq_of_mem_replicate hj]; decide), zr_rep]; simp
  cases hn : s - 2 - a with
  | zero =>
    rw [hn] at hrep
    show List.find? p [[]] = some []
    rw [List.find?_cons]
    have : p [] = true := hrep
    rw [this]
  | succ n =>
    rw [hn] at hrep
    rw [allU, List.find?_append]
    have h1 : (allU 2 n).find? p = none := List.find?_eq_none.mpr fun v hv => by
      have h2 := (allU_mem 2 n v).mp hv
      rw [hp v h2.2, hn]
      have := zr_le v
      simp; omega
    obtain ⟨R, e⟩ := allW_head (w := 2) (by decide) (n + 1)
    rw [h1, e, List.find?_cons, hrep]; rfl
theorem find_one {w : Nat} {p : List Nat → Bool} {u v : List Nat} (hu : (allU w u.length).find? p = some u) (hv : (allU w v.length).find? p = some v) : u = v := by
  by_cases h : u.length ≤ v.length
  · obtain ⟨R, e⟩ := allU_pre w h
    rw [e, List.find?_append, hu] at hv
    exact Option.some.inj hv
  · obtain ⟨R, e⟩ := allU_pre w (show v.length ≤ u.length by omega)
    rw [e, List.find?_append, hv] at hu
    exact (Option.some.inj hu).symm
end K1
set_option Elab.async false
set_option linter.all false
set_option maxRecDepth 100000
/-! k05's law: what it calls; far states -/
namespace K1
open PySem L2 LamX
abbrev sFar : Stmt := top 51
/-- what the law calls -/
structure Fs (P : Program) (w : World) (K : PySem.W.Frag) (mg : Str → Option Value) (base : Heap) (C CB : Addr) : Prop where
  T2 : Bt2 mg
  M : Tm K mg C
  pen : ∃ f fd, mg "_law_pen" = some (.ref f) ∧ PySem.W.keepIn K (.ref f) = true ∧ Binds K fd ["_law_script"] [] ∧ FnOk P w K mg base CX0 1 f fd ["_law_script"] (spPen K)
  draw : ∃ f fd, mg "_law_draw" = some (.ref f) ∧ PySem.W.keepIn K (.ref f) = true ∧ Binds K fd pDraw [] ∧ FnOk P w K mg base CX0 1 f fd pDraw spDraw
  pick : ∃ f fd, mg "_law_pick" = some (.ref f) ∧ PySem.W.keepIn K (.ref f) = true ∧ Binds K fd pPick [] ∧ FnOk P w K mg base CX0 2 f fd pPick (spPickL K)
  words : ∃ f fd, mg "_law_words" = some (.ref f) ∧ PySem.W.keepIn K (.ref f) = true ∧ Binds K fd pDraw [] ∧ FnOk P w K mg base CX0 3 f fd pDraw (spWords K)
  named : ∃ f fd, mg "_law_named" = some (.ref f) ∧ PySem.W.keepIn K (.ref f) = true ∧ Binds K fd pNamed [] ∧ FnOk P w K mg base CX0 1 f fd pNamed (spNamed K)
  plain : ∃ f fd, mg "_law_plain" = some (.ref f) ∧ PySem.W.keepIn K (.ref f) = true ∧ Binds K fd pPlain [] ∧ FnOk P w K mg base CX0 3 f fd pPlain (spPlain K)
  made : ∃ f fd, mg "_law_made" = some (.ref f) ∧ PySem.W.keepIn K (.ref f) = true ∧ Binds K fd ["_law_plain_here"] [] ∧ FnOk P w K mg base CX0 7 f fd ["_law_plain_here"] (spMade K C)
  parts : ∃ f fd, mg "_law_parts" = some (.ref f) ∧ PySem.W.keepIn K (.ref f) = true ∧ Binds K fd pParts [] ∧ FnOk P w K mg base CX0 2 f fd pParts (spParts K)
  ref : ∃ f fd, mg "_law_refused" = some (.ref f) ∧ PySem.W.keepIn K (.ref f) = true ∧ Binds K fd pRefA [] ∧ FnOk P w K mg base CX0 4 f fd pRefA (spRefA K C)
  mkM : ∃ f fd ds, Mk K C f ∧ Binds K fd pInit ds ∧ Vals [.int 0] ds ∧ FnOk P w K mg base CX0 5 f fd pInit (spMInit K C)
  apart : ∃ f fd, Meth K C "apart" f ∧ Binds K fd pMA [] ∧ FnOk P w K mg base (L2.CX P w) 3 f fd pMA (spApart K C CB)
  rp : mg "repr" = none
theorem made_pre {H : Hp} {x dx C : Addr} (hx : H x = none) (hd : H dx = none) : Same H (upd (upd H dx (.own x)) x (.ins C dx [])) := fun b o e => by
  rw [upd_ne (ne_of_none e hx), upd_ne (ne_of_none e hd)]; exact e
theorem made_same {H G : Hp} {x dx C : Addr} (hx : H x = none) (hd : H dx = none) (k : Kept x (upd (upd H dx (.own x)) x (.ins C dx [])) G) : Same H G := fun b o e => by
  have n1 : b ≠ x := ne_of_none e hx
  have n2 : b ≠ dx := ne_of_none e hd
  exact k b o (by rw [upd_ne n1, upd_ne n2]; exact e) n1
theorem MachAt.kd {K : PySem.W.Frag} {C d : Addr} {kv : List (Key × V)} {H H' : Hp} {x : Addr} {ws : List Str} {rs : List (List Int)} {ss : List Str} {st : Int} (h : MachAt K C H x ws rs ss st) (hd : H d = some (.dK kv)) (k : Kept d H H') : MachAt K C H' x ws rs ss st := by
  obtain ⟨dx, t2, r2, l2, as2, f1, f2, f3, f4, f5⟩ := h
  have ne : ∀ {a : Addr} {u : HO}, H a = some u → (∀ kv, u ≠ .dK kv) → a ≠ d := fun e n z => by rw [z, hd] at e; cases e; exact n _ rfl
  have kt : ∀ {a : Addr} {u : HO}, H a = some u → (∀ kv, u ≠ .dK kv) → H' a = some u := fun h n => k _ _ h (ne h n)
  exact ⟨dx, t2, r2, l2, as2, kt f1 (fun _ z => by cases z), k.seqF hd (fun o ys e => by cases e) f2, kt f3 (fun _ z => by cases z), ⟨f4.1, fun i a r g1 g2 => kt (f4.2 i a r g1 g2) (fun _ z => by cases z)⟩, kt f5 (fun _ z => by cases z)⟩
theorem PenAt.dk {H : Hp} {d c : Addr} {n : Nat} (h : PenAt H d c n) : ∃ kv, H d = some (.dK kv) := by
  obtain ⟨_, _, _, hd, _⟩ := h
  exact ⟨_, hd⟩
theorem names_rep (ws : List Str) (n : Nat) : names ws (List.replicate n 0) = (List.replicate n (ws.getD 0 "")).map V.str := by
  rw [names, List.map_replicate, List.map_replicate]
theorem names_str (ws : List Str) (u : List Nat) : names ws u = (u.map fun k => ws.getD k "").map V.str := by rw [names, List.map_map]; rfl
theorem repA_any {K : PySem.W.Frag} {H : Hp} {Q : VK} {t : Addr} {j : Nat} {xs : List V} (ht : SqT K H t xs) (hne : xs ≠ []) (hj : j ≤ 1000) (hl : xs.length ≤ 1000) (k : ∀ q H', SqT K H' q (List.replicate j xs).flatten → Same H H' → Q (.ref q) H') : rRepA K (.ref t) (.int (j : Int)) H Q := by
  refine ⟨t, j, xs, rfl, rfl, ht, hne, hj, hl, fun e p hp => ?_, fun e => ?_, fun _ p hp => k p _ (SqT.of upd_same) (same_upd hp)⟩
  · subst e
    exact k p _ (SqT.of upd_same) (same_upd hp)
  · subst e
    exact k t H (by simpa using ht) (Same.refl H)
theorem RowsAt.app {H : Hp} {as bs : List Addr} {rs qs : List (List Int)} (h : RowsAt H as rs) (e : RowsAt H bs qs) : RowsAt H (as ++ bs) (rs ++ qs) := by
  refine ⟨by simp [h.1, e.1], fun i b q e1 e2 => ?_⟩
  by_cases hi : i < as.length
  · rw [List.getElem?_append_left hi] at e1
    rw [List.getElem?_append_left (by rw [← h.1]; exact hi)] at e2
    exact h.2 i b q e1 e2
  · rw [List.getElem?_append_right (by omega)] at e1
    rw [List.getElem?_append_right (by rw [← h.1]; omega), ← h.1] at e2
    exact e.2 _ b q e1 e2
/-- a list of lists of ints, one more made -/
theorem rows_turn {H H1 : Hp} {D l : Addr} {ds : List Addr} {f : Nat → List Int} {m i : Nat} (hi : i < m) (zD : H D = none) (s : Same H H1) (hD : H1 D = some (.lst (ds.map V.ref))) (hR : RowsAt H1 ds (((List.range m).map f).take i)) (hne : ∀ a ∈ ds, a ≠ D) (hl : H1 l = none) {ys : List V} (ey : ys = (f i).map V.int) :
    upd H1 l (.lst ys) D = some (.lst (ds.map V.ref)) ∧ Same H (upd (upd H1 l (.lst ys)) D (.lst (ds.map V.ref ++ [V.ref l]))) ∧ upd (upd H1 l (.lst ys)) D (.lst (ds.map V.ref ++ [V.ref l])) D = some (.lst ((ds ++ [l]).map V.ref)) ∧
    RowsAt (upd (upd H1 l (.lst ys)) D (.lst (ds.map V.ref ++ [V.ref l]))) (ds ++ [l]) (((List.range m).map f).take (i + 1)) ∧ ∀ a ∈ ds ++ [l], a ≠ D := by
  have nlD : l ≠ D := (ne_of_none hD hl).symm
  have hn2 : ∀ a ∈ ds ++ [l], a ≠ D := fun a ha => by
    rcases List.mem_append.mp ha with h | h
    · exact hne a h
    · rw [List.mem_singleton.mp h]; exact nlD
  refine ⟨by rw [upd_ne nlD.symm]; exact hD, fun b o e => by rw [upd_ne (ne_of_none e zD)]; exact same_upd hl _ _ (s b o e), by rw [upd_same, List.map_append]; rfl, ?_, hn2⟩
  have e1 : ((List.range m).map f).take (i + 1) = ((List.range m).map f).take i ++ [f i] := by
    rw [List.take_add_one, List.getElem?_map, List.getElem?_range hi]; rfl
  rw [e1]
  have h1 := (hR.same (same_upd (o := .lst ys) hl)).snoc (a := l) (r := f i) (by rw [upd_same, ey])
  refine ⟨h1.1, fun j a r f1 f2 => ?_⟩
  rw [upd_ne (hn2 a (List.mem_of_getElem? f1))]
  exact h1.2 j a r f1 f2
theorem thp_int {K : PySem.W.Frag} {H : Hp} (i : Int) : ThP K H (.int i) "int" := fun G _ => .int i
def spFar (K : PySem.W.Frag) : Sp := fun vs H Q _ => ∃ (d c dl : Addr) (n : Nat) (ws : List Str), vs = [.ref d, .ref dl] ∧ PenAt H d c n ∧ n ≤ 500000 ∧ H dl = some (.lst (ws.map V.str)) ∧ GoodD ws ∧ ws.length = 2 ∧ ∀ H', Q (.bl true) H'
section
variable {P : Program} {w : World} {K : PySem.W.Frag} {mg : Str → Option Value} {base : Heap} {C CB : Addr}
abbrev pFar : List Str := ["_law_pen_here", "_law_deeds"]
abbrev nFar : List Str := ["_law_pen_here", "_law_deeds", "_law_rows_here", "_law_rings", "_law_size", "_law_long", "_law_a", "_law_due", "_law_k"]
theorem scFar : FnScope nFar pFar (defScope sFar) := ⟨rfl, rfl, rfl, by decide +kernel, rfl, by decide +kernel, by decide +kernel⟩
theorem ok_far (F : Fs P w K mg base C CB) {f : Addr} {fd : FuncData} (D : Df K mg "_law_far_right" sFar pFar f fd) : FnOk P w K mg base CX0 7 f fd pFar (spFar K) := by
  obtain ⟨T2, M, _, ⟨fD, fdD, mgD, kpD, bD, GD⟩, _, _, _, _, _, _, _, ⟨fI, fdI, dsI, MkI, bI, vI, GI⟩, ⟨fA, fdA, MA, bA, GA⟩, _⟩ := F
  have T : Bt mg := T2.toBt
  refine D.F.ok scFar (fun vs H Q E h => ?_) (fun cdv A outer s H vs Q E hr h => ?_)
  · obtain ⟨d, c, dl, n, ws, rfl, _⟩ := h
    rfl
  · obtain ⟨d, c, dl, n, ws, rfl, hpen, hn, hdl, gd, hl2, k⟩ := h
    have hr1 : Room 1 (cxOf CX0 P w K mg base nFar "_law_far_right" (defScope sFar) f cdv A outer s H E).nox.A := hr.mono (by decide)
    have hr3 : Room 3 (cxOf CX0 P w K mg base nFar "_law_far_right" (defScope sFar) f cdv A outer s H E).nox.A := hr.mono (by decide)
    refine ⟨_, pss_cons (ps_set (i := 2) scFar.nd rfl (Or.inl rfl) (pe_op op_cat
          (pe_lc (own := [("_law_k", 8)]) (g := gName 8) (by rfl) scFar.nd (pi_range1 rfl T.range (pa_cons pe_int pa_nil)) (blkOk_by (own := [("_law_k", 8)]) (N := nFar) (sc := defScope sFar) (by decide +kernel)) (fun _ _ _ _ _ => pg_name (i := 8) scFar.nd rfl (Or.inl rfl)) (fun _ _ _ _ _ => pts_nil)
            (fun _ _ _ _ _ => pe_lst (pa_cons (pe_op op_mod (pe_callTy call_int1 (by rfl) T.int (by decide +kernel) (pa_cons (pe_op op_add (pv 8) pe_int) pa_nil)) pe_int) (pa_cons (pv 8) pa_nil))))
          (pe_lc (own := [("_law_k", 8)]) (g := gName 8) (by rfl) scFar.nd (pi_range1 rfl T.range (pa_cons pe_int pa_nil)) (blkOk_by (own := [("_law_k", 8)]) (N := nFar) (sc := defScope sFar) (by decide +kernel)) (fun _ _ _ _ _ => pg_name (i := 8) scFar.nd rfl (Or.inl rfl)) (fun _ _ _ _ _ => pts_nil)
            (fun _ _ _ _ _ => pe_lst (pa_cons (pe_op op_add pe_int (pe_op op_mod (pe_callTy call_int1 (by rfl) T.int (by decide +kernel) (pa_cons (pe_op op_add (pv 8) pe_int) pa_nil)) pe_int)) (pa_cons (pe_op op_add pe_int (pv 8)) pa_nil))))))
      (pss_cons (ps_asg (pe_tup (pa_cons (pe_make MkI GI hr rfl M.mgC bI vI pass0 (pa_cons (pv 1) (pa_cons (pv 2) (pa_cons (pe_op op_rep (pe_lst (pa_cons pe_str pa_nil)) pe_int) pa_nil))))
            (pa_cons (pe_op op_add pe_int (pe_call GD hr1 rfl mgD kpD bD .nil pass0 (pa_cons (pv 0) (pa_cons pe_int pa_nil)))) pa_nil)))
          (pg_tup (by rfl) (pgs_cons (pg_name (i := 3) scFar.nd rfl (Or.inl rfl)) (pgs_cons (pg_name (i := 4) scFar.nd rfl (Or.inr rfl)) pgs_nil))))
      (pss_cons (ps_if (PW.pt (pw_or (pt_cmpR op_notN (pe_meth (pv 3) M.cl MA GA hr3 bA .nil passL (pa_cons pe_int (pa_cons pe_int pa_nil))) pe_non (nomark _))
          (pw_or1 (pt_cmpR op_notN (pe_meth (pv 3) M.cl MA GA hr3 bA .nil passL (pa_cons (pe_call GD hr1 rfl mgD kpD bD .nil pass0 (pa_cons (pv 0) (pa_cons pe_int pa_nil))) (pa_cons (pe_op op_add pe_int (pe_call GD hr1 rfl mgD kpD bD .nil pass0 (pa_cons (pv 0) (pa_cons pe_int pa_nil)))) pa_nil))) pe_non (nomark _))))) (pss_one (ps_ret pe_bl)) pss_nil)
      (pss_cons (ps_setLc (i := 2) (own := [("_law_k", 8)]) (g := gName 8) (by rfl) scFar.nd rfl rfl (sw_true rfl rfl rfl (by decide +kernel)) (pi_range1 rfl T.range (pa_cons (pv 4) pa_nil)) (blkOk_by (own := [("_law_k", 8)]) (N := nFar) (sc := defScope sFar) (by decide +kernel)) (fun _ _ _ _ _ => pg_name (i := 8) scFar.nd rfl (Or.inl rfl)) (fun _ _ _ _ _ => pts_nil)
          (fun _ _ _ _ _ => pe_lst (pa_cons (pe_callB (call_min2 rfl) (by rfl) T2.min PyProof.Rows.boot_min (pa_cons (pe_callTy call_int1 (by rfl) T.int (by decide +kernel) (pa_cons (pe_op op_add (pv 8) pe_int) pa_nil)) (pa_cons (pe_callTy call_int1 (by rfl) T.int (by decide +kernel) (pa_cons (pe_op op_sub (pv 4) pe_int) pa_nil)) pa_nil))) (pa_cons (pv 8) pa_nil))))
      (pss_cons (ps_par (i := 5) (j := 6) (by rfl) scFar.nd rfl rfl (by decide) rfl rfl (pa_cons (pe_make MkI GI hr rfl M.mgC bI vI pass0 (pa_cons (pv 1) (pa_cons (pv 2) (pa_cons (pe_op op_cat (pe_op op_rep (pe_lst (pa_cons pe_str pa_nil)) (pe_op op_sub (pv 4) pe_int)) (pe_lst (pa_cons pe_str pa_nil))) pa_nil))))
            (pa_cons (pe_call GD hr1 rfl mgD kpD bD .nil pass0 (pa_cons (pv 0) (pa_cons (pe_op op_sub (pv 4) pe_int) pa_nil))) pa_nil)) (by rfl))
      (pss_cons (ps_set (i := 7) scFar.nd rfl (Or.inl rfl) (pe_op (r := rRepA K) op_repA (pe_tup (pa_cons (pe_ix ix_list (pv 1) pe_int (fun _ _ => rfl)) pa_nil)) (pe_op op_sub (pe_op op_sub (pv 4) pe_int) (pv 6))))
      (pss_one (ps_ret (pe_and (pe_cmpR (op_eqD hr.units) (pe_meth (pv 5) M.cl MA GA hr3 bA .nil passL (pa_cons (pv 6) (pa_cons (pe_op op_add (pv 6) pe_int) pa_nil))) (pv 7) (nomark _))
          (pe_one (pe_cmpR (op_eqD hr.units) (pe_meth (pv 5) M.cl MA GA hr3 bA .nil passL (pa_cons (pe_op op_add (pv 6) pe_int) (pa_cons (pv 6) pa_nil))) (pv 7) (nomark _))))))))))), ?_⟩
    have w0 : ws.getD 0 "" ∈ ws := List.mem_of_getElem? (getD_get ("" : Str) (by omega))
    have oks : OkS ws := ok_wd gd.wd
    -- the rings' rows
    refine ⟨8, rfl, by decide, by decide, fun D1 hD1 => ?_⟩
    refine lc_range (lo := 0) (n := 8) (fun i H' => ∃ ds : List Addr, Same H H' ∧ H' D1 = some (.lst (ds.map V.ref)) ∧ RowsAt H' ds (((List.range 8).map fun (k : Nat) => [((k : Int) + 1) % 8, (k : Int)]).take i) ∧ ∀ a ∈ ds, a ≠ D1) ?_ ?_ ?_
    · exact ⟨[], same_upd hD1, upd_same, ⟨rfl, fun i a u e => by simp at e⟩, fun a ha => by simp at ha⟩
    · rintro i H1 hi ⟨ds, s1, hD, hR, hne⟩
      refine ⟨rfl, _, rfl, _, _, rfl, rfl, .inl ⟨_, rfl, _, _, rfl, rfl, (by show (0 : Int) < 8; decide), _, rfl, Nat.le_of_ble_eq_true rfl, fun l hl => ?_⟩⟩
      have t := rows_turn (f := fun (k : Nat) => [((k : Int) + 1) % 8, (k : Int)]) hi hD1 s1 hD hR hne hl (ys := [V.int ((0 + (i : Nat) + 1) % 8), V.int (0 + (i : Nat))]) (by rw [Int.zero_add]; rfl)
      refine ⟨_, t.1, ?_, ds ++ [l], t.2.1, t.2.2.1, t.2.2.2.1, t.2.2.2.2⟩
      rw [List.length_map, hR.1, List.length_take]; exact small1000 (by omega)
    rintro H1 ⟨ds8, s1, hD8, hR8, _⟩
    have hR8' : RowsAt H1 ds8 ((List.range 8).map fun (k : Nat) => [((k : Int) + 1) % 8, (k : Int)]) := hR8
    refine ⟨9, rfl, by decide, by decide, fun D2 hD2 => ?_⟩
    refine lc_range (lo := 0) (n := 9) (fun i H' => ∃ ds : List Addr, Same H1 H' ∧ H' D2 = some (.lst (ds.map V.ref)) ∧ RowsAt H' ds (((List.range 9).map fun (k : Nat) => [8 + ((k : Int) + 1) % 9, 8 + (k : Int)]).take i) ∧ ∀ a ∈ ds, a ≠ D2) ?_ ?_ ?_
    · exact ⟨[], same_upd hD2, upd_same, ⟨rfl, fun i a u e => by simp at e⟩, fun a ha => by simp at ha⟩
    · rintro i H2 hi ⟨ds, s2, hD, hR, hne⟩
      refine ⟨rfl, _, rfl, _, _, rfl, rfl, .inl ⟨_, rfl, _, _, rfl, rfl, (by show (0 : Int) < 9; decide), _, _, rfl, rfl, _, rfl, _, _, rfl, rfl, Nat.le_of_ble_eq_true rfl, fun l hl => ?_⟩⟩
      have t := rows_turn (f := fun (k : Nat) => [8 + ((k : Int) + 1) % 9, 8 + (k : Int)]) hi hD2 s2 hD hR hne hl (ys := [V.int (8 + (0 + (i : Nat) + 1) % 9), V.int (8 + (0 + (i : Nat)))]) (by rw [Int.zero_add]; rfl)
      refine ⟨_, t.1, ?_, ds ++ [l], t.2.1, t.2.2.1, t.2.2.2.1, t.2.2.2.2⟩
      rw [List.length_map, hR.1, List.length_take]; exact small1000 (by omega)
    rintro H2 ⟨ds9, s2, hD9, hR9, _⟩
    have hR9' : RowsAt H2 ds9 ((List.range 9).map fun (k : Nat) => [8 + ((k : Int) + 1) % 9, 8 + (k : Int)]) := hR9
    have l8 : ds8.length = 8 := hR8'.1
    have l9 : ds9.length = 9 := hR9'.1
    refine ⟨D1, D2, _, _, rfl, rfl, s2 _ _ hD8, hD9, by rw [List.length_map, List.length_map, l8, l9]; decide, fun rr hrr => ?_⟩
    have s3 := same_upd (o := .lst (ds8.map V.ref ++ ds9.map V.ref)) hrr
    have err3 : upd H2 rr (.lst (ds8.map V.ref ++ ds9.map V.ref)) rr = some (.lst ((ds8 ++ ds9).map V.ref)) := by rw [upd_same, List.map_append]
    have hRR : RowsAt (upd H2 rr (.lst (ds8.map V.ref ++ ds9.map V.ref))) (ds8 ++ ds9) ringR := ((hR8'.same s2).app hR9').same s3
    have s03 := (s1.trans s2).trans s3
    generalize upd H2 rr (.lst (ds8.map V.ref ++ ds9.map V.ref)) = H3 at s3 err3 hRR s03 ⊢
    clear hR8 hR9 hR8' hR9' hD8 hD9
    -- the rings
    refine ⟨_, rfl, _, rfl, Nat.le_of_ble_eq_true rfl, fun l1 hl1 => ?_⟩
    have s4 := same_upd (o := .lst [V.str "no"]) hl1
    have e4 : upd H3 l1 (.lst [V.str "no"]) l1 = some (.lst [V.str "no"]) := upd_same
    generalize upd H3 l1 (.lst [V.str "no"]) = H4 at s4 e4 ⊢
    refine ⟨l1, 17, _, rfl, rfl, e4, by decide, by decide, by decide, fun l2 hfl2 => ?_⟩
    have s5 := same_upd (o := .lst (List.replicate (Int.toNat 17) [V.str "no"]).flatten) hfl2
    have e5 : upd H4 l2 (.lst (List.replicate (Int.toNat 17) [V.str "no"]).flatten) l2 = some (.lst (ringS.map V.str)) := by rw [upd_same]; rfl
    generalize upd H4 l2 (.lst (List.replicate (Int.toNat 17) [V.str "no"]).flatten) = H5 at s5 e5 ⊢
    have s35 := s4.trans s5
    have s05 := s03.trans s35
    intro x dx hx hdx ndx
    have pre := made_pre (C := C) hx hdx
    have rpt := ring_parts gd hl2
    refine ⟨x, dx, dl, rr, l2, ds8 ++ ds9, ws, ringR, ringS, 0, rfl, upd_same, .inr (SqL.of (pre _ _ (s05 _ _ hdl))), SqL.of (pre _ _ (s35 _ _ err3)), (hRR.same s35).same pre, SqL.of (pre _ _ e5), rpt, fun H6 mac k6 => ⟨rfl, ?_⟩⟩
    have s06 := s05.trans (made_same hx hdx k6)
    have pen6 := hpen.same s06
    have hdl6 := s06 _ _ hdl
    -- size
    refine ⟨_, rfl, d, c, n, 30, rfl, pen6, by omega, by decide, by decide, fun r H7 r0 r1 pen7 k7 => ⟨_, _, rfl, rfl, Nat.le_of_ble_eq_true rfl, fun tp htp => ?_⟩⟩
    obtain ⟨S, eS, S3, S32⟩ : ∃ S : Nat, 3 + r = (S : Int) ∧ 3 ≤ S ∧ S ≤ 32 := ⟨(3 + r).toNat, by omega, by omega, by omega⟩
    obtain ⟨kv6, hd6⟩ := pen6.dk
    have ndl : dl ≠ d := ne_of hdl6 hd6 (by intro z; cases z)
    have s8 := same_upd (o := .tup [V.ref x, V.int (3 + r)]) htp
    have e8 : upd H7 tp (.tup [V.ref x, V.int (3 + r)]) tp = some (.tup [V.ref x, V.int (3 + r)]) := upd_same
    have mac8 := (mac.kd hd6 k7).same s8
    have pen8 := pen7.same s8
    have hdl8 := s8 _ _ (k7 _ _ hdl6 ndl)
    refine ⟨tp, _, rfl, SqT.of e8, rfl, _, _, rfl, _, _, rfl, rfl, ?_⟩
    dsimp only
    rw [eS] at mac8 pen8 hdl8 ⊢
    generalize upd H7 tp (.tup [V.ref x, V.int (S : Int)]) = H8 at mac8 pen8 hdl8 ⊢
    -- the rings are never parted
    have rlen : ringR.length = 17 := by decide +kernel
    have ringap : ∀ {G : Hp} {Q' : VK} {E' : XK} (a b : Int), MachAt K C G x ws ringR ringS 0 → 0 ≤ a → a < 17 → 0 ≤ b → b < 17 → (∀ G', Same G G' → Q' .non G') → spApart K C CB [.ref x, .int a, .int b] G Q' E' := fun {G Q' E'} a b m a0 a1 b0 b1 kq =>
      ⟨x, .int a, .int b, "int", "int", ws, ringR, ringS, 0, rfl, m, rpt, thp_int a, thp_int b, .inr (.inr ⟨a, b, rfl, rfl, a0, by rw [rlen]; exact a1, b0, by rw [rlen]; exact b1, fun u p G' hf _ _ _ => (ring_first gd hl2 a0 a1 b0 b1 hf).elim, fun G' _ sG => kq G' sG⟩)⟩
    obtain ⟨dx8, _, _, _, _, gx8, _⟩ := id mac8
    refine ⟨_, rfl, x, dx8, _, rfl, gx8, mf_no _ _ _ _ (by decide +kernel) (by decide +kernel) (by decide +kernel) (by decide +kernel), ?_⟩
    (try delta tCons); (try delta tC); (try delta tNil); (try delta tOp); (try delta tVar)
    show spApart K C CB [.ref x, .int 0, .int 8] H8 _ _
    refine ringap 0 8 mac8 (by decide) (by decide) (by decide) (by decide) fun H9 s9 => ?_
    refine ⟨rfl, _, rfl, ?_⟩
    refine iteF ?_
    have mac9 := mac8.same s9
    have pen9 := pen8.same s9
    obtain ⟨dx9, _, _, _, _, gx9, _⟩ := id mac9
    refine ⟨_, rfl, x, dx9, _, rfl, gx9, mf_no _ _ _ _ (by decide +kernel) (by decide +kernel) (by decide +kernel) (by decide +kernel), ?_⟩
    refine ⟨_, rfl, d, c, _, 8, rfl, pen9, by omega, by decide, by decide, fun q1 H10 q10 q11 pen10 k10 => ?_⟩
    refine ⟨_, rfl, d, c, _, 9, rfl, pen10, by omega, by decide, by decide, fun q2 H11 q20 q21 pen11 k11 => ⟨_, _, rfl, rfl, ?_⟩⟩
    obtain ⟨kv9, hd9⟩ := pen9.dk
    have k911 := k10.trans k11
    have mac11 := mac9.kd hd9 k911
    have hdl11 := k911 _ _ (s9 _ _ hdl8) ndl
    (try delta tCons); (try delta tC); (try delta tNil); (try delta tOp); (try delta tVar)
    show spApart K C CB [.ref x, .int q1, .int (8 + q2)] H11 _ _
    refine ringap q1 (8 + q2) mac11 q10 (by omega) (by omega) (by omega) fun H12 s12 => ?_
    refine ⟨rfl, _, rfl, ?_⟩
    refine iteF ?_
    have pen12 := pen11.same s12
    have hdl12 := s12 _ _ hdl11
    clear ringap mac8 mac9 mac11 gx8 gx9 hRR err3 e4 e5 e8
    -- the long row
    refine ⟨_, rfl, (S : Int), rfl, by omega, by omega, fun D3 hD3 => ?_⟩
    rw [Int.toNat_natCast]
    refine lc_range (lo := 0) (n := S) (fun i H' => ∃ ds : List Addr, Same H12 H' ∧ H' D3 = some (.lst (ds.map V.ref)) ∧ RowsAt H' ds ((longR S).take i) ∧ ∀ a ∈ ds, a ≠ D3) ?_ ?_ ?_
    · exact ⟨[], same_upd hD3, upd_same, ⟨rfl, fun i a u e => by simp at e⟩, fun a ha => by simp at ha⟩
    · rintro i H13 hi ⟨ds, s13, hD, hR, hne⟩
      refine ⟨rfl, _, rfl, _, _, rfl, rfl, .inl ⟨_, rfl, _, rfl, _, _, rfl, rfl, .inl ⟨_, rfl, _, _, rfl, _, rfl, Nat.le_of_ble_eq_true rfl, fun l hl => ?_⟩⟩⟩
      have t := rows_turn (f := fun (k : Nat) => [if (S : Int) - 1 < (k : Int) + 1 then (S : Int) - 1 else (k : Int) + 1, (k : Int)]) hi hD3 s13 hD hR hne hl (ys := [V.int (if (S : Int) - 1 < 0 + (i : Nat) + 1 then (S : Int) - 1 else 0 + (i : Nat) + 1), V.int (0 + (i : Nat))]) (by rw [Int.zero_add]; rfl)
      refine ⟨_, t.1, ?_, ds ++ [l], t.2.1, t.2.2.1, t.2.2.2.1, t.2.2.2.2⟩
      rw [List.length_map, hR.1, List.length_take]; exact small1000 (by omega)
    rintro H13 ⟨ds, s13, hD13, hR13, _⟩
    rw [List.take_of_length_le (by rw [longR_len]; exact Nat.le_refl _)] at hR13
    have pen13 := pen12.same s13
    have hdl13 := s13 _ _ hdl12
    -- its tells, the machine
    refine ⟨_, rfl, _, rfl, Nat.le_of_ble_eq_true rfl, fun l1 hl1 => ?_⟩
    have s14 := same_upd (o := .lst [V.str "no"]) hl1
    have e14 : upd H13 l1 (.lst [V.str "no"]) l1 = some (.lst [V.str "no"]) := upd_same
    generalize upd H13 l1 (.lst [V.str "no"]) = H14 at s14 e14 ⊢
    refine ⟨_, rfl, _, _, rfl, rfl, l1, (S : Int) - 1, _, rfl, rfl, e14, by omega, by omega, ?_, fun l2 hfl2 => ?_⟩
    · show 1 * ((S : Int) - 1).toNat ≤ sizeLine
      exact small2 (by omega)
    have eno : (List.replicate ((S : Int) - 1).toNat [V.str "no"]).flatten = (List.replicate (S - 1) ("no" : Str)).map V.str := by
      have h1 : ((S : Int) - 1).toNat = S - 1 := by omega
      rw [h1, List.map_replicate]
      have := List.flatten_replicate_singleton (n := S - 1) (a := V.str "no")
      exact this
    rw [eno]
    have s15 := same_upd (o := .lst ((List.replicate (S - 1) ("no" : Str)).map V.str)) hfl2
    have e15 : upd H14 l2 (.lst ((List.replicate (S - 1) ("no" : Str)).map V.str)) l2 = some (.lst ((List.replicate (S - 1) ("no" : Str)).map V.str)) := upd_same
    generalize upd H14 l2 (.lst ((List.replicate (S - 1) ("no" : Str)).map V.str)) = H15 at s15 e15 ⊢
    refine ⟨Nat.le_of_ble_eq_true rfl, fun l3 hl3 => ?_⟩
    have s16 := same_upd (o := .lst [V.str "yes"]) hl3
    have e16 : upd H15 l3 (.lst [V.str "yes"]) l3 = some (.lst [V.str "yes"]) := upd_same
    generalize upd H15 l3 (.lst [V.str "yes"]) = H16 at s16 e16 ⊢
    refine ⟨l2, l3, _, _, rfl, rfl, s16 _ _ e15, e16, ?_, fun l4 hl4 => ?_⟩
    · rw [List.length_map, List.length_replicate]
      show S - 1 + 1 ≤ sizeLine
      exact small2 (by omega)
    have s17 := same_upd (o := .lst ((List.replicate (S - 1) ("no" : Str)).map V.str ++ [V.str "yes"])) hl4
    have e17 : upd H16 l4 (.lst ((List.replicate (S - 1) ("no" : Str)).map V.str ++ [V.str "yes"])) l4 = some (.lst ((longS S).map V.str)) := by rw [upd_same, longS, List.map_append]; rfl
    generalize upd H16 l4 (.lst ((List.replicate (S - 1) ("no" : Str)).map V.str ++ [V.str "yes"])) = H17 at s17 e17 ⊢
    have s1317 := ((s14.trans s15).trans s16).trans s17
    intro y dy hy hdy ndy
    have prey := made_pre (C := C) hy hdy
    have lpt := long_parts (s := S) gd hl2 S3 (by omega)
    refine ⟨y, dy, dl, D3, l4, ds, ws, longR S, longS S, 0, rfl, upd_same, .inr (SqL.of (prey _ _ (s1317 _ _ hdl13))), SqL.of (prey _ _ (s1317 _ _ hD13)), (hR13.same s1317).same prey, SqL.of (prey _ _ e17), lpt, fun H18 macY k18 => ⟨rfl, ?_⟩⟩
    have s1318 := s1317.trans (made_same hy hdy k18)
    have pen18 := pen13.same s1318
    have hdl18 := s1318 _ _ hdl13
    -- a
    refine ⟨_, rfl, _, rfl, _, _, rfl, rfl, d, c, _, (S : Int) - 1, rfl, pen18, by omega, by omega, by omega, fun av H19 av0 av1 pen19 k19 => ⟨_, _, rfl, ?_⟩⟩
    obtain ⟨a, rfl⟩ : ∃ a : Nat, av = (a : Int) := ⟨av.toNat, by omega⟩
    have ha : a + 1 < S := by omega
    obtain ⟨kv18, hd18⟩ := pen18.dk
    have macY19 := macY.kd hd18 k19
    have hdl19 := k19 _ _ hdl18 ndl
    -- due
    refine ⟨_, rfl, dl, _, 0, _, rfl, rfl, SqL.of hdl19, at_deed (k := 0) (by decide) (by omega), Nat.le_of_ble_eq_true rfl, fun t ht => ?_⟩
    have s20 := same_upd (o := .tup [V.str (ws.getD (Int.toNat 0) "")]) ht
    have e20 : upd H19 t (.tup [V.str (ws.getD (Int.toNat 0) "")]) t = some (.tup [V.str (ws.getD 0 "")]) := upd_same
    generalize upd H19 t (.tup [V.str (ws.getD (Int.toNat 0) "")]) = H20 at s20 e20 ⊢
    refine ⟨_, rfl, _, _, rfl, rfl, _, rfl, _, _, rfl, rfl, ?_⟩
    have ej : ((S : Int) - 2 - (a : Int)) = ((S - 2 - a : Nat) : Int) := by omega
    show rRepA K (.ref t) (.int ((S : Int) - 2 - (a : Int))) H20 _
    rw [ej]
    refine repA_any (SqT.of e20) (by simp) (by omega) (by simp) fun du H21 hdu s21 => ?_
    have edu : (List.replicate (S - 2 - a) [V.str (ws.getD 0 "")]).flatten = (List.replicate (S - 2 - a) (ws.getD 0 "")).map V.str := by
      rw [List.map_replicate]
      exact List.flatten_replicate_singleton
    rw [edu] at hdu
    have macY21 := (macY19.same s20).same s21
    have llen := longR_len S
    have hrow : ∀ z ∈ List.replicate (S - 2 - a) (ws.getD 0 ""), PyData.strOk z = true := fun z hz => by rw [List.eq_of_mem_replicate hz]; exact oks _ w0
    have ldat : (PyData.tuple ((List.replicate (S - 2 - a) (ws.getD 0 "")).map PyData.str)).canLay0 = true := by rw [PyData.canLay0, canLay_strs _ hrow]
    have lsh := shaped_strs hrow
    have two : ∀ {G : Hp} {Q' : VK} {E' : XK} (a' b' : Int), MachAt K C G y ws (longR S) (longS S) 0 → 0 ≤ a' → a' < (S : Int) → 0 ≤ b' → b' < (S : Int) → (∀ v : List Nat, (∀ j ∈ v, j < 2) → dif (longS S) (longS S) (runT [longR S, longR S] [a', b'] v) = decide (zr v = S - 2 - a)) →
        (∀ p G', Same G G' → G' p = some (.tup ((List.replicate (S - 2 - a) (ws.getD 0 "")).map V.str)) → Q' (.ref p) G') → spApart K C CB [.ref y, .int a', .int b'] G Q' E' := fun {G Q' E'} a' b' m a0 a1 b0 b1 hp kq => by
      have hf := long_find ha hp
      refine ⟨y, .int a', .int b', "int", "int", ws, longR S, longS S, 0, rfl, m, lpt, thp_int a', thp_int b', .inr (.inr ⟨a', b', rfl, rfl, a0, by rw [llen]; exact a1, b0, by rw [llen]; exact b1, fun u p G' hfu _ sG ep => ?_, fun G' hno _ => ?_⟩)⟩
      · have h1 : (allU 2 u.length).find? (fun v => dif (longS S) (longS S) (runT [longR S, longR S] [a', b'] v)) = some u := by rw [← hl2]; exact hfu
        have h2 : (allU 2 (List.replicate (S - 2 - a) 0).length).find? (fun v => dif (longS S) (longS S) (runT [longR S, longR S] [a', b'] v)) = some (List.replicate (S - 2 - a) 0) := by rw [List.length_replicate]; exact hf
        have e := find_one h1 h2
        subst e
        exact kq p G' sG (by rw [ep, names_rep])
      · have h1 := hno (S - 2 - a)
        rw [hl2, hf] at h1
        cases h1
    obtain ⟨dy1, _, _, _, _, gy1, _⟩ := id macY21
    refine ⟨_, rfl, y, dy1, _, rfl, gy1, mf_no _ _ _ _ (by decide +kernel) (by decide +kernel) (by decide +kernel) (by decide +kernel), _, rfl, _, rfl, _, _, rfl, rfl, ?_⟩
    (try delta tCons); (try delta tC); (try delta tNil); (try delta tOp); (try delta tVar)
    show spApart K C CB [.ref y, .int (a : Int), .int ((a : Int) + 1)] H21 _ _
    refine two (a : Int) ((a : Int) + 1) macY21 (by omega) (by omega) (by omega) (by omega) (fun v hv => long_dif ha hv) fun p1 H22 s22 e22 => ?_
    have hdu22 := hdu.ext s22
    refine ⟨_, rfl, _, _, .tup (SqT.of e22) (dp_strs _), .tup hdu22 (dp_strs _), lsh, lsh, ?_⟩
    rw [PySem.SeqAt.eqv_refl _ ldat]
    refine ⟨_, rfl, ?_⟩
    refine iteT ?_
    have macY22 := macY21.same s22
    obtain ⟨dy2, _, _, _, _, gy2, _⟩ := id macY22
    refine ⟨_, rfl, y, dy2, _, rfl, gy2, mf_no _ _ _ _ (by decide +kernel) (by decide +kernel) (by decide +kernel) (by decide +kernel), _, rfl, _, _, rfl, rfl, _, rfl, ?_⟩
    (try delta tCons); (try delta tC); (try delta tNil); (try delta tOp); (try delta tVar)
    show spApart K C CB [.ref y, .int ((a : Int) + 1), .int (a : Int)] H22 _ _
    refine two ((a : Int) + 1) (a : Int) macY22 (by omega) (by omega) (by omega) (by omega) (fun v hv => long_dif2 ha hv) fun p2 H23 s23 e23 => ?_
    refine ⟨_, rfl, _, _, .tup (SqT.of e23) (dp_strs _), .tup (hdu22.ext s23) (dp_strs _), lsh, lsh, ?_⟩
    rw [PySem.SeqAt.eqv_refl _ ldat]
    exact k _
end
end K1
set_option Elab.async false
set_option linter.all false
set_option maxRecDepth 100000
/-! k05's law -/
namespace K1
open PySem L2 LamX
abbrev sLaw : Stmt := top 52
abbrev nLaw : List Str := ["_law_script", "_law_pen_here", "_law_turn", "_law_deeds", "_law_plain_here", "_law_made_here", "_law_many", "_law_a", "_law_b", "_law_row", "_law_odd"]
theorem scLaw : FnScope nLaw ["_law_script"] (defScope sLaw) := ⟨rfl, rfl, rfl, by decide +kernel, rfl, by decide +kernel, by decide +kernel⟩
def menu : List Str := ["yes", "no"]
theorem menu_tl {z : Str} (h : z ∈ menu) : Tl z := by
  simp only [menu, List.mem_cons, List.not_mem_nil, or_false] at h
  rcases h with rfl | rfl
  · exact yes_tl
  · exact no_tl
/-- a state that is none -/
structure NoSt (v : V) (m : Nat) : Prop where
  th : ∃ ty, ∀ (K : PySem.W.Frag) (H : Hp), Th K H v ty
  nx : ixB v m = false
  ok : reprOk v
  so : PyData.strOk (reprV v) = true
theorem reprM : ∀ m ≤ 12, reprOk (.int ((m : Nat) : Int)) ∧ PyData.strOk (reprV (.int ((m : Nat) : Int))) = true := by
  have h1 : ∀ m ≤ 12, ((m : Nat) : Int).natAbs.log2 < 1920 := by decide +kernel
  have h2 : ∀ m ≤ 12, PyData.strOk (reprV (.int ((m : Nat) : Int))) = true := by decide +kernel
  exact fun m hm => ⟨h1 m hm, h2 m hm⟩
theorem nost_ok {v : V} {m : Nat} (hm : m ≤ 12) (h : v ∈ [V.int (-1), V.int (m : Int), V.bl true, V.non, V.str "0", V.int (10 ^ Int.toNat 30)]) : NoSt v m := by
  have h30 : (10 : Int) ^ Int.toNat 30 > 12 := by decide +kernel
  simp only [List.mem_cons, List.not_mem_nil, or_false] at h
  rcases h with rfl | rfl | rfl | rfl | rfl | rfl
  · exact ⟨⟨_, fun K H => .int _⟩, by unfold ixB; simp, (by show (Int.natAbs (-1)).log2 < 1920; decide +kernel), by decide +kernel⟩
  · exact ⟨⟨_, fun K H => .int _⟩, by unfold ixB; simp, (reprM m hm).1, (reprM m hm).2⟩
  · exact ⟨⟨_, fun K H => .bl _⟩, rfl, trivial, by decide +kernel⟩
  · exact ⟨⟨_, fun K H => .non⟩, rfl, trivial, by decide +kernel⟩
  · exact ⟨⟨_, fun K H => .str _ (by decide +kernel)⟩, rfl, (by show (PySem.reprText "0").length ≤ sizeLine; exact Nat.le_trans (by decide +kernel : _ ≤ 10) (by decide)), by decide +kernel⟩
  · refine ⟨⟨_, fun K H => .int _⟩, ?_, (by show (Int.natAbs (10 ^ Int.toNat 30)).log2 < 1920; decide +kernel), by decide +kernel⟩
    show (decide ((0 : Int) ≤ 10 ^ Int.toNat 30) && decide ((10 : Int) ^ Int.toNat 30 < (m : Int))) = false
    rw [decide_eq_false (by omega : ¬ ((10 : Int) ^ Int.toNat 30 < (m : Int)))]
    simp
abbrev dState (v : V) : PyData := .tuple [.str "state", .str (reprV v)]
theorem dState_l {v : V} (h : PyData.strOk (reprV v) = true) : (dState v).canLay0 = true := by
  have : PyData.strOk ("state" : Str) = true := by decide +kernel
  simp [PyData.canLay0, PyData.canLayAll0, this, h]
theorem dState_s {v : V} (h : PyData.strOk (reprV v) = true) : SeqAt.shaped (dState v) = true := shaped_of (dState_l h) (by simp only [PyData.depth, PyData.depthAll]; omega)
/-- a turn: the pen, the deeds, the plain machine, the machine -/
structure Mn (K : PySem.W.Frag) (C : Addr) (H : Hp) (d c : Addr) (n : Nat) (dl p x : Addr) (ws : List Str) (rs : List (List Int)) (ss : List Str) (st : Int) : Prop where
  pen : PenAt H d c n
  hdl : H dl = some (.lst (ws.map V.str))
  npd : p ≠ d
  pl : PlainAt H p ws rs ss st
  mac : MachAt K C H x ws rs ss st
theorem Mn.same {K : PySem.W.Frag} {C : Addr} {H H' : Hp} {d c : Addr} {n : Nat} {dl p x : Addr} {ws : List Str} {rs : List (List Int)} {ss : List Str} {st : Int} (t : Mn K C H d c n dl p x ws rs ss st) (s : Same H H') : Mn K C H' d c n dl p x ws rs ss st :=
  ⟨t.pen.same s, s _ _ t.hdl, t.npd, t.pl.same s, t.mac.same s⟩
theorem PlainAt.kd {H H' : Hp} {d p : Addr} {kv : List (Key × V)} {ws : List Str} {rs : List (List Int)} {ss : List Str} {st : Int} (h : PlainAt H p ws rs ss st) (hd : H d = some (.dK kv)) (n : p ≠ d) (k : Kept d H H') : PlainAt H' p ws rs ss st := by
  obtain ⟨t, r, l, as, h1, h2, h3, h4, h5⟩ := h
  have ne : ∀ {a : Addr} {xs : List V}, H a = some (.lst xs) → a ≠ d := fun e => ne_of e hd (by intro z; cases z)
  exact ⟨t, r, l, as, k _ _ h1 n, k.seqF hd (fun o ys e => by cases e) h2, k _ _ h3 (ne h3), k _ _ h4 (ne h4), ⟨h5.1, fun i a q e1 e2 => k _ _ (h5.2 i a q e1 e2) (ne (h5.2 i a q e1 e2))⟩⟩
theorem Mn.kept {K : PySem.W.Frag} {C : Addr} {H H' : Hp} {d c : Addr} {n n' : Nat} {dl p x : Addr} {ws : List Str} {rs : List (List Int)} {ss : List Str} {st : Int} (t : Mn K C H d c n dl p x ws rs ss st) (k : Kept d H H') (hp : PenAt H' d c n') : Mn K C H' d c n' dl p x ws rs ss st := by
  obtain ⟨kv, hd⟩ := t.pen.dk
  exact ⟨hp, k _ _ t.hdl (ne_of t.hdl hd (by intro z; cases z)), t.npd, t.pl.kd hd t.npd k, t.mac.kd hd k⟩
def spLaw (K : PySem.W.Frag) : Sp := fun vs H Q _ => ∃ (a : Addr) (ns : List Int), vs = [.ref a] ∧ SqL K H a (ns.map V.int) ∧ ns.length ≤ 63 ∧ ∀ H', Q (.bl true) H'
theorem allU_small : ∀ w ≤ 3, ∀ n ≤ 4, (allU w (n - 1)).length ≤ 900 := by decide +kernel
section
variable {P : Program} {w : World} {K : PySem.W.Frag} {mg : Str → Option Value} {base : Heap} {C CB : Addr}
theorem ok_law (F : Fs P w K mg base C CB) {f fF : Addr} {fd fdF : FuncData} (FL : Fun K "law" "law" sLaw f fd) (DF : Df K mg "_law_far_right" sFar pFar fF fdF) : FnOk P w K mg base CX0 8 f fd ["_law_script"] (spLaw K) := by
  have GF : FnOk P w K mg base CX0 7 fF fdF pFar (spFar K) := ok_far F DF
  obtain ⟨T2, M, ⟨fE, fdE, mgE, kpE, bE, GE⟩, ⟨fD, fdD, mgD, kpD, bD, GD⟩, ⟨fK, fdK, mgK, kpK, bK, GK⟩, ⟨fW, fdW, mgW, kpW, bW, GW⟩, ⟨fN, fdN, mgN, kpN, bN, GN⟩, ⟨fL, fdL, mgL, kpL, bL, GL⟩, ⟨fM, fdM, mgM, kpM, bM, GM⟩, ⟨fP, fdP, mgP, kpP, bP, GP⟩, ⟨fR, fdR, mgR, kpR, bR, GR⟩, _, ⟨fA, fdA, MA, bA, GA⟩, hrp⟩ := F
  have T1 : Bt mg := T2.toBt
  refine FL.ok scLaw (fun vs H Q E h => ?_) (fun cdv A outer s H vs Q E hr h => ?_)
  · obtain ⟨a, ns, rfl, _⟩ := h
    rfl
  · obtain ⟨a, ns, rfl, ha, hns, k⟩ := h
    have hu := hu_of hr
    have hr1 : Room 1 (cxOf CX0 P w K mg base nLaw "law" (defScope sLaw) f cdv A outer s H E).nox.A := hr.mono (by decide)
    have hr2 : Room 2 (cxOf CX0 P w K mg base nLaw "law" (defScope sLaw) f cdv A outer s H E).nox.A := hr.mono (by decide)
    have hr3 : Room 3 (cxOf CX0 P w K mg base nLaw "law" (defScope sLaw) f cdv A outer s H E).nox.A := hr.mono (by decide)
    have hr4 : Room 4 (cxOf CX0 P w K mg base nLaw "law" (defScope sLaw) f cdv A outer s H E).nox.A := hr.mono (by decide)
    refine ⟨_, pss_cons (ps_set (i := 1) scLaw.nd rfl (Or.inl rfl) (pe_call GE hr1 rfl mgE kpE bE .nil pass0 (pa_cons (pv 0) pa_nil)))
      (pss_cons (ps_for PassesOwn.never rfl (pi_range1 rfl T1.range (pa_cons (pe_op op_add pe_int (pe_callB (call_min2 rfl) (by rfl) T2.min PyProof.Rows.boot_min (pa_cons pe_int (pa_cons (pe_callB call_len (by rfl) T1.len PySem.boot_len (pa_cons (pv 0) pa_nil)) pa_nil)))) pa_nil)) (pg_name (i := 2) scLaw.nd rfl (Or.inl rfl))
        (pss_cons (ps_set (i := 3) scLaw.nd rfl (Or.inl rfl) (pe_call GW hr3 rfl mgW kpW bW .nil pass0 (pa_cons (pv 1) (pa_cons (pe_op op_add pe_int (pe_call GD hr1 rfl mgD kpD bD .nil pass0 (pa_cons (pv 1) (pa_cons pe_int pa_nil)))) pa_nil))))
        (pss_cons (ps_set (i := 4) scLaw.nd rfl (Or.inl rfl) (pe_call GL hr3 rfl mgL kpL bL .nil pass0 (pa_cons (pv 1) (pa_cons (pv 3) (pa_cons pe_int (pa_cons (pe_lst (pa_cons pe_str (pa_cons pe_str pa_nil))) pa_nil))))))
        (pss_cons (ps_par (i := 5) (j := 6) (by rfl) scLaw.nd rfl rfl (by decide) rfl rfl (pa_cons (pe_call GM hr rfl mgM kpM bM .nil pass0 (pa_cons (pv 4) pa_nil))
            (pa_cons (pe_callB call_len (by rfl) T1.len PySem.boot_len (pa_cons (pe_dget hu (pv 4) pe_str (fun _ _ => rfl)) pa_nil)) pa_nil)) (by rfl))
        (pss_cons (ps_for PassesOwn.never rfl (pi_range1 rfl T1.range (pa_cons (pv 6) pa_nil)) (pg_name (i := 7) scLaw.nd rfl (Or.inl rfl))
          (pss_one (ps_for PassesOwn.never rfl (pi_range1 rfl T1.range (pa_cons (pv 6) pa_nil)) (pg_name (i := 8) scLaw.nd rfl (Or.inl rfl))
            (pss_cons (ps_set (i := 9) scLaw.nd rfl (Or.inl rfl) (pe_call GP hr2 rfl mgP kpP bP .nil pass0 (pa_cons (pv 4) (pa_cons (pv 7) (pa_cons (pv 8) pa_nil)))))
            (pss_one (ps_if (pt_cmpR (op_neD hr.units) (pe_meth (pv 5) M.cl MA GA hr3 bA .nil passL (pa_cons (pv 7) (pa_cons (pv 8) pa_nil)))
                (pe_ifExp (pt_cmpR op_isN (pv 9) pe_non (nomark _)) pe_non (pe_call GN hr1 rfl mgN kpN bN .nil pass0 (pa_cons (pv 3) (pa_cons (pv 9) pa_nil)))) (nomark _)) (pss_one (ps_ret pe_bl)) pss_nil))))))
        (pss_cons (ps_par (i := 7) (j := 10) (by rfl) scLaw.nd rfl rfl (by decide) rfl rfl (pa_cons (pe_call GD hr1 rfl mgD kpD bD .nil pass0 (pa_cons (pv 1) (pa_cons (pv 6) pa_nil)))
            (pa_cons (pe_call GK hr2 rfl mgK kpK bK .nil pass0 (pa_cons (pv 1) (pa_cons (pe_lst (pa_cons (pe_un un_neg pe_int) (pa_cons (pv 6) (pa_cons pe_bl (pa_cons pe_non (pa_cons pe_str (pa_cons (pe_op op_pow pe_int pe_int) pa_nil))))))) pa_nil))) pa_nil)) (by rfl))
        (pss_cons (ps_if (PW.pt (pw_or (pt_cmpR (op_neD hr.units) (pe_call GR hr4 rfl mgR kpR bR .nil pass0 (pa_cons (pv 5) (pa_cons (pv 10) (pa_cons (pv 7) pa_nil)))) (pe_tup (pa_cons pe_str (pa_cons (pe_callB call_repr_any (by rfl) hrp PyProof.Rows.boot_repr (pa_cons (pv 10) pa_nil)) pa_nil))) (nomark _))
            (pw_or1 (pt_cmpR (op_neD hr.units) (pe_call GR hr4 rfl mgR kpR bR .nil pass0 (pa_cons (pv 5) (pa_cons (pv 7) (pa_cons (pv 10) pa_nil)))) (pe_tup (pa_cons pe_str (pa_cons (pe_callB call_repr_any (by rfl) hrp PyProof.Rows.boot_repr (pa_cons (pv 10) pa_nil)) pa_nil))) (nomark _))))) (pss_one (ps_ret pe_bl)) pss_nil)
        (pss_one (ps_if (PW.pt (pw_or (pt_cmpR (op_neD hr.units) (pe_call GR hr4 rfl mgR kpR bR .nil pass0 (pa_cons (pv 5) (pa_cons (pv 10) (pa_cons (pe_op op_add (pv 6) pe_int) pa_nil)))) (pe_tup (pa_cons pe_str (pa_cons (pe_callB call_repr_any (by rfl) hrp PyProof.Rows.boot_repr (pa_cons (pv 10) pa_nil)) pa_nil))) (nomark _))
            (pw_or1 (pt_cmpR op_notN (pe_call GR hr4 rfl mgR kpR bR .nil pass0 (pa_cons (pv 5) (pa_cons (pv 7) (pa_cons (pv 7) pa_nil)))) pe_non (nomark _))))) (pss_one (ps_ret pe_bl)) pss_nil)))))))))
      (pss_one (ps_ret (pe_call GF hr rfl DF.g DF.F.kp DF.b .nil pass0 (pa_cons (pv 1) (pa_cons (pe_call GW hr3 rfl mgW kpW bW .nil pass0 (pa_cons (pv 1) (pa_cons pe_int pa_nil))) pa_nil)))))), ?_⟩
    refine ⟨_, rfl, a, ns, rfl, ha, hns, fun d cc Hs hd0 hc0 hpen0 sm0 => ?_⟩
    refine ⟨_, rfl, _, ns.length, rfl, .inl ⟨_, sm0.seq ha, (List.length_map _).symm⟩, _, _, rfl, _, _, rfl, rfl, ?_⟩
    obtain ⟨J, eJ, hJ⟩ : ∃ J : Nat, (6 + (if (ns.length : Int) < 8 then (ns.length : Int) else 8)) = (J : Int) ∧ J ≤ 14 := by
      by_cases h : (ns.length : Int) < 8
      · rw [if_pos h]; exact ⟨6 + ns.length, by omega, by omega⟩
      · rw [if_neg h]; exact ⟨14, by omega, by omega⟩
    refine ⟨(J : Int), by rw [← eJ], by omega, by omega, ?_⟩
    rw [Int.toNat_natCast]
    refine for_range (lo := 0) (n := J) (fun i σ H' => ∃ (v2 v3 v4 v5 v6 v7 v8 v9 v10 : Option V) (n : Nat), σ = [some (.ref a), some (.ref d), v2, v3, v4, v5, v6, v7, v8, v9, v10] ∧ PenAt H' d cc n ∧ n ≤ 1000 * i) ?_ ?_ ?_
    · exact ⟨_, _, _, _, _, _, _, _, _, 0, rfl, hpen0, Nat.le_refl _⟩
    · rintro i σ H1 hi ⟨v2, v3, v4, v5, v6, v7, v8, v9, v10, n, rfl, hp1, hn⟩
      -- deeds
      refine ⟨_, rfl, _, rfl, d, cc, n, 3, rfl, hp1, by omega, by decide, by decide, fun r0 H2 r00 r01 hp2 kp2 => ⟨_, _, rfl, rfl, ?_⟩⟩
      obtain ⟨M', eM, hM'⟩ : ∃ M' : Nat, 1 + r0 = (M' : Int) ∧ (1 ≤ M' ∧ M' ≤ 3) := ⟨(1 + r0).toNat, by omega, by omega, by omega⟩
      refine ⟨d, cc, n + 1, M', by show [V.ref d, V.int (1 + r0)] = _; rw [eM], hp2, by omega, by omega, fun dl ws H3 hdl0 hdl3 hwl hnd hwd heq hp3 kp3 => ?_⟩
      have gd : GoodD ws := ⟨hnd, hwd, by omega, by omega⟩
      have ndl : dl ≠ d := (hp2.ne hdl0).1
      -- plain
      refine ⟨_, rfl, _, rfl, Nat.le_of_ble_eq_true rfl, fun lm hlm => ?_⟩
      have s4 := same_upd (o := .lst [V.str "yes", V.str "no"]) hlm
      have hlm4 : upd H3 lm (.lst [V.str "yes", V.str "no"]) lm = some (.lst (menu.map V.str)) := upd_same
      have nlm := (hp3.ne hlm).1
      have hp4 := hp3.same s4
      have hdl4 := s4 _ _ hdl3
      generalize upd H3 lm (.lst [V.str "yes", V.str "no"]) = H4 at s4 hlm4 hp4 hdl4 ⊢
      refine ⟨d, cc, dl, lm, _, 4, ws, menu, rfl, hp4, by omega, SqL.of hdl4, ndl, by omega, SqL.of hlm4, nlm, by decide, by decide, by decide, by decide, fun p rs ss st H5 hp0 pl gp hm4 hp5 kp5 => ?_⟩
      have npd := (hp4.ne hp0).1
      have pt : Parts ws rs ss st := ⟨gd, ⟨gp.many.1, by have := gp.many.2; omega⟩, gp.row, ⟨gp.tl.1, fun z hz => menu_tl (gp.tl.2 z hz)⟩, gp.st⟩
      have oss : OkS ss := fun z hz => ok_chars fun c hc => (pt.tl.2 z hz).2.2 c hc
      have ows : OkS ws := ok_wd gd.wd
      have hus : (allU ws.length (rs.length - 1)).length ≤ 900 := allU_small _ (by omega) _ (by omega)
      -- made
      refine ⟨_, rfl, p, ws, rs, ss, st, rfl, pl, pt, fun x H6 hx0 mac s6 => ?_⟩
      have mn : Mn K C H6 d cc _ dl p x ws rs ss st := ⟨hp5.same s6, s6 _ _ (kp5 _ _ hdl4 ndl), npd, pl.same s6, mac⟩
      obtain ⟨t6, r6, l6, as6, ep6, et6, er6, el6, hR6⟩ := id mn.pl
      refine ⟨_, rfl, p, _, rfl, gRows ep6, _, rs.length, rfl, .inl ⟨_, SqL.of er6, by rw [List.length_map, hR6.1]⟩, _, _, rfl, ?_⟩
      -- all pairs
      have r4 : rs.length ≤ 4 := by omega
      have r1 : 1 ≤ rs.length := gp.many.1
      refine ⟨_, rfl, (rs.length : Int), rfl, by omega, by omega, ?_⟩
      rw [Int.toNat_natCast]
      generalize hn6 : n + 1 + 20 + 400 = n6 at mn
      refine for_range (lo := 0) (n := rs.length) (fun i' σ H' => ∃ (v7 v8 v9 v10 : Option V), σ = [some (.ref a), some (.ref d), some (.int (0 + (i : Int))), some (.ref dl), some (.ref p), some (.ref x), some (.int (rs.length : Int)), v7, v8, v9, v10] ∧ Mn K C H' d cc n6 dl p x ws rs ss st) ?_ ?_ ?_
      · exact ⟨_, _, _, _, rfl, mn⟩
      · rintro ia σ H7 hia ⟨v7, v8, v9, v10, rfl, m7⟩
        refine ⟨_, rfl, (rs.length : Int), rfl, by omega, by omega, ?_⟩
        rw [Int.toNat_natCast]
        refine for_range (lo := 0) (n := rs.length) (fun i' σ H' => ∃ (v8 v9 v10 : Option V), σ = [some (.ref a), some (.ref d), some (.int (0 + (i : Int))), some (.ref dl), some (.ref p), some (.ref x), some (.int (rs.length : Int)), some (.int (0 + (ia : Int))), v8, v9, v10] ∧ Mn K C H' d cc n6 dl p x ws rs ss st) ?_ ?_ ?_
        · exact ⟨_, _, _, rfl, m7⟩
        · rintro ib σ H8 hib ⟨v8, v9, v10, rfl, m8⟩
          have ea : (0 : Int) + (ia : Int) = (ia : Int) := Int.zero_add _
          have eb : (0 : Int) + (ib : Int) = (ib : Int) := Int.zero_add _
          have a0 : (0 : Int) ≤ (ia : Int) := by omega
          have a1 : (ia : Int) < (rs.length : Int) := by omega
          have b0 : (0 : Int) ≤ (ib : Int) := by omega
          have b1 : (ib : Int) < (rs.length : Int) := by omega
          -- what apart tells
          have ap : ∀ {G : Hp} {Q' : VK} {E' : XK}, MachAt K C G x ws rs ss st → (∀ u q G', (allU ws.length (rs.length - 1)).find? (fun v => dif ss ss (runT [rs, rs] [(ia : Int), (ib : Int)] v)) = some u → Same G G' → G' q = some (.tup (names ws u)) → Q' (.ref q) G') →
              (∀ G', (allU ws.length (rs.length - 1)).find? (fun v => dif ss ss (runT [rs, rs] [(ia : Int), (ib : Int)] v)) = none → Same G G' → Q' .non G') → spApart K C CB [.ref x, .int (0 + (ia : Int)), .int (0 + (ib : Int))] G Q' E' := fun {G Q' E'} m kS kN => by
            rw [ea, eb]
            exact ⟨x, .int ia, .int ib, "int", "int", ws, rs, ss, st, rfl, m, pt, thp_int _, thp_int _, .inr (.inr ⟨ia, ib, rfl, rfl, a0, a1, b0, b1, fun u q G' hf _ sG eG => kS u q G' (first_find pt a0 a1 b0 b1 hf) sG eG, fun G' hno sG => kN G' (hno _) sG⟩)⟩
          -- row
          refine ⟨_, rfl, _, rfl, _, rfl, p, (ia : Int), (ib : Int), ws, rs, ss, st, by rw [ea, eb]; rfl, m8.pl, pt, a0, a1, b0, b1, hus, fun u q H9 hf s9 hq => ?_, fun H9 hf s9 => ?_⟩
          · -- a row parts them
            have m9 := m8.same s9
            obtain ⟨dx, _, _, _, _, gx, _⟩ := id m9.mac
            refine ⟨_, rfl, x, dx, _, rfl, gx, mf_no _ _ _ _ (by decide +kernel) (by decide +kernel) (by decide +kernel) (by decide +kernel), _, rfl, _, rfl, ?_⟩
            (try delta tCons); (try delta tC); (try delta tNil); (try delta tOp); (try delta tVar)
            show spApart K C CB [.ref x, .int (0 + (ia : Int)), .int (0 + (ib : Int))] H9 _ _
            refine ap m9.mac (fun u' p1 H10 hf' s10 e10 => ?_) (fun H10 hf' s10 => by rw [hf] at hf'; cases hf')
            obtain rfl : u = u' := by rw [hf] at hf'; exact Option.some.inj hf'
            have m10 := m9.same s10
            obtain ⟨_, hlet, _⟩ := find_len hf
            refine ⟨_, rfl, rfl, _, rfl, ?_⟩
            refine iteF ?_
            refine ⟨_, rfl, _, rfl, dl, q, ws, toI u, rfl, SqL.of m10.hdl, hq.ext s10, ix_toI hlet, ?_, fun p2 H11 hp2 s11 e11 => ?_⟩
            · have := (find_len hf).1
              rw [toI, List.length_map]; omega
            rw [nm_toI] at e11
            have hz : ∀ z ∈ u.map (fun k => ws.getD k ""), PyData.strOk z = true := fun z hz => by
              obtain ⟨k, hk, rfl⟩ := List.mem_map.mp hz
              exact ows _ (List.mem_of_getElem? (getD_get ("" : Str) (hlet k hk)))
            have el : (PyData.tuple ((u.map fun k => ws.getD k "").map PyData.str)).canLay0 = true := by rw [PyData.canLay0, canLay_strs _ hz]
            rw [names_str] at e10 e11
            refine ⟨_, _, .tup (SqT.of (s11 _ _ e10)) (dp_strs _), .tup (SqT.of e11) (dp_strs _), shaped_strs hz, shaped_strs hz, _, rfl, ?_⟩
            rw [PySem.SeqAt.eqv_refl _ el]
            refine iteF ?_
            exact ⟨_, _, _, rfl, m10.same s11⟩
          · -- no row does
            have m9 := m8.same s9
            obtain ⟨dx, _, _, _, _, gx, _⟩ := id m9.mac
            refine ⟨_, rfl, x, dx, _, rfl, gx, mf_no _ _ _ _ (by decide +kernel) (by decide +kernel) (by decide +kernel) (by decide +kernel), _, rfl, _, rfl, ?_⟩
            (try delta tCons); (try delta tC); (try delta tNil); (try delta tOp); (try delta tVar)
            show spApart K C CB [.ref x, .int (0 + (ia : Int)), .int (0 + (ib : Int))] H9 _ _
            refine ap m9.mac (fun u' p1 H10 hf' s10 e10 => by rw [hf] at hf'; cases hf') (fun H10 hf' s10 => ?_)
            refine ⟨_, rfl, rfl, _, rfl, ?_⟩
            refine iteT ?_
            refine ⟨.none, .none, .non, .non, shaped_of rfl (by decide), shaped_of rfl (by decide), _, rfl, ?_⟩
            rw [PySem.SeqAt.eqv_refl _ rfl]
            refine iteF ?_
            exact ⟨_, _, _, rfl, m9.same s10⟩
        · rintro σ H8 ⟨v8, v9, v10, rfl, m8⟩
          exact ⟨_, _, _, _, rfl, m8⟩
      · rintro σ H7 ⟨v7, v8, v9, v10, rfl, m7⟩
        -- a, odd
        refine ⟨_, rfl, _, rfl, d, cc, _, (rs.length : Int), rfl, m7.pen, by omega, by omega, by omega, fun av H8 av0 av1 p8 k8 => ?_⟩
        have m8 := m7.kept k8 p8
        refine ⟨_, rfl, 1, rfl, _, rfl, _, _, rfl, rfl, ⟨by decide, by decide, by decide⟩, Nat.le_of_ble_eq_true rfl, fun q2 hq2 => ?_⟩
        have sq2 := same_upd (o := .lst [V.int (-1), V.int (rs.length : Int), V.bl true, V.non, V.str "0", V.int (10 ^ Int.toNat 30)]) hq2
        have m9 := m8.same sq2
        refine ⟨d, cc, q2, _, _, rfl, m9.pen, by omega, (m8.pen.ne hq2).1, SqL.of upd_same, Nat.le_of_ble_eq_true rfl, Nat.le_of_ble_eq_true rfl, fun od H11 hod p11 k11 => ⟨_, _, rfl, ?_⟩⟩
        have nost := nost_ok (by omega : rs.length ≤ 12) hod
        have m11 := m9.kept k11 p11
        obtain ⟨⟨ty, hth⟩, nx, ok, so⟩ := nost
        have thp : ∀ G, ThP K G od ty := fun G G' _ => hth K G'
        have avx : ixB (.int av) rs.length = true := ix_of av0 av1
        -- odd first
        have r1 : ∀ {G : Hp} {Q' : VK} {E' : XK} (vb : V) (tb : String) (m' : Nat), Mn K C G d cc m' dl p x ws rs ss st → ThP K G vb tb → (∀ q G', Same G G' → G' q = some (.tup [.str "state", .str (reprV od)]) → Q' (.ref q) G') → spRefA K C [.ref x, od, vb] G Q' E' := fun {G Q' E'} vb tb m' m hb kq =>
          ⟨x, od, vb, ty, tb, ws, rs, ss, st, rfl, m.mac, pt, thp G, hb, .inl ⟨nx, ok, fun q G' s1 _ e => kq q G' s1 e⟩⟩
        have tD : ∀ {G : Hp} {q : Addr}, G q = some (.tup [.str "state", .str (reprV od)]) → Dp K G (.ref q) (dState od) := fun h => .tup (SqT.of h) (.cons (.str _) (.cons (.str _) .nil))
        have el := dState_l so
        have es := dState_s so
        refine ⟨_, rfl, _, rfl, _, rfl, ?_⟩
        (try delta tCons); (try delta tC); (try delta tNil); (try delta tOp); (try delta tVar)
        show spRefA K C [.ref x, od, .int av] H11 _ _
        refine r1 (.int av) "int" _ m11 (thp_int av) fun q3 H12 s12 e12 => ?_
        refine ⟨od, rfl, od, rfl, ok, Nat.le_of_ble_eq_true rfl, fun t4 ht4 => ?_⟩
        have s13 := same_upd (o := .tup [V.str "state", V.str (reprV od)]) ht4
        refine ⟨_, _, tD (s13 _ _ e12), tD upd_same, es, es, _, rfl, ?_⟩
        rw [PySem.SeqAt.eqv_refl _ el]
        refine iteF ?_
        have m13 := (m11.same s12).same s13
        generalize upd H12 t4 (.tup [V.str "state", V.str (reprV od)]) = H13 at m13 ⊢
        -- odd second
        refine ⟨_, rfl, _, rfl, _, rfl, x, .int av, od, "int", ty, ws, rs, ss, st, rfl, m13.mac, pt, thp_int av, thp _, .inr (.inl ⟨avx, nx, ok, fun q5 H14 s14 _ e14 => ?_⟩)⟩
        refine ⟨od, rfl, od, rfl, ok, Nat.le_of_ble_eq_true rfl, fun t6 ht6 => ?_⟩
        have s15 := same_upd (o := .tup [V.str "state", V.str (reprV od)]) ht6
        refine ⟨_, _, tD (s15 _ _ e14), tD upd_same, es, es, _, rfl, ?_⟩
        rw [PySem.SeqAt.eqv_refl _ el]
        refine iteF ?_
        have m15 := (m13.same s14).same s15
        generalize upd H14 t6 (.tup [V.str "state", V.str (reprV od)]) = H15 at m15 ⊢
        -- odd, and one beyond
        refine ⟨_, rfl, _, rfl, _, rfl, _, _, rfl, rfl, ?_⟩
        (try delta tCons); (try delta tC); (try delta tNil); (try delta tOp); (try delta tVar)
        show spRefA K C [.ref x, od, .int ((rs.length : Int) + 1)] H15 _ _
        refine r1 (.int ((rs.length : Int) + 1)) "int" _ m15 (thp_int _) fun q7 H16 s16 e16 => ?_
        refine ⟨od, rfl, od, rfl, ok, Nat.le_of_ble_eq_true rfl, fun t8 ht8 => ?_⟩
        have s17 := same_upd (o := .tup [V.str "state", V.str (reprV od)]) ht8
        refine ⟨_, _, tD (s17 _ _ e16), tD upd_same, es, es, _, rfl, ?_⟩
        rw [PySem.SeqAt.eqv_refl _ el]
        refine iteF ?_
        have m17 := (m15.same s16).same s17
        generalize upd H16 t8 (.tup [V.str "state", V.str (reprV od)]) = H17 at m17 ⊢
        -- a and a
        refine ⟨_, rfl, _, rfl, _, rfl, x, .int av, .int av, "int", "int", ws, rs, ss, st, rfl, m17.mac, pt, thp_int av, thp_int av, .inr (.inr ⟨av, av, rfl, rfl, av0, av1, av0, av1, fun H18 s18 => ?_⟩)⟩
        refine ⟨rfl, _, rfl, ?_⟩
        refine iteF ?_
        exact ⟨_, _, _, _, _, _, _, _, _, _, rfl, (m17.same s18).pen, by omega⟩
    · rintro σ H1 ⟨v2, v3, v4, v5, v6, v7, v8, v9, v10, n, rfl, hp1, hn⟩
      refine ⟨_, rfl, _, rfl, d, cc, n, 2, rfl, hp1, by omega, by decide, fun dl ws H3 hdl0 hdl3 hwl hnd hwd heq hp3 kp3 => ?_⟩
      exact ⟨d, cc, dl, _, ws, rfl, hp3, by omega, hdl3, ⟨hnd, hwd, by omega, by omega⟩, hwl, fun H' => k H'⟩
end
end K1
set_option Elab.async false
set_option linter.all false
set_option maxRecDepth 100000
/-! the end of a law whose defs make lambdas: the tables of all defs -/
namespace K1
open PySem PySem.Spec PyProof.Rows L2 LamX
/-- the code object of each def of the text and its table, still empty -/
def OwnTabs (q : Program) (mg : Str → Option Value) (h : Heap) : Prop :=
  ∀ e ∈ recsOf q, ∃ (f : Addr) (o : Obj) (fd : FuncData) (c P : Addr), mg e.name = some (.ref f) ∧ h.get? f = some o ∧ o.data = .func fd ∧ fd.code = .ref c ∧ PySem.W.CodeHd h c P ∧ h.get? P = some { cls := .none, data := .fields #[] }
theorem tab_at {q : Program} {mg : Str → Option Value} {K : PySem.W.Frag} {h : Heap} {x : Str} {f c P : Addr} {oc e : Value} {od dd : Option Addr} {fd : FuncData} {sl s2 : Array (Option Value)} {vs : Array Value} (X : K.In h) (O : OwnTabs q mg h) (hx : ((recsOf q).any fun e => e.name == x) = true)
    (g : mg x = some (.ref f)) (l : K.lookup f = some ⟨oc, od, .func fd, sl⟩) (hc : fd.code = .ref c) (lc : K.lookup c = some ⟨e, dd, .fields vs, s2⟩) (h11 : vs[11]? = some (.ref P)) : PySem.W.CodeHd h c P ∧ h.get? P = some { cls := .none, data := .fields #[] } := by
  obtain ⟨r, hr, er⟩ := List.any_eq_true.mp hx
  obtain ⟨f', o, fd', c', P', a1, a2, a3, a4, a5, a6⟩ := O r hr
  rw [beq_iff_eq.mp er, g] at a1
  cases a1
  rw [X _ _ l] at a2
  cases a2
  cases a3
  rw [hc] at a4
  cases a4
  obtain ⟨o, ws, _, _, _, _, _, _, _, b1, _, b3, b4, _⟩ := id a5
  rw [X _ _ lc] at b1
  cases b1
  cases b3
  rw [h11] at b4
  cases b4
  exact ⟨a5, a6⟩
theorem walk_tabs {l : PySem.W.OpenLaw} {n k : Nat} {q : Program} {loose : List Str} {XP : (Str → Option Value) → Heap → Prop} {YP : World → Heap → Prop} {d : DefRec} {K : Params → PySem.W.Frag} {CX : World → CXT} {x : Str}
    (hn : l.most = some n) (hs : n ≤ sizeLine) (hd : d.params.defaults = []) (hr : Room k callerA) (hY : ∀ (w : World) (h : Heap), YP w h → (K w.params).In h)
    (F : ∀ (w : World) (mg : Str → Option Value) (fa : Addr) (h : Heap), YP w h → (K w.params).In h → h.Ns mainGlobals mg → mg d.name = some (.ref fa) → OwnTabs q mg h → LawAtS l w (K w.params) (CX w) k n x mg fa h)
    (hC : ∀ (w : World) (H : Hp) (s : Shared) (e : Value) (s' : Shared), CX w [] H s (fun _ _ _ => False) e s' → False) :
    PySem.W.WalkO q loose XP YP l.row.toRowW d [] (fun f vs => PySem.call f vs) := by
  refine Att.attach_callB hn hd ?_
  intro w s₀ s₁ mg mb fa o pm cd doc a vs ns G Y ho hdt hcd hmg hobj hints hlen hbits hg
  have tabs : OwnTabs q mg s₁.heap := fun e he => by
    obtain ⟨f, o, fd, c, P, b1, b2, b3, b4, b5, b6⟩ := G.T.tab e he
    exact ⟨f, o, fd, c, P, b1, b2, b3, b4, PySem.W.CodeHd.of b5 b6, b6.2⟩
  obtain ⟨fd, cs, sp, t1, t2, t3, b, s, f⟩ := F w mg fa _ Y (hY w _ Y) G.T.g hmg tabs
  exact law_callTs (hY w _ Y) G.T.g G.T.b G.T.builtins G.T.nolimit hg t1 t2 t3 G.T.bmain hobj hints (Nat.le_trans hlen hs) hr f b (fun H hH hS => s H a ns hlen hbits hH hS) fun H e s' => hC w H s₁ e s'
theorem exm_of {K : PySem.W.Frag} {S N : Addr} {b : Bool} (h1 : PySem.W.subIn K (.ref N) (.type "BaseException") = some true) (h2 : PySem.W.isClsIn K N = true) (h3 : PySem.W.typeIn K (.ref N) = some (.type "type")) (h4 : PySem.W.subIn K (.ref S) (.ref N) = some b) :
    PySem.W.exmOne K (.ref S) (.ref N) = some b := by
  have e1 : (PySem.W.subIn K (.ref N) (.type "BaseException") == some true) = true := by rw [h1] <;> rfl
  have e2 : ((PySem.W.clsIn K N).isSome && PySem.W.typeIn K (.ref N) == some (.type "type")) = true := by
    have h2' : (PySem.W.clsIn K N).isSome = true := h2
    rw [h2', h3] <;> rfl
  show (if (PySem.W.subIn K (.ref N) (.type "BaseException") == some true) = true then (if ((PySem.W.clsIn K N).isSome && PySem.W.typeIn K (.ref N) == some (.type "type")) = true then PySem.W.subIn K (.ref S) (.ref N) else none) else none) = some b
  rw [if_pos e1, if_pos e2]
  exact h4
end K1
set_option Elab.async false
set_option linter.all false
set_option maxRecDepth 100000
namespace K1
open PySem PyProof.Rows L2 LamX
set_option maxHeartbeats 0 in
theorem all_mk {l : PySem.W.OpenLaw} {q : Program} {w : World} {K : PySem.W.Frag} {h : Heap} {mg : Str → Option Value}
    {E0 f1 f2 f3 f4 f5 f6 f7 f8 f9 f10 f11 f12 f13 f14 f15 f16 f17 f18 f19 f20 f21 f22 f23 f24 f25 C f26 T26 f27 EB NB f28 fa : Addr}
    {od1 an1 od2 an2 od3 an3 od4 an4 od5 an5 od6 an6 od7 an7 od8 an8 od9 an9 od10 an10 od11 an11 od12 an12 od13 an13 od14 an14 od15 an15 od16 an16 od17 an17 od18 an18 od19 an19 od20 an20 od21 an21 od22 an22 od23 an23 od24 an24 od25 an25 odT26 od26 an26 od27 an27 ddB od28 an28 : Option Addr}
    {sl1 sl2 sl3 sl4 sl5 sl6 sl7 sl8 sl9 sl10 sl11 sl12 sl13 sl14 sl15 sl16 sl17 sl18 sl19 sl20 sl21 sl22 sl23 sl24 sl25 slT26 sl26 sl27 sl28 : Array (Option Value)}
    {oc1 kV1 dc1 pm1 ct1 cd1 oc2 kV2 dc2 pm2 ct2 cd2 oc3 kV3 dc3 pm3 ct3 cd3 oc4 kV4 dc4 pm4 ct4 cd4 oc5 kV5 dc5 pm5 ct5 cd5 oc6 kV6 dc6 pm6 ct6 cd6 oc7 kV7 dc7 pm7 ct7 cd7 oc8 kV8 dc8 pm8 ct8 cd8 oc9 kV9 dc9 pm9 ct9 cd9 oc10 kV10 dc10 pm10 ct10 cd10 oc11 kV11 dc11 pm11 ct11 cd11 oc12 kV12 dc12 pm12 ct12 cd12 oc13 kV13 dc13 pm13 ct13 cd13 oc14 kV14 dc14 pm14 ct14 cd14 oc15 kV15 dc15 pm15 ct15 cd15 oc16 kV16 dc16 pm16 ct16 cd16 oc17 kV17 dc17 pm17 ct17 cd17 oc18 kV18 dc18 pm18 ct18 cd18 oc19 kV19 dc19 pm19 ct19 cd19 oc20 kV20 dc20 pm20 ct20 cd20 oc21 kV21 dc21 pm21 ct21 cd21 oc22 kV22 dc22 pm22 ct22 cd22 oc23 kV23 dc23 pm23 ct23 cd23 oc24 kV24 dc24 pm24 ct24 cd24 oc25 kV25 dc25 pm25 ct25 cd25 ocT26 oc26 kV26 dc26 pm26 ct26 cd26 oc27 kV27 dc27 pm27 ct27 cd27 oc28 kV28 dc28 pm28 ct28 cd28 : Value}
    {m0B m1B m2B m3B m5B : Option Value}
    {tc0 tc1 tc2 tc3 tc4 tc5 tc6 : Tok}
    {nT26 : Nat}
    {nmB qnB : Str}
    {bsB subB : List Value}
    {snB : List Str}
    {abB : Bool}
    {colB : Option Bool}
    (X : K.In h) (G : h.Ns mainGlobals mg) (hfa : mg "law" = some (.ref fa)) (O : OwnTabs q mg h)
    (a1 : PySem.W.nsIn K mainGlobals "_law_pen" = some (some (.ref f1)))
    (l1 : K.lookup f1 = some ⟨oc1, od1, .func (PySem.W.fnOf "_law_pen" "_law_pen" (defArgs sPen) (defBody sPen) (defScope sPen) .none kV1 dc1 pm1 an1 cd1 ct1), sl1⟩)
    (c1 : PySem.W.codeIn K (cd1) "_law_pen" = true)
    (k1 : PySem.W.keepIn K (.ref f1) = true)
    (a2 : PySem.W.nsIn K mainGlobals "_law_draw" = some (some (.ref f2)))
    (l2 : K.lookup f2 = some ⟨oc2, od2, .func (PySem.W.fnOf "_law_draw" "_law_draw" (defArgs sDraw) (defBody sDraw) (defScope sDraw) .none kV2 dc2 pm2 an2 cd2 ct2), sl2⟩)
    (c2 : PySem.W.codeIn K (cd2) "_law_draw" = true)
    (k2 : PySem.W.keepIn K (.ref f2) = true)
    (a3 : PySem.W.nsIn K mainGlobals "_law_pick" = some (some (.ref f3)))
    (l3 : K.lookup f3 = some ⟨oc3, od3, .func (PySem.W.fnOf "_law_pick" "_law_pick" (defArgs sPick) (defBody sPick) (defScope sPick) .none kV3 dc3 pm3 an3 cd3 ct3), sl3⟩)
    (c3 : PySem.W.codeIn K (cd3) "_law_pick" = true)
    (k3 : PySem.W.keepIn K (.ref f3) = true)
    (a4 : PySem.W.nsIn K mainGlobals "_law_words" = some (some (.ref f4)))
    (l4 : K.lookup f4 = some ⟨oc4, od4, .func (PySem.W.fnOf "_law_words" "_law_words" (defArgs sWords) (defBody sWords) (defScope sWords) .none kV4 dc4 pm4 an4 cd4 ct4), sl4⟩)
    (c4 : PySem.W.codeIn K (cd4) "_law_words" = true)
    (k4 : PySem.W.keepIn K (.ref f4) = true)
    (a5 : PySem.W.nsIn K mainGlobals "_law_named" = some (some (.ref f5)))
    (l5 : K.lookup f5 = some ⟨oc5, od5, .func (PySem.W.fnOf "_law_named" "_law_named" (defArgs sNamed) (defBody sNamed) (defScope sNamed) .none kV5 dc5 pm5 an5 cd5 ct5), sl5⟩)
    (c5 : PySem.W.codeIn K (cd5) "_law_named" = true)
    (k5 : PySem.W.keepIn K (.ref f5) = true)
    (a6 : PySem.W.nsIn K mainGlobals "_law_plain" = some (some (.ref f6)))
    (l6 : K.lookup f6 = some ⟨oc6, od6, .func (PySem.W.fnOf "_law_plain" "_law_plain" (defArgs sPlain) (defBody sPlain) (defScope sPlain) .none kV6 dc6 pm6 an6 cd6 ct6), sl6⟩)
    (c6 : PySem.W.codeIn K (cd6) "_law_plain" = true)
    (k6 : PySem.W.keepIn K (.ref f6) = true)
    (a7 : PySem.W.nsIn K mainGlobals "_law_made" = some (some (.ref f7)))
    (l7 : K.lookup f7 = some ⟨oc7, od7, .func (PySem.W.fnOf "_law_made" "_law_made" (defArgs sMade) (defBody sMade) (defScope sMade) .none kV7 dc7 pm7 an7 cd7 ct7), sl7⟩)
    (c7 : PySem.W.codeIn K (cd7) "_law_made" = true)
    (k7 : PySem.W.keepIn K (.ref f7) = true)
    (a8 : PySem.W.nsIn K mainGlobals "_law_led" = some (some (.ref f8)))
    (l8 : K.lookup f8 = some ⟨oc8, od8, .func (PySem.W.fnOf "_law_led" "_law_led" (defArgs sLed) (defBody sLed) (defScope sLed) .none kV8 dc8 pm8 an8 cd8 ct8), sl8⟩)
    (c8 : PySem.W.codeIn K (cd8) "_law_led" = true)
    (k8 : PySem.W.keepIn K (.ref f8) = true)
    (a9 : PySem.W.nsIn K mainGlobals "_law_rows" = some (some (.ref f9)))
    (l9 : K.lookup f9 = some ⟨oc9, od9, .func (PySem.W.fnOf "_law_rows" "_law_rows" (defArgs sRowsL) (defBody sRowsL) (defScope sRowsL) .none kV9 dc9 pm9 an9 cd9 ct9), sl9⟩)
    (c9 : PySem.W.codeIn K (cd9) "_law_rows" = true)
    (k9 : PySem.W.keepIn K (.ref f9) = true)
    (a10 : PySem.W.nsIn K mainGlobals "_law_parts" = some (some (.ref f10)))
    (l10 : K.lookup f10 = some ⟨oc10, od10, .func (PySem.W.fnOf "_law_parts" "_law_parts" (defArgs sParts) (defBody sParts) (defScope sParts) .none kV10 dc10 pm10 an10 cd10 ct10), sl10⟩)
    (c10 : PySem.W.codeIn K (cd10) "_law_parts" = true)
    (k10 : PySem.W.keepIn K (.ref f10) = true)
    (a11 : PySem.W.nsIn K mainGlobals "_law_refused" = some (some (.ref f11)))
    (l11 : K.lookup f11 = some ⟨oc11, od11, .func (PySem.W.fnOf "_law_refused" "_law_refused" (defArgs sRefA) (defBody sRefA) (defScope sRefA) .none kV11 dc11 pm11 an11 cd11 ct11), sl11⟩)
    (c11 : PySem.W.codeIn K (cd11) "_law_refused" = true)
    (k11 : PySem.W.keepIn K (.ref f11) = true)
    (a12 : PySem.W.nsIn K mainGlobals "_law_far_right" = some (some (.ref f12)))
    (l12 : K.lookup f12 = some ⟨oc12, od12, .func (PySem.W.fnOf "_law_far_right" "_law_far_right" (defArgs sFar) (defBody sFar) (defScope sFar) .none kV12 dc12 pm12 an12 cd12 ct12), sl12⟩)
    (c12 : PySem.W.codeIn K (cd12) "_law_far_right" = true)
    (k12 : PySem.W.keepIn K (.ref f12) = true)
    (a13 : PySem.W.nsIn K mainGlobals "law" = some (some (.ref f13)))
    (l13 : K.lookup f13 = some ⟨oc13, od13, .func (PySem.W.fnOf "law" "law" (defArgs sLaw) (defBody sLaw) (defScope sLaw) .none kV13 dc13 pm13 an13 cd13 ct13), sl13⟩)
    (c13 : PySem.W.codeIn K (cd13) "law" = true)
    (k13 : PySem.W.keepIn K (.ref f13) = true)
    (a14 : PySem.W.nsIn K mainGlobals "is_integer" = some (some (.ref f14)))
    (l14 : K.lookup f14 = some ⟨oc14, od14, .func (PySem.W.fnOf "is_integer" "is_integer" (defArgs sIsInt) (defBody sIsInt) (defScope sIsInt) .none kV14 dc14 pm14 an14 cd14 ct14), sl14⟩)
    (c14 : PySem.W.codeIn K (cd14) "is_integer" = true)
    (k14 : PySem.W.keepIn K (.ref f14) = true)
    (a15 : PySem.W.nsIn K mainGlobals "is_index" = some (some (.ref f15)))
    (l15 : K.lookup f15 = some ⟨oc15, od15, .func (PySem.W.fnOf "is_index" "is_index" (defArgs sIsIndex) (defBody sIsIndex) (defScope sIsIndex) .none kV15 dc15 pm15 an15 cd15 ct15), sl15⟩)
    (c15 : PySem.W.codeIn K (cd15) "is_index" = true)
    (k15 : PySem.W.keepIn K (.ref f15) = true)
    (a16 : PySem.W.nsIn K mainGlobals "is_word" = some (some (.ref f16)))
    (l16 : K.lookup f16 = some ⟨oc16, od16, .func (PySem.W.fnOf "is_word" "is_word" (defArgs sIsWord) (defBody sIsWord) (defScope sIsWord) .none kV16 dc16 pm16 an16 cd16 ct16), sl16⟩)
    (c16 : PySem.W.codeIn K (cd16) "is_word" = true)
    (k16 : PySem.W.keepIn K (.ref f16) = true)
    (a17 : PySem.W.nsIn K mainGlobals "is_tell" = some (some (.ref f17)))
    (l17 : K.lookup f17 = some ⟨oc17, od17, .func (PySem.W.fnOf "is_tell" "is_tell" (defArgs sIsTell) (defBody sIsTell) (defScope sIsTell) .none kV17 dc17 pm17 an17 cd17 ct17), sl17⟩)
    (c17 : PySem.W.codeIn K (cd17) "is_tell" = true)
    (k17 : PySem.W.keepIn K (.ref f17) = true)
    (a18 : PySem.W.nsIn K mainGlobals "check_different" = some (some (.ref f18)))
    (l18 : K.lookup f18 = some ⟨oc18, od18, .func (PySem.W.fnOf "check_different" "check_different" (defArgs sCheckDiff) (defBody sCheckDiff) (defScope sCheckDiff) .none kV18 dc18 pm18 an18 cd18 ct18), sl18⟩)
    (c18 : PySem.W.codeIn K (cd18) "check_different" = true)
    (k18 : PySem.W.keepIn K (.ref f18) = true)
    (a19 : PySem.W.nsIn K mainGlobals "check_group" = some (some (.ref f19)))
    (l19 : K.lookup f19 = some ⟨oc19, od19, .func (PySem.W.fnOf "check_group" "check_group" (defArgs sCheckGroup) (defBody sCheckGroup) (defScope sCheckGroup) .none kV19 dc19 pm19 an19 cd19 ct19), sl19⟩)
    (c19 : PySem.W.codeIn K (cd19) "check_group" = true)
    (k19 : PySem.W.keepIn K (.ref f19) = true)
    (a20 : PySem.W.nsIn K mainGlobals "check_deeds" = some (some (.ref f20)))
    (l20 : K.lookup f20 = some ⟨oc20, od20, .func (PySem.W.fnOf "check_deeds" "check_deeds" (defArgs sCheckDeeds) (defBody sCheckDeeds) (defScope sCheckDeeds) .none kV20 dc20 pm20 an20 cd20 ct20), sl20⟩)
    (c20 : PySem.W.codeIn K (cd20) "check_deeds" = true)
    (k20 : PySem.W.keepIn K (.ref f20) = true)
    (a21 : PySem.W.nsIn K mainGlobals "check_rows" = some (some (.ref f21)))
    (l21 : K.lookup f21 = some ⟨oc21, od21, .func (PySem.W.fnOf "check_rows" "check_rows" (defArgs sCheckRows) (defBody sCheckRows) (defScope sCheckRows) .none kV21 dc21 pm21 an21 cd21 ct21), sl21⟩)
    (c21 : PySem.W.codeIn K (cd21) "check_rows" = true)
    (k21 : PySem.W.keepIn K (.ref f21) = true)
    (a22 : PySem.W.nsIn K mainGlobals "check_tells" = some (some (.ref f22)))
    (l22 : K.lookup f22 = some ⟨oc22, od22, .func (PySem.W.fnOf "check_tells" "check_tells" (defArgs sCheckTells) (defBody sCheckTells) (defScope sCheckTells) .none kV22 dc22 pm22 an22 cd22 ct22), sl22⟩)
    (c22 : PySem.W.codeIn K (cd22) "check_tells" = true)
    (k22 : PySem.W.keepIn K (.ref f22) = true)
    (a23 : PySem.W.nsIn K mainGlobals "next_layer" = some (some (.ref f23)))
    (l23 : K.lookup f23 = some ⟨oc23, od23, .func (PySem.W.fnOf "next_layer" "next_layer" (defArgs sNL) (defBody sNL) (defScope sNL) .none kV23 dc23 pm23 an23 cd23 ct23), sl23⟩)
    (c23 : PySem.W.codeIn K (cd23) "next_layer" = true)
    (k23 : PySem.W.keepIn K (.ref f23) = true)
    (a24 : PySem.W.nsIn K mainGlobals "row_to" = some (some (.ref f24)))
    (l24 : K.lookup f24 = some ⟨oc24, od24, .func (PySem.W.fnOf "row_to" "row_to" (defArgs sRT) (defBody sRT) (defScope sRT) .none kV24 dc24 pm24 an24 cd24 ct24), sl24⟩)
    (c24 : PySem.W.codeIn K (cd24) "row_to" = true)
    (k24 : PySem.W.keepIn K (.ref f24) = true)
    (a25 : PySem.W.nsIn K mainGlobals "first_parting" = some (some (.ref f25)))
    (l25 : K.lookup f25 = some ⟨oc25, od25, .func (PySem.W.fnOf "first_parting" "first_parting" (defArgs sFP) (defBody sFP) (defScope sFP) .none kV25 dc25 pm25 an25 cd25 ct25), sl25⟩)
    (c25 : PySem.W.codeIn K (cd25) "first_parting" = true)
    (k25 : PySem.W.keepIn K (.ref f25) = true)
    (aC : PySem.W.nsIn K mainGlobals "Machine" = some (some (.ref C)))
    (pgC : PySem.W.plainGet K C Str.empty = true)
    (hdC : PySem.W.hasDictIn K C = true)
    (poC : PySem.W.plainOver K C = true)
    (saC : PySem.W.findIn K (.ref C) "__setattr__" = some (some (.builtin "object.__setattr__")))
    (mkC : PySem.W.makesIn K C = true)
    (kcC : PySem.W.keepIn K (.ref C) = true)
    (nC_deeds : PySem.W.findIn K (.ref C) "deeds" = some none)
    (nC_rows : PySem.W.findIn K (.ref C) "rows" = some none)
    (nC_tells : PySem.W.findIn K (.ref C) "tells" = some none)
    (nC_start : PySem.W.findIn K (.ref C) "start" = some none)
    (a26 : PySem.W.findIn K (.ref C) "__init__" = some (some (.ref f26)))
    (i26 : PySem.W.isFn K (.ref f26) = true)
    (l26 : K.lookup f26 = some ⟨oc26, od26, .func (PySem.W.fnOf "__init__" "Machine.__init__" (defArgs sMInit) (defBody sMInit) (defScope sMInit) (.ref T26) kV26 dc26 pm26 an26 cd26 ct26), sl26⟩)
    (c26 : PySem.W.codeIn K (cd26) "Machine.__init__" = true)
    (k26 : PySem.W.keepIn K (.ref f26) = true)
    (lT26 : K.lookup T26 = some ⟨ocT26, odT26, .seq #[.int 0 tc0] nT26, slT26⟩)
    (a27 : PySem.W.findIn K (.ref C) "apart" = some (some (.ref f27)))
    (i27 : PySem.W.isFn K (.ref f27) = true)
    (l27 : K.lookup f27 = some ⟨oc27, od27, .func (PySem.W.fnOf "apart" "Machine.apart" (defArgs sMApart) (defBody sMApart) (defScope sMApart) .none kV27 dc27 pm27 an27 cd27 ct27), sl27⟩)
    (c27 : PySem.W.codeIn K (cd27) "Machine.apart" = true)
    (k27 : PySem.W.keepIn K (.ref f27) = true)
    (a00 : PySem.W.nsIn K mainGlobals "LooksError" = some (some (.ref E0)))
    (aB : PySem.W.nsIn K mainGlobals "BadState" = some (some (.ref EB)))
    (xB : K.lookup EB = some (excClassObj nmB qnB EB NB bsB [.ref E0, .type "ValueError", .type "Exception", .type "BaseException", .type "object"] true snB subB abB colB ddB m0B m1B m2B m3B m5B "ValueError.__new__"))
    (saB : PySem.W.findIn K (.ref EB) "__setattr__" = some (some (.builtin "object.__setattr__")))
    (gaB : PySem.W.findIn K (.ref EB) "__getattribute__" = some (some (.builtin "BaseException.__getattribute__")))
    (ggB : PySem.W.findIn K (.ref EB) "__getattr__" = some none)
    (eB : PySem.W.subIn K (.ref EB) (.type "BaseException") = some true)
    (tB : PySem.W.typeIn K (.ref EB) = some (.type "type"))
    (kkB : PySem.W.keepIn K (.ref EB) = true)
    (hB : PySem.W.hasDictIn K EB = true)
    (iB : PySem.W.isClsIn K EB = true)
    (noB_state : PySem.W.findIn K (.ref EB) "state" = some none)
    (a28 : PySem.W.findIn K (.ref EB) "__init__" = some (some (.ref f28)))
    (t28 : PySem.W.typeIn K (.ref f28) = some (.type "function"))
    (l28 : K.lookup f28 = some ⟨oc28, od28, .func (PySem.W.fnOf "__init__" "BadState.__init__" (defArgs sBadState) (defBody sBadState) (defScope sBadState) .none kV28 dc28 pm28 an28 cd28 ct28), sl28⟩)
    (c28 : PySem.W.codeIn K (cd28) "BadState.__init__" = true)
    (k28 : PySem.W.keepIn K (.ref f28) = true)
    (sBB : PySem.W.subIn K (.ref EB) (.ref EB) = some true)
    (co_LETTERS : PySem.W.nsIn K mainGlobals "LETTERS" = some (some (.str zLE tc1)))
    (co_DIGITS : PySem.W.nsIn K mainGlobals "DIGITS" = some (some (.str zDG tc2)))
    (co_LONGEST_WORD : PySem.W.nsIn K mainGlobals "LONGEST_WORD" = some (some (.int 12 tc3)))
    (co_LONGEST_TELL : PySem.W.nsIn K mainGlobals "LONGEST_TELL" = some (some (.int 60 tc4)))
    (co_MOST_DEEDS : PySem.W.nsIn K mainGlobals "MOST_DEEDS" = some (some (.int 6 tc5)))
    (co_MOST_STATES : PySem.W.nsIn K mainGlobals "MOST_STATES" = some (some (.int 60 tc6)))
    (z_int : PySem.W.nsIn K mainGlobals "int" = some none)
    (z_len : PySem.W.nsIn K mainGlobals "len" = some none)
    (z_list : PySem.W.nsIn K mainGlobals "list" = some none)
    (z_range : PySem.W.nsIn K mainGlobals "range" = some none)
    (z_tuple : PySem.W.nsIn K mainGlobals "tuple" = some none)
    (z_isinstance : PySem.W.nsIn K mainGlobals "isinstance" = some none)
    (z_bool : PySem.W.nsIn K mainGlobals "bool" = some none)
    (z_str : PySem.W.nsIn K mainGlobals "str" = some none)
    (z_all : PySem.W.nsIn K mainGlobals "all" = some none)
    (z_enumerate : PySem.W.nsIn K mainGlobals "enumerate" = some none)
    (z_min : PySem.W.nsIn K mainGlobals "min" = some none)
    (z_zip : PySem.W.nsIn K mainGlobals "zip" = some none)
    (z_repr : PySem.W.nsIn K mainGlobals "repr" = some none) :
    LawAtS l w K L2.CX0 8 63 "_law_script" mg fa h := by
  have e := (PySem.W.mg_of X G a13).symm.trans hfa
  cases e
  have D1 : Df K mg "_law_pen" sPen ["_law_script"] f1 _ := ⟨fun_mk (st := sPen) l1 c1 k1, PySem.W.mg_of X G a1, (fun_mk (st := sPen) l1 c1 k1).binds (ps := ["_law_script"]) fun _ _ _ _ _ _ us hl => match us, hl with | [_], _ => rfl⟩
  have D2 : Df K mg "_law_draw" sDraw ["_law_pen_here", "_law_many"] f2 _ := ⟨fun_mk (st := sDraw) l2 c2 k2, PySem.W.mg_of X G a2, (fun_mk (st := sDraw) l2 c2 k2).binds (ps := ["_law_pen_here", "_law_many"]) fun _ _ _ _ _ _ us hl => match us, hl with | [_, _], _ => rfl⟩
  have D3 : Df K mg "_law_pick" sPick ["_law_pen_here", "_law_some"] f3 _ := ⟨fun_mk (st := sPick) l3 c3 k3, PySem.W.mg_of X G a3, (fun_mk (st := sPick) l3 c3 k3).binds (ps := ["_law_pen_here", "_law_some"]) fun _ _ _ _ _ _ us hl => match us, hl with | [_, _], _ => rfl⟩
  have D4 : Df K mg "_law_words" sWords ["_law_pen_here", "_law_many"] f4 _ := ⟨fun_mk (st := sWords) l4 c4 k4, PySem.W.mg_of X G a4, (fun_mk (st := sWords) l4 c4 k4).binds (ps := ["_law_pen_here", "_law_many"]) fun _ _ _ _ _ _ us hl => match us, hl with | [_, _], _ => rfl⟩
  have D5 : Df K mg "_law_named" sNamed ["_law_deeds", "_law_row"] f5 _ := ⟨fun_mk (st := sNamed) l5 c5 k5, PySem.W.mg_of X G a5, (fun_mk (st := sNamed) l5 c5 k5).binds (ps := ["_law_deeds", "_law_row"]) fun _ _ _ _ _ _ us hl => match us, hl with | [_, _], _ => rfl⟩
  have D6 : Df K mg "_law_plain" sPlain ["_law_pen_here", "_law_deeds", "_law_most", "_law_tells"] f6 _ := ⟨fun_mk (st := sPlain) l6 c6 k6, PySem.W.mg_of X G a6, (fun_mk (st := sPlain) l6 c6 k6).binds (ps := ["_law_pen_here", "_law_deeds", "_law_most", "_law_tells"]) fun _ _ _ _ _ _ us hl => match us, hl with | [_, _, _, _], _ => rfl⟩
  have D7 : Df K mg "_law_made" sMade ["_law_plain_here"] f7 _ := ⟨fun_mk (st := sMade) l7 c7 k7, PySem.W.mg_of X G a7, (fun_mk (st := sMade) l7 c7 k7).binds (ps := ["_law_plain_here"]) fun _ _ _ _ _ _ us hl => match us, hl with | [_], _ => rfl⟩
  have D8 : Df K mg "_law_led" sLed ["_law_plain_here", "_law_row", "_law_spot"] f8 _ := ⟨fun_mk (st := sLed) l8 c8 k8, PySem.W.mg_of X G a8, (fun_mk (st := sLed) l8 c8 k8).binds (ps := ["_law_plain_here", "_law_row", "_law_spot"]) fun _ _ _ _ _ _ us hl => match us, hl with | [_, _, _], _ => rfl⟩
  have D9 : Df K mg "_law_rows" sRowsL ["_law_width", "_law_most"] f9 _ := ⟨fun_mk (st := sRowsL) l9 c9 k9, PySem.W.mg_of X G a9, (fun_mk (st := sRowsL) l9 c9 k9).binds (ps := ["_law_width", "_law_most"]) fun _ _ _ _ _ _ us hl => match us, hl with | [_, _], _ => rfl⟩
  have D10 : Df K mg "_law_parts" sParts ["_law_plain_here", "_law_a", "_law_b"] f10 _ := ⟨fun_mk (st := sParts) l10 c10 k10, PySem.W.mg_of X G a10, (fun_mk (st := sParts) l10 c10 k10).binds (ps := ["_law_plain_here", "_law_a", "_law_b"]) fun _ _ _ _ _ _ us hl => match us, hl with | [_, _, _], _ => rfl⟩
  have D11 : Df K mg "_law_refused" sRefA ["_law_made_here", "_law_a", "_law_b"] f11 _ := ⟨fun_mk (st := sRefA) l11 c11 k11, PySem.W.mg_of X G a11, (fun_mk (st := sRefA) l11 c11 k11).binds (ps := ["_law_made_here", "_law_a", "_law_b"]) fun _ _ _ _ _ _ us hl => match us, hl with | [_, _, _], _ => rfl⟩
  have D12 : Df K mg "_law_far_right" sFar ["_law_pen_here", "_law_deeds"] f12 _ := ⟨fun_mk (st := sFar) l12 c12 k12, PySem.W.mg_of X G a12, (fun_mk (st := sFar) l12 c12 k12).binds (ps := ["_law_pen_here", "_law_deeds"]) fun _ _ _ _ _ _ us hl => match us, hl with | [_, _], _ => rfl⟩
  have D13 : Df K mg "law" sLaw ["_law_script"] f13 _ := ⟨fun_mk (st := sLaw) l13 c13 k13, PySem.W.mg_of X G a13, (fun_mk (st := sLaw) l13 c13 k13).binds (ps := ["_law_script"]) fun _ _ _ _ _ _ us hl => match us, hl with | [_], _ => rfl⟩
  have D14 : Df K mg "is_integer" sIsInt ["value"] f14 _ := ⟨fun_mk (st := sIsInt) l14 c14 k14, PySem.W.mg_of X G a14, (fun_mk (st := sIsInt) l14 c14 k14).binds (ps := ["value"]) fun _ _ _ _ _ _ us hl => match us, hl with | [_], _ => rfl⟩
  have D15 : Df K mg "is_index" sIsIndex ["value", "many"] f15 _ := ⟨fun_mk (st := sIsIndex) l15 c15 k15, PySem.W.mg_of X G a15, (fun_mk (st := sIsIndex) l15 c15 k15).binds (ps := ["value", "many"]) fun _ _ _ _ _ _ us hl => match us, hl with | [_, _], _ => rfl⟩
  have D16 : Df K mg "is_word" sIsWord ["value"] f16 _ := ⟨fun_mk (st := sIsWord) l16 c16 k16, PySem.W.mg_of X G a16, (fun_mk (st := sIsWord) l16 c16 k16).binds (ps := ["value"]) fun _ _ _ _ _ _ us hl => match us, hl with | [_], _ => rfl⟩
  have D17 : Df K mg "is_tell" sIsTell ["value"] f17 _ := ⟨fun_mk (st := sIsTell) l17 c17 k17, PySem.W.mg_of X G a17, (fun_mk (st := sIsTell) l17 c17 k17).binds (ps := ["value"]) fun _ _ _ _ _ _ us hl => match us, hl with | [_], _ => rfl⟩
  have D18 : Df K mg "check_different" sCheckDiff ["deeds"] f18 _ := ⟨fun_mk (st := sCheckDiff) l18 c18 k18, PySem.W.mg_of X G a18, (fun_mk (st := sCheckDiff) l18 c18 k18).binds (ps := ["deeds"]) fun _ _ _ _ _ _ us hl => match us, hl with | [_], _ => rfl⟩
  have D19 : Df K mg "check_group" sCheckGroup ["deeds"] f19 _ := ⟨fun_mk (st := sCheckGroup) l19 c19 k19, PySem.W.mg_of X G a19, (fun_mk (st := sCheckGroup) l19 c19 k19).binds (ps := ["deeds"]) fun _ _ _ _ _ _ us hl => match us, hl with | [_], _ => rfl⟩
  have D20 : Df K mg "check_deeds" sCheckDeeds ["deeds"] f20 _ := ⟨fun_mk (st := sCheckDeeds) l20 c20 k20, PySem.W.mg_of X G a20, (fun_mk (st := sCheckDeeds) l20 c20 k20).binds (ps := ["deeds"]) fun _ _ _ _ _ _ us hl => match us, hl with | [_], _ => rfl⟩
  have D21 : Df K mg "check_rows" sCheckRows ["rows", "many"] f21 _ := ⟨fun_mk (st := sCheckRows) l21 c21 k21, PySem.W.mg_of X G a21, (fun_mk (st := sCheckRows) l21 c21 k21).binds (ps := ["rows", "many"]) fun _ _ _ _ _ _ us hl => match us, hl with | [_, _], _ => rfl⟩
  have D22 : Df K mg "check_tells" sCheckTells ["tells", "many"] f22 _ := ⟨fun_mk (st := sCheckTells) l22 c22 k22, PySem.W.mg_of X G a22, (fun_mk (st := sCheckTells) l22 c22 k22).binds (ps := ["tells", "many"]) fun _ _ _ _ _ _ us hl => match us, hl with | [_, _], _ => rfl⟩
  have D23 : Df K mg "next_layer" sNL ["deeds", "tables", "layer", "met"] f23 _ := ⟨fun_mk (st := sNL) l23 c23 k23, PySem.W.mg_of X G a23, (fun_mk (st := sNL) l23 c23 k23).binds (ps := ["deeds", "tables", "layer", "met"]) fun _ _ _ _ _ _ us hl => match us, hl with | [_, _, _, _], _ => rfl⟩
  have D24 : Df K mg "row_to" sRT ["found", "states"] f24 _ := ⟨fun_mk (st := sRT) l24 c24 k24, PySem.W.mg_of X G a24, (fun_mk (st := sRT) l24 c24 k24).binds (ps := ["found", "states"]) fun _ _ _ _ _ _ us hl => match us, hl with | [_, _], _ => rfl⟩
  have D25 : Df K mg "first_parting" sFP ["one", "a", "other", "b"] f25 _ := ⟨fun_mk (st := sFP) l25 c25 k25, PySem.W.mg_of X G a25, (fun_mk (st := sFP) l25 c25 k25).binds (ps := ["one", "a", "other", "b"]) fun _ _ _ _ _ _ us hl => match us, hl with | [_, _, _, _], _ => rfl⟩
  have F26 : FunD K "__init__" "Machine.__init__" (defArgs sMInit) (defBody sMInit) (defScope sMInit) [.int 0] [] f26 _ := ⟨⟨_, _, _, _, _, _, _, _, _, _, rfl, l26, c26, .inr ⟨by simp, T26, _, [.int 0 tc0], nT26, rfl, lT26, rfl, (.cons ⟨_, rfl⟩ .nil)⟩, .inl rfl⟩, k26⟩
  have b26 : Binds K (PySem.W.fnOf "__init__" "Machine.__init__" (defArgs sMInit) (defBody sMInit) (defScope sMInit) (.ref T26) kV26 dc26 pm26 an26 cd26 ct26) ["self", "deeds", "rows", "tells", "start"] [] := by
    obtain ⟨ds, v, b⟩ := F26.binds1 (ps := ["self", "deeds", "rows", "tells", "start"]) 5 1 (by simp) rfl fun T kV doc pm an cdv ct us its hu hi => match us, hu, its, hi with | [_, _, _, _, _], _, [_], _ => ⟨_, rfl, rfl⟩
    cases v
    exact b
  obtain ⟨ds26, vd26, b026⟩ := F26.binds1 (ps := ["self", "deeds", "rows", "tells", "start"]) 4 0 (by simp) rfl fun T kV doc pm an cdv ct us its hu hi => match us, hu, its, hi with | [_, _, _, _], _, [_], _ => ⟨_, rfl, rfl⟩
  have Mk26 : Mk K C f26 := ⟨mkC, a26, i26, kcC⟩
  have F27 := fun_mk (st := sMApart) l27 c27 k27
  have b27 : Binds K _ ["self", "a", "b"] [] := F27.binds (ps := ["self", "a", "b"]) fun _ _ _ _ _ _ us hl => match us, hl with | [_, _, _], _ => rfl
  have MT27 : Meth K C "apart" f27 := ⟨a27, i27, k27⟩
  have FEB := fun_mk (st := sBadState) l28 c28 k28
  have OB : OBadState K mg EB f28 _ := ⟨⟨⟨nmB, qnB, NB, bsB, _, snB, subB, abB, colB, ddB, m0B, m1B, m2B, m3B, m5B, xB, rfl⟩, saB, eB, tB, kkB⟩, ⟨gaB, ggB, eB, hB⟩, PySem.W.mg_of X G aB, a28, t28, (fun f hf => by
      simp only [List.mem_cons, List.not_mem_nil, or_false] at hf
      rcases hf with rfl
      · exact noB_state), FEB, FEB.binds (ps := ["self", "state"]) fun _ _ _ _ _ _ us hl => match us, hl with | [_, _], _ => rfl⟩
  refine ⟨PySem.W.fnOf "law" "law" (defArgs sLaw) (defBody sLaw) (defScope sLaw) .none kV13 dc13 pm13 an13 cd13 ct13, [], spLaw K, ?_, ?_, ?_, fun s v => .of_eq rfl, ?_, fun base _ _ TB => ?_⟩
  · intro p hp
    exact nomatch hp
  · intro p hp
    exact nomatch hp
  · intro p hp
    exact nomatch hp
  · intro H a ns hns _ _ hS
    exact ⟨a, ns, rfl, hS, hns, fun _ => rfl⟩
  · have BT : Bt2 mg := ⟨⟨PySem.W.mg_none_of X G z_int, PySem.W.mg_none_of X G z_len, PySem.W.mg_none_of X G z_list, PySem.W.mg_none_of X G z_range, PySem.W.mg_none_of X G z_tuple⟩, PySem.W.mg_none_of X G z_isinstance, PySem.W.mg_none_of X G z_bool, PySem.W.mg_none_of X G z_str, PySem.W.mg_none_of X G z_all, PySem.W.mg_none_of X G z_enumerate, PySem.W.mg_none_of X G z_min, ⟨_, PySem.W.mg_of X G co_LETTERS⟩, ⟨_, PySem.W.mg_of X G co_DIGITS⟩, ⟨_, PySem.W.mg_of X G co_LONGEST_WORD⟩, ⟨_, PySem.W.mg_of X G co_LONGEST_TELL⟩, ⟨_, PySem.W.mg_of X G co_MOST_DEEDS⟩, ⟨_, PySem.W.mg_of X G co_MOST_STATES⟩⟩
    have B1 : Bt mg := BT.toBt
    have MT : Tm K mg C := ⟨⟨pgC, hdC, poC, saC⟩, nC_deeds, nC_rows, nC_tells, nC_start, PySem.W.mg_of X G aC⟩
    have GI : FnOk l.prog w K mg base L2.CX0 5 f26 _ pInit (spMInit K C) := ok_minit F26 MT BT D20 D19 D18 D16 D21 D15 D14 D22 D17
    have GP : FnOk l.prog w K mg base L2.CX0 2 _ _ pFP (spFP K C) := ok_fp D25 D23 D24 MT BT (PySem.W.mg_none_of X G z_zip)
    have GA : FnOk l.prog w K mg base (L2.CX l.prog w) 3 f27 _ pMA (spApart K C EB) := ok_apart F27 MT BT D15 D14 D25 GP OB
    have FF : Fs l.prog w K mg base C EB := ⟨BT, MT,
      ⟨_, _, D1.g, D1.F.kp, D1.b, ok_pen D1 B1⟩,
      ⟨_, _, D2.g, D2.F.kp, D2.b, ok_draw D2.F B1⟩,
      ⟨_, _, D3.g, D3.F.kp, D3.b, ok_pickL D3 D2 B1⟩,
      ⟨_, _, D4.g, D4.F.kp, D4.b, ok_words D4 D2 D3 B1⟩,
      ⟨_, _, D5.g, D5.F.kp, D5.b, ok_named D5 B1⟩,
      ⟨_, _, D6.g, D6.F.kp, D6.b, ok_plain D6 D2 D3 B1⟩,
      ⟨_, _, D7.g, D7.F.kp, D7.b, ok_made D7 MT BT Mk26 GI b26⟩,
      ⟨_, _, D10.g, D10.F.kp, D10.b, ok_parts D10 D9 D8 B1⟩,
      ⟨_, _, D11.g, D11.F.kp, D11.b, ok_refa D11 MT MT27 b27 GA OB (exm_of eB iB tB sBB) (PySem.W.mg_of X G a00) (PySem.W.mg_none_of X G z_repr)⟩,
      ⟨_, _, _, Mk26, b026, vd26, GI⟩, ⟨_, _, MT27, b27, GA⟩, PySem.W.mg_none_of X G z_repr⟩
    exact ok_law FF D13.F D12

theorem walk {l : PySem.W.OpenLaw} {q : Program} {loose : List Str} {XP : (Str → Option Value) → Heap → Prop} {YP : World → Heap → Prop} {d : DefRec} {K : Params → PySem.W.Frag} (hn : l.most = some 63) (hdf : d.params.defaults = [])
    (hY : ∀ (w : World) (h : Heap), YP w h → (K w.params).In h)
    (F : ∀ (w : World) (mg : Str → Option Value) (fa : Addr) (h : Heap), (K w.params).In h → h.Ns mainGlobals mg → mg d.name = some (.ref fa) → OwnTabs q mg h → LawAtS l w (K w.params) L2.CX0 8 63 "_law_script" mg fa h) :
    PySem.W.WalkO q loose XP YP l.row.toRowW d [] (fun f vs => PySem.call f vs) :=
  walk_tabs (n := 63) (k := 8) (x := "_law_script") (CX := fun _ => L2.CX0) hn (by decide) hdf ⟨rfl, by decide, by decide⟩ hY (fun w mg fa h _ => F w mg fa h) fun _ _ _ _ _ z => z
end K1
open PySem PySem.W PyProof.Rows in
set_option maxRecDepth 100000 in
set_option maxHeartbeats 0 in
theorem PySem.Challenge.cw_betweenlooks_k05_states_that_rows_part_holds : PySem.Challenge.rw_betweenlooks_k05_states_that_rows_part.Holds := by
  w_on; o_law; k_head; (case hw => w_witness2)
  k_fill
  refine K1.walk (l := PySem.Challenge.rw_betweenlooks_k05_states_that_rows_part) rfl rfl (fun w h Y => PySem.W.kIn_of Y) ?F
  case F =>
    intro w mg fa h KX G hmg OT
    refine' K1.all_mk KX G hmg OT ?a1 ?l1 ?c1 ?k1 ?a2 ?l2 ?c2 ?k2 ?a3 ?l3 ?c3 ?k3 ?a4 ?l4 ?c4 ?k4 ?a5 ?l5 ?c5 ?k5 ?a6 ?l6 ?c6 ?k6 ?a7 ?l7 ?c7 ?k7 ?a8 ?l8 ?c8 ?k8 ?a9 ?l9 ?c9 ?k9 ?a10 ?l10 ?c10 ?k10 ?a11 ?l11 ?c11 ?k11 ?a12 ?l12 ?c12 ?k12 ?a13 ?l13 ?c13 ?k13 ?a14 ?l14 ?c14 ?k14 ?a15 ?l15 ?c15 ?k15 ?a16 ?l16 ?c16 ?k16 ?a17 ?l17 ?c17 ?k17 ?a18 ?l18 ?c18 ?k18 ?a19 ?l19 ?c19 ?k19 ?a20 ?l20 ?c20 ?k20 ?a21 ?l21 ?c21 ?k21 ?a22 ?l22 ?c22 ?k22 ?a23 ?l23 ?c23 ?k23 ?a24 ?l24 ?c24 ?k24 ?a25 ?l25 ?c25 ?k25 ?aC ?pgC ?hdC ?poC ?saC ?mkC ?kcC ?nC_deeds ?nC_rows ?nC_tells ?nC_start ?a26 ?i26 ?l26 ?c26 ?k26 ?lT26 ?a27 ?i27 ?l27 ?c27 ?k27 ?a00 ?aB ?xB ?saB ?gaB ?ggB ?eB ?tB ?kkB ?hB ?iB ?noB_state ?a28 ?t28 ?l28 ?c28 ?k28 ?sBB ?co_LETTERS ?co_DIGITS ?co_LONGEST_WORD ?co_LONGEST_TELL ?co_MOST_DEEDS ?co_MOST_STATES ?z_int ?z_len ?z_list ?z_range ?z_tuple ?z_isinstance ?z_bool ?z_str ?z_all ?z_enumerate ?z_min ?z_zip ?z_repr
    (case a1 => k_is)
    (case l1 => k_is)
    (case c1 => k_is)
    (case k1 => k_is)
    (case a2 => k_is)
    (case l2 => k_is)
    (case c2 => k_is)
    (case k2 => k_is)
    (case a3 => k_is)
    (case l3 => k_is)
    (case c3 => k_is)
    (case k3 => k_is)
    (case a4 => k_is)
    (case l4 => k_is)
    (case c4 => k_is)
    (case k4 => k_is)
    (case a5 => k_is)
    (case l5 => k_is)
    (case c5 => k_is)
    (case k5 => k_is)
    (case a6 => k_is)
    (case l6 => k_is)
    (case c6 => k_is)
    (case k6 => k_is)
    (case a7 => k_is)
    (case l7 => k_is)
    (case c7 => k_is)
    (case k7 => k_is)
    (case a8 => k_is)
    (case l8 => k_is)
    (case c8 => k_is)
    (case k8 => k_is)
    (case a9 => k_is)
    (case l9 => k_is)
    (case c9 => k_is)
    (case k9 => k_is)
    (case a10 => k_is)
    (case l10 => k_is)
    (case c10 => k_is)
    (case k10 => k_is)
    (case a11 => k_is)
    (case l11 => k_is)
    (case c11 => k_is)
    (case k11 => k_is)
    (case a12 => k_is)
    (case l12 => k_is)
    (case c12 => k_is)
    (case k12 => k_is)
    (case a13 => k_is)
    (case l13 => k_is)
    (case c13 => k_is)
    (case k13 => k_is)
    (case a14 => k_is)
    (case l14 => k_is)
    (case c14 => k_is)
    (case k14 => k_is)
    (case a15 => k_is)
    (case l15 => k_is)
    (case c15 => k_is)
    (case k15 => k_is)
    (case a16 => k_is)
    (case l16 => k_is)
    (case c16 => k_is)
    (case k16 => k_is)
    (case a17 => k_is)
    (case l17 => k_is)
    (case c17 => k_is)
    (case k17 => k_is)
    (case a18 => k_is)
    (case l18 => k_is)
    (case c18 => k_is)
    (case k18 => k_is)
    (case a19 => k_is)
    (case l19 => k_is)
    (case c19 => k_is)
    (case k19 => k_is)
    (case a20 => k_is)
    (case l20 => k_is)
    (case c20 => k_is)
    (case k20 => k_is)
    (case a21 => k_is)
    (case l21 => k_is)
    (case c21 => k_is)
    (case k21 => k_is)
    (case a22 => k_is)
    (case l22 => k_is)
    (case c22 => k_is)
    (case k22 => k_is)
    (case a23 => k_is)
    (case l23 => k_is)
    (case c23 => k_is)
    (case k23 => k_is)
    (case a24 => k_is)
    (case l24 => k_is)
    (case c24 => k_is)
    (case k24 => k_is)
    (case a25 => k_is)
    (case l25 => k_is)
    (case c25 => k_is)
    (case k25 => k_is)
    (case aC => k_is)
    (case pgC => k_is)
    (case hdC => k_is)
    (case poC => k_is)
    (case saC => k_is)
    (case mkC => k_is)
    (case kcC => k_is)
    (case nC_deeds => k_is)
    (case nC_rows => k_is)
    (case nC_tells => k_is)
    (case nC_start => k_is)
    (case a26 => k_is)
    (case i26 => k_is)
    (case l26 => k_is)
    (case c26 => k_is)
    (case k26 => k_is)
    (case lT26 => k_is)
    (case a27 => k_is)
    (case i27 => k_is)
    (case l27 => k_is)
    (case c27 => k_is)
    (case k27 => k_is)
    (case a00 => k_is)
    (case aB => k_is)
    (case xB => k_is)
    (case saB => k_is)
    (case gaB => k_is)
    (case ggB => k_is)
    (case eB => k_is)
    (case tB => k_is)
    (case kkB => k_is)
    (case hB => k_is)
    (case iB => k_is)
    (case noB_state => k_is)
    (case a28 => k_is)
    (case t28 => k_is)
    (case l28 => k_is)
    (case c28 => k_is)
    (case k28 => k_is)
    (case sBB => k_is)
    (case co_LETTERS => k_is)
    (case co_DIGITS => k_is)
    (case co_LONGEST_WORD => k_is)
    (case co_LONGEST_TELL => k_is)
    (case co_MOST_DEEDS => k_is)
    (case co_MOST_STATES => k_is)
    (case z_int => k_is)
    (case z_len => k_is)
    (case z_list => k_is)
    (case z_range => k_is)
    (case z_tuple => k_is)
    (case z_isinstance => k_is)
    (case z_bool => k_is)
    (case z_str => k_is)
    (case z_all => k_is)
    (case z_enumerate => k_is)
    (case z_min => k_is)
    (case z_zip => k_is)
    (case z_repr => k_is)
