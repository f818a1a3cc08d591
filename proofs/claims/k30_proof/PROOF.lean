import PyProof.Rows.All
import Wide.All
import OpenK.AllK
import Wide.FinOn
import HandS.ForMost
import HandS.Flow
import HandS.Wide
import HandS.Walk
import KE.GoesMore
import HandS.OwnEq
import PyProof.InstNe
import PyProof.NeKinds
import PyProof.IsRules
import HandS.Strs
import HandS.IsInst
import HandS.TupAny
import HandS.Defaults
import HandS.MakeKw
import HandS.ExcInit
import HandS.ExcField
import HandS.WordsExc
import HandS.Exc
import HandS.TryMany
import HandS.RaiseMore
import HandS.Lambda
import HandS.EndTab
import HandS.ExcOwn
import PyProof.P3In
import HandS.Deep
import KE.KOwnIter
import HandS.IterVal
import HandS.Conv
import HandS.Zip
import KE.GoesNew
import HandS.Comp
import PySem.Challenge.RW_betweenlooks_k30_values_after_rows_and_l
set_option Elab.async false
set_option maxRecDepth 100000
namespace K1
open PySem L2
def top (i : Nat) : Stmt := PySem.Challenge.pw_betweenlooks_k30_values_after_rows_and_l.main.body.getD i (.Pass ⟨0, 0, 0, 0⟩)
abbrev sPen : Stmt := top 47
abbrev sDraw : Stmt := top 48
abbrev sPick : Stmt := top 49
abbrev sWords : Stmt := top 50
/-! the pen: a dict of three -/
abbrev kCells : Key := Sum.inr "cells"
abbrev kAt : Key := Sum.inr "at"
abbrev kLeft : Key := Sum.inr "left"
theorem n_ca : ¬ (kCells = kAt) := by decide +kernel
theorem n_cl : ¬ (kCells = kLeft) := by decide +kernel
theorem n_al : ¬ (kAt = kLeft) := by decide +kernel
theorem n_la : ¬ (kLeft = kAt) := by decide +kernel
theorem n_ac : ¬ (kAt = kCells) := by decide +kernel
theorem n_lc : ¬ (kLeft = kCells) := by decide +kernel
def penK (c : Addr) (a l : Int) : List (Key × V) := [(kCells, .ref c), (kAt, .int a), (kLeft, .int l)]
theorem penK_cells (c : Addr) (a l : Int) : valV (penK c a l) kCells = some (.ref c) := valV_pos rfl
theorem penK_at (c : Addr) (a l : Int) : valV (penK c a l) kAt = some (.int a) := by
  unfold penK; rw [valV_neg n_ca]; exact valV_pos rfl
theorem penK_left (c : Addr) (a l : Int) : valV (penK c a l) kLeft = some (.int l) := by
  unfold penK; rw [valV_neg n_cl, valV_neg n_al]; exact valV_pos rfl
theorem penK_put_at (c : Addr) (a l b : Int) : putK (penK c a l) kAt (.int b) = penK c b l := by
  have h1 : ¬ (("cells" : Str) = "at") := by decide +kernel
  have h2 : ¬ (("left" : Str) = "at") := by decide +kernel
  unfold penK putK; simp [h1, h2]
theorem penK_put_left (c : Addr) (a l b : Int) : putK (penK c a l) kLeft (.int b) = penK c a b := by
  have h1 : ¬ (("cells" : Str) = "left") := by decide +kernel
  have h2 : ¬ (("at" : Str) = "left") := by decide +kernel
  unfold penK putK; simp [h1, h2]
/-- at d stands a pen that was drawn from at most n times -/
def PenAt (H : Hp) (d c : Addr) (n : Nat) : Prop := ∃ (ns : List Int) (a l : Int), H d = some (.dK (penK c a l)) ∧ H c = some (.lst (ns.map V.int)) ∧ ns.length ≤ 63 ∧ 0 ≤ a ∧ a ≤ n
/-- all but d is kept -/
def Kept (d : Addr) (H H' : Hp) : Prop := ∀ b o, H b = some o → b ≠ d → H' b = some o
theorem Kept.refl (d : Addr) (H : Hp) : Kept d H H := fun _ _ e _ => e
theorem Kept.trans {d : Addr} {H H1 H2 : Hp} (a : Kept d H H1) (b : Kept d H1 H2) : Kept d H H2 := fun c o e n => b c o (a c o e n) n
theorem Kept.same {d : Addr} {H H1 : Hp} (a : Same H H1) : Kept d H H1 := fun c o e _ => a c o e
theorem same_upd {H : Hp} {p : Addr} {o : HO} (h : H p = none) : Same H (upd H p o) := fun b u e => by rw [upd_ne (ne_of_none e h)]; exact e
theorem PenAt.mono {H : Hp} {d c : Addr} {n m : Nat} (h : PenAt H d c n) (l : n ≤ m) : PenAt H d c m := by
  obtain ⟨ns, a, x, h1, h2, h3, h4, h5⟩ := h
  exact ⟨ns, a, x, h1, h2, h3, h4, by omega⟩
theorem PenAt.same {H H' : Hp} {d c : Addr} {n : Nat} (h : PenAt H d c n) (s : Same H H') : PenAt H' d c n := by
  obtain ⟨ns, a, x, h1, h2, h3⟩ := h
  exact ⟨ns, a, x, s _ _ h1, s _ _ h2, h3⟩
theorem PenAt.ne {H : Hp} {d c D : Addr} {n : Nat} (h : PenAt H d c n) (z : H D = none) : D ≠ d ∧ D ≠ c := by
  obtain ⟨ns, a, x, h1, h2, h3⟩ := h
  exact ⟨(ne_of_none h1 z).symm, (ne_of_none h2 z).symm⟩
theorem PenAt.upd {H : Hp} {d c D : Addr} {n : Nat} {o : HO} (h : PenAt H d c n) (n1 : D ≠ d) (n2 : D ≠ c) : PenAt (upd H D o) d c n := by
  obtain ⟨ns, a, x, h1, h2, h3⟩ := h
  exact ⟨ns, a, x, by rw [upd_ne n1.symm]; exact h1, by rw [upd_ne n2.symm]; exact h2, h3⟩
theorem Kept.upd {d D : Addr} {H0 H : Hp} {o : HO} (k : Kept d H0 H) (h : H0 D = none) : Kept d H0 (upd H D o) := fun b u e nb => by
  rw [upd_ne (ne_of_none e h)]; exact k b u e nb
theorem Kept.free {d c : Addr} {H H' : Hp} {n : Nat} (k : Kept d H H') (p : PenAt H' d c n) {l : Addr} (h : H' l = none) : H l = none := by
  cases q : H l with
  | none => rfl
  | some o =>
    by_cases e : l = d
    · obtain ⟨ns, a, x, h1, _⟩ := p
      subst e; rw [h] at h1; cases h1
    · have := k l o q e; rw [h] at this; cases this
theorem penK_len (c : Addr) (a l : Int) : (penK c a l).length < sizeLine := by show 3 < sizeLine; decide
theorem dp_ints {K : PySem.W.Frag} {H : Hp} : ∀ ns : List Int, DpAll K H (ns.map V.int) (ns.map PyData.int)
  | [] => .nil
  | n :: r => .cons (.int n) (dp_ints r)
theorem canLay_ints : ∀ ns : List Int, PyData.canLayAll0 (ns.map PyData.int) = true
  | [] => rfl
  | n :: r => by simp [PyData.canLayAll0, PyData.canLay0, canLay_ints r]
theorem eqv_ints_nil (ns : List Int) : PyData.eqv (.list (ns.map PyData.int)) (.list []) = ns.isEmpty := by
  cases ns <;> simp [PyData.eqv, PyData.eqvAll]
theorem shaped_ints (ns : List Int) : SeqAt.shaped (.list (ns.map PyData.int)) = true := by
  have h : ∀ ns : List Int, PyData.depthAll (ns.map PyData.int) ≤ 1 := by
    intro ns
    induction ns with
    | nil => decide
    | cons n r ih => simp only [List.map_cons, PyData.depthAll, PyData.depth]; omega
  have h1 := h ns
  unfold SeqAt.shaped
  rw [PyData.canLay0, canLay_ints, PyData.depth]
  simp only [Bool.true_and, decide_eq_true_eq]
  omega
theorem map_get {ns : List Int} {j : Nat} (h : j < ns.length) : (ns.map V.int)[j]? = some (V.int (ns.getD j 0)) := by
  simp [List.getElem?_eq_getElem h, h]
theorem fmod_nat {a m : Int} (hm : 0 < m) : ∃ j : Nat, a.fmod m = (j : Int) ∧ (j : Int) < m := by
  have h1 := Int.fmod_nonneg_of_pos a hm
  have h2 := Int.fmod_lt_of_pos a hm
  exact ⟨(a.fmod m).toNat, by omega, by omega⟩
theorem fmod_bd {a m : Int} (hm : 0 < m) (hM : m ≤ 2147483648) : -(2 ^ 64) < a.fmod m ∧ a.fmod m < 2 ^ 64 := by
  have h1 := Int.fmod_nonneg_of_pos a hm
  have h2 := Int.fmod_lt_of_pos a hm
  exact ⟨by omega, by omega⟩
structure Bt (mg : Str → Option Value) : Prop where
  int : mg "int" = none
  len : mg "len" = none
  list : mg "list" = none
  range : mg "range" = none
  tuple : mg "tuple" = none
/-- draw: r below many; the pen has been drawn from once more; all else is kept -/
def spDraw : Sp := fun vs H Q _ => ∃ (d c : Addr) (n : Nat) (many : Int), vs = [.ref d, .int many] ∧ PenAt H d c n ∧ n ≤ 1000000 ∧ 0 < many ∧ many < 1073741824 ∧
  ∀ (r : Int) (H' : Hp), 0 ≤ r → r < many → PenAt H' d c (n + 1) → Kept d H H' → Q (.int r) H'
section
variable {P : Program} {w : World} {K : PySem.W.Frag} {mg : Str → Option Value} {base : Heap}
theorem scDraw : FnScope ["_law_pen_here", "_law_many", "_law_digit", "_law_at", "_law_cell", "_law_mixed"] ["_law_pen_here", "_law_many"] (defScope sDraw) := ⟨rfl, rfl, rfl, by decide +kernel, rfl, by decide +kernel, by decide +kernel⟩
theorem ok_draw {f : Addr} {fd : FuncData} (F : Fun K "_law_draw" "_law_draw" sDraw f fd) (T : Bt mg) : FnOk P w K mg base CX0 1 f fd ["_law_pen_here", "_law_many"] spDraw := by
  refine F.ok scDraw (fun vs H Q E h => ?_) (fun cdv A outer s H vs Q E hr h => ?_)
  · obtain ⟨d, c, n, many, rfl, _⟩ := h
    rfl
  · obtain ⟨d, c, n, many, rfl, ⟨ns, a, l, hd, hc, hns, ha0, ha1⟩, hn, hm0, hm1, k⟩ := h
    have hu := hu_of hr
    have ncd : c ≠ d := ne_of hc hd (by intro z; cases z)
    have gL : DGet H d (.str "left") (some (.int l)) := by have := DGet.k (k := kLeft) hd; rw [penK_left] at this; exact this
    refine ⟨_, pss_cons (ps_if (pt_cmpR op_ge (pe_dget hu (pv 0) pe_str (fun _ _ => rfl)) (pv 1) (nomark _))
        (pss_cons (ps_set (i := 2) scDraw.nd rfl (Or.inl rfl) (pe_op op_modN (pe_callTy call_int1 (by rfl) T.int (by decide +kernel) (pa_cons (pe_dget hu (pv 0) pe_str (fun _ _ => rfl)) pa_nil)) (pv 1)))
        (pss_cons (ps_dput hu (pv 0) pe_str (pe_op op_fdivN (pe_dget hu (pv 0) pe_str (fun _ _ => rfl)) (pv 1)) rfl)
        (pss_one (ps_ret (pv 2))))) pss_nil)
      (pss_cons (ps_set (i := 3) scDraw.nd rfl (Or.inl rfl) (pe_dget hu (pv 0) pe_str (fun _ _ => rfl)))
      (pss_cons (ps_dput hu (pv 0) pe_str (pe_op op_add (pv 3) pe_int) rfl)
      (pss_cons (ps_set (i := 4) scDraw.nd rfl (Or.inl rfl) (pe_op op_add (pe_op op_mul pe_int (pv 3)) pe_int))
      (pss_cons (ps_if (pt_cmpR (op_neD hr.units) (pe_dget hu (pv 0) pe_str (fun _ _ => rfl)) (pe_lst pa_nil) (nomark _))
          (pss_one (ps_set (i := 4) scDraw.nd rfl (Or.inl rfl) (pe_ix ix_list (pe_dget hu (pv 0) pe_str (fun _ _ => rfl)) (pe_op op_modN (pe_callTy call_int1 (by rfl) T.int (by decide +kernel) (pa_cons (pv 3) pa_nil)) (pe_callB call_len (by rfl) T.len PySem.boot_len (pa_cons (pe_dget hu (pv 0) pe_str (fun _ _ => rfl)) pa_nil))) (fun _ _ => rfl)))) pss_nil)
      (pss_cons (ps_if (PW.pt (pw_and (pt_cmpR op_lt (pv 3) (pe_callB call_len (by rfl) T.len PySem.boot_len (pa_cons (pe_dget hu (pv 0) pe_str (fun _ _ => rfl)) pa_nil)) (nomark _)) (pw_and1 (pt_cmpR op_ge (pv 4) (pe_op op_pow pe_int pe_int) (nomark _)))))
          (pss_cons (ps_dput hu (pv 0) pe_str (pe_op op_fdivN (pe_op op_sub (pv 4) (pe_op op_pow pe_int pe_int)) (pv 1)) rfl)
          (pss_one (ps_ret (pe_op op_modN (pe_callTy call_int1 (by rfl) T.int (by decide +kernel) (pa_cons (pe_op op_sub (pv 4) (pe_op op_pow pe_int pe_int)) pa_nil)) (pv 1))))) pss_nil)
      (pss_cons (ps_set (i := 5) scDraw.nd rfl (Or.inl rfl) (pe_op op_add (pe_op op_add (pe_op op_add (pe_op op_mul (pe_op op_modN (pe_callTy call_int1 (by rfl) T.int (by decide +kernel) (pa_cons (pv 4) pa_nil)) pe_int) pe_int) (pe_op op_mul (pe_op op_mul pe_int (pv 3)) (pv 3))) (pe_op op_mul pe_int (pv 3))) pe_int))
      (pss_cons (ps_set (i := 5) scDraw.nd rfl (Or.inl rfl) (pe_op op_modN (pe_callTy call_int1 (by rfl) T.int (by decide +kernel) (pa_cons (pv 5) pa_nil)) pe_int))
      (pss_cons (ps_set (i := 5) scDraw.nd rfl (Or.inl rfl) (pe_op op_modN (pe_callTy call_int1 (by rfl) T.int (by decide +kernel) (pa_cons (pe_op op_mul (pv 5) (pe_op op_add (pv 5) pe_int)) pa_nil)) pe_int))
      (pss_one (ps_ret (pe_op op_modN (pe_callTy call_int1 (by rfl) T.int (by decide +kernel) (pa_cons (pe_op op_fdivN (pe_op op_modN (pe_callTy call_int1 (by rfl) T.int (by decide +kernel) (pa_cons (pe_op op_mul (pv 5) (pv 5)) pa_nil)) pe_int) pe_int) pa_nil)) (pv 1)))))))))))), ?_⟩
    -- pen['left'] >= many
    refine ⟨_, rfl, d, _, rfl, gL, _, rfl, _, _, rfl, rfl, _, rfl, ?_⟩
    refine ite2 (fun _ => ?_) (fun _ => ?_)
    · refine ⟨_, rfl, d, _, rfl, gL, .inl ⟨_, rfl, ?_⟩⟩
      refine ⟨_, rfl, _, _, rfl, rfl, (by omega), ?_⟩
      refine ⟨_, rfl, d, _, rfl, gL, _, rfl, _, _, rfl, rfl, ⟨by omega, by omega⟩, ?_⟩
      refine ⟨_, rfl, d, _, rfl, DPut.k (k := kLeft) hd (penK_len _ _ _), ?_⟩
      refine ⟨_, rfl, ?_⟩
      refine k _ _ (Int.fmod_nonneg_of_pos _ hm0) (Int.fmod_lt_of_pos _ hm0) ⟨ns, a, l.fdiv many, ?_, ?_, hns, ha0, by omega⟩ ?_
      · rw [upd_same, penK_put_left]
      · rw [upd_ne ncd]; exact hc
      · intro b o e nb; rw [upd_ne nb]; exact e
    · have gA : DGet H d (.str "at") (some (.int a)) := by have := DGet.k (k := kAt) hd; rw [penK_at] at this; exact this
      refine ⟨_, rfl, d, _, rfl, gA, ?_⟩
      refine ⟨_, rfl, _, _, rfl, rfl, _, rfl, d, _, rfl, DPut.k (k := kAt) hd (penK_len _ _ _), ?_⟩
      rw [penK_put_at]
      have hd1 : upd H d (.dK (penK c (a + 1) l)) d = some (.dK (penK c (a + 1) l)) := upd_same
      have hc1 : upd H d (.dK (penK c (a + 1) l)) c = some (.lst (ns.map V.int)) := by rw [upd_ne ncd]; exact hc
      have kp1 : Kept d H (upd H d (.dK (penK c (a + 1) l))) := fun b o e nb => by rw [upd_ne nb]; exact e
      generalize upd H d (.dK (penK c (a + 1) l)) = H1 at hd1 hc1 kp1 ⊢
      refine ⟨_, rfl, _, _, rfl, rfl, .inl ⟨by decide, by decide⟩, _, _, rfl, rfl, ?_⟩
      have gC1 : DGet H1 d (.str "cells") (some (.ref c)) := by have := DGet.k (k := kCells) hd1; rw [penK_cells] at this; exact this
      refine ⟨_, rfl, d, _, rfl, gC1, Nat.zero_le _, fun q hq => ?_⟩
      have sm : Same H1 (upd H1 q (.lst [])) := same_upd hq
      have hq1 : upd H1 q (.lst []) q = some (.lst []) := upd_same
      have hd2 := sm _ _ hd1
      have hc2 := sm _ _ hc1
      have kp2 : Kept d H (upd H1 q (.lst [])) := kp1.trans (.same sm)
      generalize upd H1 q (.lst []) = H2 at hq1 hd2 hc2 kp2 ⊢
      have gC2 : DGet H2 d (.str "cells") (some (.ref c)) := by have := DGet.k (k := kCells) hd2; rw [penK_cells] at this; exact this
      refine ⟨_, _, .lst (SqL.of hc2) (dp_ints ns), .lst (SqL.of hq1) .nil, shaped_ints ns, by decide +kernel, _, rfl, ?_⟩
      rw [eqv_ints_nil]
      have len2 : LenV K (.ref c) H2 ns.length := .inl ⟨_, SqL.of hc2, (List.length_map _).symm⟩
      have hpos : (!ns.isEmpty) = true → 0 < ns.length := fun hne => by
        cases ns with
        | nil => cases hne
        | cons _ _ => exact Nat.succ_pos _
      have hix : (!ns.isEmpty) = true → atI (ns.map V.int) (a.fmod (ns.length : Int)) = some (V.int (ns.getD (a.fmod (ns.length : Int)).toNat 0)) := fun hne => by
        have hp := hpos hne
        obtain ⟨j, ej, hj⟩ := fmod_nat (a := a) (m := (ns.length : Int)) (by omega)
        rw [ej]
        exact atI_nat (map_get (by omega))
      refine ite2 (fun hne => ⟨_, rfl, d, _, rfl, gC2, _, rfl, .inl ⟨_, rfl, ⟨_, rfl, d, _, rfl, gC2, _, _, rfl, len2, _, _, rfl, rfl, (by have := hpos hne; omega), c, _, _, _, rfl, rfl, SqL.of hc2, hix hne, ?_⟩⟩⟩) (fun _ => ?_)
      all_goals
        refine ⟨_, rfl, _, rfl, d, _, rfl, gC2, _, _, rfl, len2, _, _, rfl, rfl, _, rfl, ?_⟩
        have fin : ∀ (H3 : Hp) (l' : Int) (r : Int), H3 d = some (.dK (penK c (a + 1) l')) → H3 c = some (.lst (ns.map V.int)) → Kept d H H3 → Q (.int (r.fmod many)) H3 := fun H3 l' r e1 e2 e3 =>
          k _ _ (Int.fmod_nonneg_of_pos _ hm0) (Int.fmod_lt_of_pos _ hm0) ⟨ns, a + 1, l', e1, e2, hns, by omega, by omega⟩ e3
        refine ite2 (fun _ => ⟨_, rfl, _, _, rfl, rfl, ⟨by decide, by decide, by decide⟩, _, _, rfl, rfl, _, rfl, ite2 (fun _ => ?_) (fun _ => ?_)⟩) (fun _ => ?_)
        ·
          refine ⟨_, rfl, _, _, rfl, rfl, ⟨by decide, by decide, by decide⟩, _, _, rfl, rfl, _, rfl, _, _, rfl, rfl, ⟨by omega, by omega⟩, _, rfl, d, _, rfl, DPut.k (k := kLeft) hd2 (penK_len _ _ _), ?_⟩
          rw [penK_put_left]
          refine ⟨_, rfl, _, _, rfl, rfl, ⟨by decide, by decide, by decide⟩, _, _, rfl, rfl, .inl ⟨_, rfl, ?_⟩⟩
          refine ⟨_, rfl, _, _, rfl, rfl, (by omega), ?_⟩
          refine fin _ _ _ upd_same (by rw [upd_ne ncd]; exact hc2) (fun b o e nb => by rw [upd_ne nb]; exact kp2 b o e nb)
        all_goals
          refine ⟨_, rfl, .inl ⟨_, rfl, ?_⟩⟩
          refine ⟨_, _, rfl, rfl, (by omega), ?_⟩
          refine ⟨_, _, rfl, rfl, .inr ⟨by decide, by decide⟩, ?_⟩
          refine ⟨_, rfl, _, _, rfl, rfl, .inl ⟨by decide, by decide⟩, _, rfl, _, _, rfl, rfl, .inr ⟨by omega, by omega⟩, ?_⟩
          refine ⟨_, _, rfl, rfl, _, rfl, _, _, rfl, rfl, .inl ⟨by decide, by decide⟩, ?_⟩
          refine ⟨_, _, rfl, rfl, _, _, rfl, rfl, ?_⟩
          -- mixed = int(mixed) % 2147483647
          refine ⟨_, rfl, .inl ⟨_, rfl, ?_⟩⟩
          refine ⟨_, _, rfl, rfl, (by omega), ?_⟩
          refine ⟨_, rfl, _, rfl, _, _, rfl, rfl, _, _, rfl, rfl, .inl (fmod_bd (by decide) (by decide)), .inl ⟨_, rfl, ?_⟩⟩
          refine ⟨_, _, rfl, rfl, (by omega), ?_⟩
          refine ⟨_, rfl, _, rfl, _, _, rfl, rfl, .inl (fmod_bd (by decide) (by decide)), .inl ⟨_, rfl, ?_⟩⟩
          refine ⟨_, _, rfl, rfl, (by omega), _, _, rfl, rfl, ⟨by decide, by decide⟩, .inl ⟨_, rfl, ?_⟩⟩
          refine ⟨_, rfl, _, _, rfl, rfl, (by omega), ?_⟩
          exact fin _ _ _ hd2 hc2 kp2
end
end K1
set_option Elab.async false
set_option linter.all false
set_option maxRecDepth 100000
namespace EO
open PySem
open AutoSeq1 (wpAny_loadPart')
set_option maxHeartbeats 1000000 in
theorem meets_enumerate_newT (l : Addr) (items : Array Value) (n : Nat) (dct : Option Addr) (sl : Array (Option Value)) :
    Meets (Builtin.«enumerate.__new__» ⟨[.type "enumerate", .ref l], []⟩) (fun _ R s => s.heap.get? l = some { cls := .type "tuple", dict := dct, data := .seq items n, slots := sl } ∧
      R (.ok (.ret (.ref (s.heap.push { cls := .type "tuple_iterator", data := .fields #[.ref l, .int 0 0] }).objs.size)))
        { s with heap := (s.heap.push { cls := .type "tuple_iterator", data := .fields #[.ref l, .int 0 0] }).push { cls := .type "enumerate", data := .fields #[.none, .bool false, .ref s.heap.objs.size, rawInt 0, .none, .none] } }) :=
  .of_wp fun prog w A R s h => by
    obtain ⟨hp, g, d, tk, os⟩ := s; obtain ⟨hl, h⟩ := h
    have hsub := sub_enumerate
    have hL : Heap.IsTuple (Shared.heap ⟨hp, g, d, tk, os⟩) l items := ⟨_, hl, rfl, n, rfl⟩
    wp_walk using wpAny_loadPart' hl
    refine wpAny_stack_any fun st => wpAny_pure ?_
    split
    · rename_i c _ _ _ _ _
      cases (c == Value.type "enumerate")
      · wp_walk using wpAny_loadPart' hl, wpAny_pyIter_tuple hL
        exact ⟨_, rfl, h⟩
      · wp_walk using wpAny_loadPart' hl, wpAny_pyIter_tuple hL
        exact ⟨_, rfl, h⟩
    · wp_walk using wpAny_loadPart' hl, wpAny_pyIter_tuple hL
      exact ⟨_, rfl, h⟩
section
variable {prog : Program} {w : World} {A : Around} {E : Value → Shared → Prop} {s : Shared}
theorem call_enumerate_tuple {l : Addr} {items : Array Value} {Q : Value → Shared → Prop} (hL : s.heap.IsTuple l items)
    (h : ∀ h', IsEnum h' (s.heap.objs.size + 1) s.heap.objs.size 0 .none → h'.IsTupleIter s.heap.objs.size l 0 → h'.objs.size = s.heap.objs.size + 2 →
      (∀ b o, s.heap.get? b = some o → h'.get? b = some o) → Q (.ref (s.heap.objs.size + 1)) { s with heap := h' }) :
    wpAny (model prog w) A (call (.type "enumerate") [.ref l]) Q E s := by
  obtain ⟨⟨c, dct, dt, sl⟩, hl, hc, n, hd⟩ := hL
  replace hc : c = .type "tuple" := hc
  replace hd : dt = .seq items n := hd
  subst hc hd
  refine callType_new F.called_enumerate (by decide) (F.typeCall_enumerate_1 _) (F.newCall_enumerate_1 _) (fun obj => F.args_object_init_2 obj _) F.entry_enumerate_new
    (meets_enumerate_newT l items n dct sl) ⟨hl, ?_⟩
  have hz : (s.heap.push { cls := .type "tuple_iterator", data := .fields #[.ref l, .int 0 0] }).objs.size = s.heap.objs.size + 1 := Heap.size_push ..
  show _ ∧ _
  rw [hz]
  have he : IsEnum ((s.heap.push { cls := .type "tuple_iterator", data := .fields #[.ref l, .int 0 0] }).push
      { cls := .type "enumerate", data := .fields #[.none, .bool false, .ref s.heap.objs.size, rawInt 0, .none, .none] }) (s.heap.objs.size + 1) s.heap.objs.size 0 .none := by
    have := Heap.get?_push_size (s.heap.push { cls := .type "tuple_iterator", data := .fields #[.ref l, .int 0 0] })
      (o := { cls := .type "enumerate", data := .fields #[.none, .bool false, .ref s.heap.objs.size, rawInt 0, .none, .none] }) rfl
    rw [hz] at this; exact this
  refine ⟨⟨_, he, rfl⟩, h _ he ⟨_, Heap.get?_push_of_some _ (Heap.get?_push_size _ rfl), rfl, rfl⟩ (by rw [Heap.size_push, hz]) fun b o x => Heap.get?_push_of_some _ (Heap.get?_push_of_some _ x)⟩
theorem enumT_end {e it t : Addr} {i : Nat} {k : Int} {items : Array Value} {old : Value} {Q : Option Value → Shared → Prop} (hh : A.handled = none)
    (he : IsEnum s.heap e it k old) (hit : s.heap.IsTupleIter it t i) (ht : s.heap.IsTuple t items) (hx : items[i]? = none)
    (hQ : ∀ h', Heap.ExtBut it s.heap h' → Q none { s with heap := h' }) : wpAny (model prog w) A (pyNext (.ref e)) Q E s := by
  have hT : s.TypeIs (.ref e) "enumerate" := ⟨_, he, rfl⟩
  unfold pyNext
  refine wpAny_bind (wpAny_attempt (wpAny_callSpecial?_slot (name := Str.ofString "__next__") hT F.slot_enumerate_next
    (wpAny_call_entry F.slot_enumerate_next hT F.entry_enumerate_next ?_ (F.args_enumerate_next_1 _))))
  show wpAny _ _ (field (.ref e) 2 >>= _) _ _ _
  refine wpAny_bind (wpAny_field he rfl (x := .ref it) rfl ?_)
  refine wpAny_bind (wpAny_nextOf_tuple_end hh hit ht hx fun h' x he' hx' => ?_)
  obtain ⟨o, ho, hc⟩ := hx'
  refine wpAny_bind (wpAny_isInstance (T := "StopIteration") (b := true) ⟨o, ho, hc⟩ isSubtype_stop ?_)
  exact wpAny_pure (hQ _ he')
end
end EO
namespace L2
open PySem PySem.Spec PyProof.Rows
/-! ### enumerate(tuple) -/
def IteT (K : PySem.W.Frag) (a : Addr) : It :=
  ⟨fun i H => ∃ (xs : List V) (x : V), SqT K H a xs ∧ xs[i]? = some x, fun i H v H' => ∃ T x, v = .ref T ∧ H T = none ∧ H' = upd H T (.tup [.int (i : Nat), x]) ∧ ∀ xs, SqT K H a xs → xs[i]? = some x, fun i H => ∃ xs : List V, SqT K H a xs ∧ xs.length ≤ i⟩
theorem turn_enumT {P : Program} {w : World} {K : PySem.W.Frag} {elts : List Expr} {kk : Nat} {tpos : Pos} (a e it : Addr) :
    Turn P w K (.Tuple elts kk tpos) (IteT K a) [e, it] e (fun i h => (∃ old, IsEnum h e it ((i : Nat) : Int) old) ∧ h.IsTupleIter it a i ∧ e ≠ it) where
  mem := by simp
  obj := fun i h st b hb => by
    obtain ⟨⟨old, he⟩, ⟨o, ho, hc, hd⟩, _⟩ := st
    have e' : b = e ∨ b = it := by simpa using hb
    rcases e' with z | z
    · rw [z]; exact ⟨_, he, fun v q => nomatch q⟩
    · rw [z]; exact ⟨o, ho, fun v q => by rw [hd] at q; cases q⟩
  keep := fun i h h' st k => let ⟨⟨old, he⟩, hi, hne⟩ := st; ⟨⟨old, k e (by simp) _ he⟩, hi.at fun o q => k it (by simp) o q, hne⟩
  item := by
    intro X hP hw hK hc i pins s σ H E I hf st hg
    subst hP hw hK
    obtain ⟨⟨old, he⟩, hit, hne⟩ := st
    obtain ⟨xs, x, hq, hx⟩ := hg
    obtain ⟨its, rv, p, hz⟩ := I.tuple hq
    obtain ⟨u, hu, ru⟩ := rv.get hx
    have hil' : i < its.length := (List.getElem?_eq_some_iff.mp hu).1
    have hel : e < s.heap.objs.size := Heap.lt_size he
    have hil : it < s.heap.objs.size := by obtain ⟨_, q, _⟩ := hit; exact Heap.lt_size q
    have hai : a ≠ it := by
      intro z
      obtain ⟨o1, q1, c1, _⟩ := p
      obtain ⟨o2, q2, c2, _⟩ := hit
      rw [z, q2] at q1; cases q1; rw [c2] at c1; exact absurd c1 (by simp)
    have hea : e ≠ a := by
      intro z
      obtain ⟨o1, q1, c1, _⟩ := p
      rw [← z] at q1
      have q2 := he
      unfold IsEnum at q2
      rw [q1] at q2; cases q2; exact absurd c1 (by simp)
    refine wpAny_pyNext_enum_itemD (Draws.tuple (A := X.A.in1) (I.ok.hd hc) it a hai its.toArray) he ⟨hit, p⟩ (by simpa using hil') hne (by simp [hne, hea]) fun y h' tk hy ho hit' hT hsz hk => ?_
    have hyu : y = u := by
      have : its.toArray[i]? = some u := by simpa using hu
      rw [this] at hy; exact (Option.some.inj hy).symm
    subst hyu
    refine ⟨_, rfl, wpAny_letOwnedTupleGo_enum (s := { s with heap := h', toks := tk + 1 }) ho fun h'' he' sb => ?_⟩
    have hT2 : h''.get? s.heap.objs.size = some { cls := .type "tuple", data := .seq #[.int i tk, y] } := (sb.2 _ (Nat.ne_of_gt hel)).trans hT
    have new : ObjOk X.prog X.w (upd H s.heap.objs.size (.tup [.int (i : Nat), x])) h'' s.heap.objs.size (.tup [.int (i : Nat), x]) :=
      ⟨by show 2 ≤ sizeLine; decide, [.int i tk, y], .cons ⟨_, rfl⟩ (.cons ru .nil), ⟨_, hT2, rfl, _, rfl⟩⟩
    have I1 : Inv X pins σ (upd H s.heap.objs.size (.tup [.int (i : Nat), x])) { s with heap := h'', toks := tk + 1 } :=
      I.turnedNew (ch := [e, it]) (fun b ob hb q => (sb.2 b (fun z => hb (by simp [z]))).trans (hk b ob (fun z => hb (by simp [z])) (fun z => hb (by simp [z])) q)) hf (Nat.le_refl _) new
    refine ⟨.ref s.heap.objs.size, _, I1, rfl, ⟨_, x, rfl, I.hok.fresh (Nat.le_refl _), rfl, fun ys hy => by rw [I.tuple_inj hy hq]; exact hx⟩, ⟨⟨y, ?_⟩, hit'.1.at fun o q => (sb.2 it (Ne.symm hne)).trans q, hne⟩, fun b hb => ?_⟩
    · have e1 : ((i + 1 : Nat) : Int) = (i : Int) + 1 := by omega
      rw [e1]; exact he'
    · have hb' : b < s.heap.objs.size := by
        have e' : b = e ∨ b = it := by simpa using hb
        rcases e' with z | z
        · rw [z]; exact hel
        · rw [z]; exact hil
      rw [upd_ne (Nat.ne_of_lt hb')]
      exact (hf b hb).1
  done := by
    intro X hP hw hK hc i pins s σ H E I hf st hg
    subst hP hw hK
    obtain ⟨⟨old, he⟩, hit, hne⟩ := st
    obtain ⟨xs, hq, hx⟩ := hg
    obtain ⟨its, rv, p, hz⟩ := I.tuple hq
    obtain ⟨f0, f1, f2, f3, f4, f5⟩ := hf it (by simp)
    have hl := rv.length
    exact EO.enumT_end (I.ok.hd hc) he hit p (by simp; omega) fun h' eb => ⟨rfl, I.turned (t' := s.toks) (fun b o hb q => eb b o hb q) f0 f1 f3 f4 f5⟩
  self := fun A i s Q E st h => let ⟨⟨_, he⟩, _⟩ := st; wpAny_pyIter_enum he h
def iEnumT (K : PySem.W.Frag) (ta : TA) : TI := fun σ H R => ta σ H fun vs H1 => ∃ a xs, vs = [.ref a] ∧ SqT K H1 a xs ∧ R (IteT K a) H1
theorem pi_enumT {X : Cx} {e : Expr} {ta : TA} {p pos tpos : Pos} {elts : List Expr} {kk : Nat} (hg : Gl X "enumerate") (hm : X.mg "enumerate" = none) (ha : PA X [e] ta) (hs : starEach [e] X.env = [(false, eval e X.env)] := by rfl) :
    PI X (.Tuple elts kk tpos) (.Call (.Name "enumerate" p) [e] [] pos) (iEnumT X.K ta) := by
  refine ⟨fun pins s σ H R I h => ?_⟩
  refine Call_ (ld_blt I hg hm boot_enumerate (PyProof.Rows.callWith_type1 (thn (ha.run pos pins s σ H _ I h) fun us s1 ⟨vs, H1, I1, r1, q1⟩ => ?_) hs rfl))
  obtain ⟨a, xs, ex, hq, q⟩ := q1
  subst ex
  cases r1 with
  | cons r rr =>
    cases rr
    cases r
    obtain ⟨its, rv, p', hz⟩ := I1.tuple hq
    refine EO.call_enumerate_tuple (by exact p') fun h' he hit hsz hk => wpAny_pyIter_enum he ?_
    have I2 : Inv X pins σ H1 { s1 with heap := h' } := I1.kept (t' := s1.toks) hk
    refine ⟨s1.heap.objs.size + 1, [s1.heap.objs.size + 1, s1.heap.objs.size], _, _, H1, rfl, I2, turn_enumT a (s1.heap.objs.size + 1) s1.heap.objs.size, ⟨⟨.none, he⟩, hit, Nat.succ_ne_self _⟩, fun b hb => ?_, q⟩
    have e' : b = s1.heap.objs.size + 1 ∨ b = s1.heap.objs.size := by simpa using hb
    have hle : s1.heap.objs.size ≤ b := by
      rcases e' with z | z
      · rw [z]; exact Nat.le_add_right _ _
      · rw [z]; exact Nat.le_refl _
    exact I1.fpOk hle (I1.hok.fresh hle)
theorem walk_enumT {K : PySem.W.Frag} {a : Addr} {xs : List V} : Walk (IteT K a) xs.length (fun H => SqT K H a xs) (YPair (fun i => some (.int (i : Nat))) (fun i => xs[i]?)) := by
  refine ⟨fun i _ hi q => ⟨xs, xs[i], q, by simp [hi]⟩, fun _ q => ⟨xs, q, Nat.le_refl _⟩, fun i H v H' _ q y => ?_⟩
  obtain ⟨T, x, h1, h2, h3, h4⟩ := y
  exact ⟨T, .int (i : Nat), x, h1, h2, h3, rfl, h4 xs q⟩
end L2
set_option Elab.async false
set_option maxRecDepth 100000
namespace EO
open PySem PySem.W PySem.Spec PyProof.Rows L2
section
variable {prog : Program} {w : World} {A : Around} {E : Value → Shared → Prop} {s : Shared} {K : Frag} {x C L f : Addr} {h₀ : Heap} {m : Str → Option Value} {ox : Obj} {od : Option Obj} {name : Str} {b tb : Value}
theorem cmp_dec_K {Q : Value → Shared → Prop} (hu : A.units < cLine) (X : K.In s.heap) (I : InstAt s.heap x ox C od) (hb : Looks (model prog w) s.heap (typeOf b) tb) (hn : notFirst K C tb = true)
    (hs : findIn K (.ref C) "__eq__" = some (some (.ref f))) (hf : isFn K (.ref f) = true)
    (h : wpAny (model prog w) A (call (.ref f) [.ref x, b]) (fun v s' => v = .notImplemented ∧ wpAny (model prog w) A (tryCompare b "__eq__" (.ref x)) (fun r s2 => r = none ∧ wpAny (model prog w) A (isSame (.ref x) b) (fun k s3 => Q (.bool k) s3) E s2) E s') E s) :
    wpAny (model prog w) A (richCompare .Eq (.ref x) b) Q E s := by
  have one : wpAny (model prog w) A (tryCompare (.ref x) "__eq__" b) (fun r s' => r = none ∧ wpAny (model prog w) A (tryCompare b "__eq__" (.ref x)) (fun r s2 => r = none ∧ wpAny (model prog w) A (isSame (.ref x) b) (fun k s3 => Q (.bool k) s3) E s2) E s') E s := by
    unfold tryCompare
    refine wpAny_bind (ifBound_K X I hs hf (wpAny_mono h (fun v s' hv => ?_) fun _ _ e => e))
    obtain ⟨rfl, hv⟩ := hv
    exact wpAny_pure ⟨rfl, hv⟩
  unfold richCompare
  simp only [oneThing_ref]
  refine wpAny_holding (wpAny_bind (wpAny_cRoomFor hu ?_))
  refine wpAny_bind (I.type.here (wpAny_bind (hb.here ?_)))
  split
  · rename_i q
    have e : subIn K tb (.ref C) = some false := by
      rcases Bool.or_eq_true_iff.mp hn with e | e
      · rw [beq_iff_eq.mp e] at q; simp at q
      · exact beq_iff_eq.mp e
    refine wpAny_bind ((looks_subIn X e).here ?_)
    simp only [Bool.false_eq_true, if_false]
    refine wpAny_bind (wpAny_mono one (fun r s' z => ?_) fun _ _ e => e)
    obtain ⟨rfl, z⟩ := z
    simp only [Bool.not_false, if_true]
    refine wpAny_bind (wpAny_mono z (fun r s' z => ?_) fun _ _ e => e)
    obtain ⟨rfl, z⟩ := z
    refine wpAny_bind (wpAny_rule ?_)
    exact wpAny_bind (wpAny_mono z (fun k s3 q => wpAny_pure q) fun _ _ e => e)
  · refine wpAny_bind (wpAny_pure ?_)
    simp only [Bool.false_eq_true, if_false]
    refine wpAny_bind (wpAny_mono one (fun r s' z => ?_) fun _ _ e => e)
    obtain ⟨rfl, z⟩ := z
    simp only [Bool.not_false, if_true]
    refine wpAny_bind (wpAny_mono z (fun r s' z => ?_) fun _ _ e => e)
    obtain ⟨rfl, z⟩ := z
    refine wpAny_bind (wpAny_rule ?_)
    exact wpAny_bind (wpAny_mono z (fun k s3 q => wpAny_pure q) fun _ _ e => e)
/-- a special method that is a built-in slot -/
theorem ifBound_B {M : Model} {id : String} {args : List Value} {Q : Option Value → Shared → Prop} (X : K.In s.heap) (I : InstAt s.heap x ox C od) (hs : findIn K (.ref C) name = some (some (.builtin id))) (hb : bindSpecial (.builtin id) (.ref x) = pure (.builtin id, [.ref x]))
    (h : wpAny M A (call (.builtin id) (.ref x :: args)) (fun v => Q (some v)) E s) : wpAny M A (callSpecialIfBound? (.ref x) name args) Q E s := by
  simp only [callSpecialIfBound?, bindSpecialIfBound?, hb]
  refine wpAny_holding (wpAny_bind (wpAny_bind (wpAny_bind (I.type.here ((looks_findIn X hs).here ?_)))))
  refine wpAny_bind (wpAny_askSetting (wpAny_ite ?_))
  have fin : wpAny M A (call (.builtin id) ([.ref x] ++ args) >>= fun v => pure (some v)) Q E s := wpAny_bind (wpAny_mono h (fun v s' h' => wpAny_pure h') fun _ _ h' => h')
  simp only [hb, pure_bind]
  split
  · exact wpAny_pure (by exact fin)
  · exact wpAny_tryCatch (wpAny_pure (by exact fin))
/-- the check of a slot of object's, called of an instance -/
theorem check_obj {M : Model} {id n : String} {rest : List Value} {Q : Unit → Shared → Prop} (hk : builtinKind id = some .slot) (hs : splitId id = some ("object", n)) (ha : argsOk id ⟨.ref x :: rest, []⟩)
    (X : K.In s.heap) (I : InstAt s.heap x ox C od) (hm : mroIn K C (.type "object") = some true) (hq : Q () s) : wpAny M A (checkBuiltinCall id ⟨.ref x :: rest, []⟩) Q E s := by
  simp only [checkBuiltinCall, hk, hs]
  refine wpAny_bind ?_
  unfold isInstance
  refine wpAny_bind (I.type.here ((looks_mroIn X hm).here ?_))
  simp only [Bool.not_true, Bool.false_eq_true, if_false]
  cases hsig : Manifest.signature? id with
  | none => exact wpAny_pure hq
  | some sig =>
    simp only [argsOk, hsig] at ha
    have h2 : Bind.checkArgs id sig ⟨.ref x :: rest, []⟩ = pure () := ha
    show wpAny M A (Bind.checkArgs id sig ⟨.ref x :: rest, []⟩) Q E _
    rw [h2]; exact wpAny_pure hq
/-- a != b by object's own, over an own == that answers True or False -/
theorem ne_K {Q : Value → Shared → Prop} (hu : A.units + 1 < cLine) (X : K.In s.heap) (I : InstAt s.heap x ox C od) (hb : Looks (model prog w) s.heap (typeOf b) tb) (hn : notFirst K C tb = true)
    (hs : findIn K (.ref C) "__eq__" = some (some (.ref f))) (hf : isFn K (.ref f) = true) (hne : findIn K (.ref C) "__ne__" = some (some (.builtin "object.__ne__"))) (hm : mroIn K C (.type "object") = some true)
    (h : wpAny (model prog w) A.in1 (call (.ref f) [.ref x, b]) (fun v s' => ∃ c, v = .bool c ∧ Q (.bool (!c)) s') E s) :
    wpAny (model prog w) A (richCompare .NotEq (.ref x) b) Q E s := by
  have body : wpAny (model prog w) A (call (.builtin "object.__ne__") [.ref x, b]) (fun v s' => ∃ c, v = .bool c ∧ Q (.bool c) s') E s := by
    refine wpAny_call ?_
    refine codeAny_call_builtin F.cmp_object.ne.plain F.cmpEntry_ne ?_
    refine check_obj (id := "object.__ne__") (n := "__ne__") (rest := [b]) (x := x) F.cmpKind_ne F.cmpSplit_ne (F.cmpArgs_ne _ _) X I hm ?_
    have h' : wpAny (model prog w) A.in1 (callSpecialIfBound? (.ref x) (Str.ofString "__eq__") [b]) (fun r s' => ∃ c, r = some (.bool c) ∧ Q (.bool (!c)) s') E s :=
      ifBound_K X I hs hf (wpAny_mono h (fun r s' hr => by obtain ⟨c, rfl, hq⟩ := hr; exact ⟨c, rfl, hq⟩) fun _ _ e => e)
    unfold Builtin.«object.__ne__»
    repeat (first
      | with_reducible refine wpAny_cRoomFor (A := A.in1) hu ?_
      | (refine wpAny_bind (m := callSpecialIfBound? (.ref x) (Str.ofString "__eq__") [b]) (wpAny_mono h' (fun r s' hr => ?_) fun _ _ e => e)
         obtain ⟨c, rfl, hq⟩ := hr)
      | wp_step)
    exact ⟨_, rfl, hq⟩
  have one : wpAny (model prog w) A (tryCompare (.ref x) "__ne__" b) (fun r s' => ∃ v, r = some v ∧ Q v s') E s := by
    unfold tryCompare
    refine wpAny_bind (ifBound_B X I hne (F.cmp_object.ne.bind _) (wpAny_mono body (fun v s' hv => ?_) fun _ _ e => e))
    obtain ⟨c, rfl, hq⟩ := hv
    exact wpAny_pure ⟨_, rfl, hq⟩
  unfold richCompare
  simp only [oneThing_ref]
  refine wpAny_holding (wpAny_bind (wpAny_cRoomFor (Nat.lt_of_succ_lt hu) ?_))
  refine wpAny_bind (I.type.here (wpAny_bind (hb.here ?_)))
  split
  · rename_i q
    have e : subIn K tb (.ref C) = some false := by
      rcases Bool.or_eq_true_iff.mp hn with e | e
      · rw [beq_iff_eq.mp e] at q; simp at q
      · exact beq_iff_eq.mp e
    refine wpAny_bind ((looks_subIn X e).here ?_)
    simp only [Bool.false_eq_true, if_false]
    refine wpAny_bind (wpAny_mono one (fun r s' z => ?_) fun _ _ e => e)
    obtain ⟨v, rfl, hq⟩ := z
    exact wpAny_pure hq
  · refine wpAny_bind (wpAny_pure ?_)
    simp only [Bool.false_eq_true, if_false]
    refine wpAny_bind (wpAny_mono one (fun r s' z => ?_) fun _ _ e => e)
    obtain ⟨v, rfl, hq⟩ := z
    exact wpAny_pure hq
end
end EO

namespace L2
open PySem PySem.Spec PyProof.Rows
/-- two instances of the class at C, compared by the text's own ==, that answers True or False -/
structure OwnE (K : PySem.W.Frag) (C f : Addr) : Prop where
  eq : PySem.W.findIn K (.ref C) "__eq__" = some (some (.ref f))
  fn : PySem.W.isFn K (.ref f) = true
  ne : PySem.W.findIn K (.ref C) "__ne__" = some (some (.builtin "object.__ne__"))
  mo : PySem.W.mroIn K C (.type "object") = some true
def rOwn (C : Addr) (sp : Sp) (g : Bool → Bool) (E : XK) : R2 := fun x y H Q => ∃ a b dx dy fs gs, x = .ref a ∧ y = .ref b ∧ H a = some (.ins C dx fs) ∧ H b = some (.ins C dy gs) ∧
  sp [x, y] H (fun v H' => ∃ c, v = .bl c ∧ Q (.bl (g c)) H') E
section
variable {X : Cx} {n : Nat} {CX : CXT} {C f : Addr} {fd : FuncData} {ps : List Str} {sp : Sp} {E : XK}
theorem own_call {A : Around} {pins : List (Addr × Obj)} {s : Shared} {σ : St} {H : Hp} {vs : List V} {us : List Value} {Q : VK} (F : FnOk X.prog X.w X.K X.mg X.base CX n f fd ps sp) (hb : Binds X.K fd ps []) (hx : Passes CX X E) (hr : Room n A) (hfr : A.frames = X.A.frames)
    (I : Inv X pins σ H s) (r : Vals vs us) (h : sp vs H Q E) : wpAny (model X.prog X.w) A (call (.ref f) us) (fun u s' => ∃ v H', Inv X pins σ H' s' ∧ RelV v u ∧ Q v H') X.xe s := by
  have e0 : Env0 X.prog X.w X.K X.mg X.base A X.stack s H := by
    have e := I.env0
    exact ⟨by rw [hfr]; exact e.frames, e.mod, e.bs, e.bsz, e.funs, e.frf, e.hok, e.bare⟩
  have hl := F.len _ _ _ _ h
  refine wpAny_call (codeAny_mono (F.run A X.stack s H ⟨us, []⟩ us vs _ E hr e0 (by
    have := hb s us I.kIn (by have := r.length; rw [List.append_nil, ← this, hl])
    simpa using this) r h) fun r s' hq => ?_)
  cases r with
  | error e => exact hx pins σ H s e s' I hq
  | ok fl =>
    cases fl with
    | ret w =>
      obtain ⟨z, H', I', rz, q⟩ := I.after hq
      exact ⟨z, H', I', rz, q⟩
    | next => exact False.elim hq
    | brk => exact False.elim hq
    | cont => exact False.elim hq
theorem op_eqOwn (O : OwnE X.K C f) (F : FnOk X.prog X.w X.K X.mg X.base CX n f fd ps sp) (hr : Room n X.A) (hb : Binds X.K fd ps []) (hx : Passes CX X E) : OpR X (compareOp .Eq) (rOwn C sp (fun c => c) E) := by
  intro pins s σ H x y u v Q I rx ry h
  obtain ⟨a, b, dx, dy, fs, gs, rfl, rfl, ha, hb', hs⟩ := h
  cases rx
  cases ry
  obtain ⟨mA, J, _⟩ := ins_get I.hok ha
  obtain ⟨mB, J', _⟩ := ins_get I.hok hb'
  obtain ⟨od, J, _⟩ := J.look
  obtain ⟨od', J', _⟩ := J'.look
  obtain ⟨m, hF⟩ := I.fr
  show wpAny (model X.prog X.w) X.A (richCompare .Eq (.ref a) (.ref b)) (EP X pins σ Q) X.xe s
  refine PySem.W.cmp_K (op := .Eq) (tb := .ref C) hr.units0 hF I.ok.mod.kin J J'.type (by simp [PySem.W.notFirst]) O.eq O.fn ?_
  refine wpAny_mono (own_call (vs := [V.ref a, V.ref b]) F hb hx hr rfl I (.cons rfl (.cons rfl .nil)) hs) (fun u s' q => ?_) fun _ _ e => e
  obtain ⟨z, H', I', rz, c, rfl, q⟩ := q
  cases rz
  exact ⟨.bl c, H', I', rfl, q⟩
theorem op_neOwn (O : OwnE X.K C f) (F : FnOk X.prog X.w X.K X.mg X.base CX n f fd ps sp) (hr : Room (n + 1) X.A) (hb : Binds X.K fd ps []) (hx : Passes CX X E) : OpR X (compareOp .NotEq) (rOwn C sp (fun c => !c) E) := by
  intro pins s σ H x y u v Q I rx ry h
  obtain ⟨a, b, dx, dy, fs, gs, rfl, rfl, ha, hb', hs⟩ := h
  cases rx
  cases ry
  obtain ⟨mA, J, _⟩ := ins_get I.hok ha
  obtain ⟨mB, J', _⟩ := ins_get I.hok hb'
  obtain ⟨od, J, _⟩ := J.look
  obtain ⟨od', J', _⟩ := J'.look
  show wpAny (model X.prog X.w) X.A (richCompare .NotEq (.ref a) (.ref b)) (EP X pins σ Q) X.xe s
  refine EO.ne_K (tb := .ref C) (by have := hr.units; omega) I.kIn J J'.type (by simp [PySem.W.notFirst]) O.eq O.fn O.ne O.mo ?_
  refine wpAny_mono (own_call (vs := [V.ref a, V.ref b]) F hb hx hr.in1 rfl I (.cons rfl (.cons rfl .nil)) hs) (fun u s' q => ?_) fun _ _ e => e
  obtain ⟨z, H', I', rz, c, rfl, q⟩ := q
  cases rz
  exact ⟨c, rfl, ⟨.bl (!c), H', I', rfl, q⟩⟩
/-! a def that begins with «if TEST: return NotImplemented», called where TEST holds -/
structure FnNI (P : Program) (w : World) (K : PySem.W.Frag) (mg : Str → Option Value) (base : Heap) (k : Nat) (f : Addr) (fd : FuncData) (ps : List Str) (pre : List V → Hp → Prop) : Prop where
  len : ∀ vs H, pre vs H → vs.length = ps.length
  run : ∀ (A : Around) (outer : List Env) (s : Shared) (H : Hp) (args : Args) (us : List Value) (vs : List V), Room k A → Env0 P w K mg base A outer s H → BindsTo s fd args (ps.zip us) → Vals vs us → pre vs H →
    codeAny (model P w) A (.call (.ref f) args) (fun r s' => r = .ok (.ret .notImplemented) ∧ CE outer P w H s (fun v H' => v = .non ∧ Same H H') .none s') s
theorem fn_NI {P : Program} {w : World} {K : PySem.W.Frag} {mg : Str → Option Value} {base : Heap} {k : Nat} {f : Addr} {name qual : Str} {params : Arguments} {body rest : List Stmt} {tst : Expr} {p1 p2 p3 : Pos} {scope : Scope} {dV kV doc pm cdv ct oc : Value} {an od : Option Addr}
    {osl : Array (Option Value)} {N ps : List Str} {pre : List V → Hp → Prop} (lk : K.lookup f = some ⟨oc, od, .func (PySem.W.fnOf name qual params body scope dV kV doc pm an cdv ct), osl⟩) (hcd : PySem.W.codeIn K cdv qual = true) (S : FnScope N ps scope)
    (len : ∀ vs H, pre vs H → vs.length = ps.length) (hbd : body = .If tst [.Return (some (.Name "NotImplemented" p1)) p2] [] p3 :: rest)
    (hg : scope.names.lookup ("NotImplemented" : Str) = some .globalImplicit) (hm : mg "NotImplemented" = none) (hv : bootBuiltins "NotImplemented" = some .notImplemented)
    (htest : ∀ (A : Around) (outer : List Env) (s : Shared) (H : Hp) (vs : List V), Room k (A.deeper (envOfC qual scope s.heap.objs.size f cdv)) → pre vs H →
      ∃ t, PT (cxOf CX0 P w K mg base N qual scope f cdv A outer s H E0).nox tst t ∧ t (start N vs) H (fun b H1 => b = true ∧ Same H H1)) :
    FnNI P w K mg base (k + 1) f (PySem.W.fnOf name qual params body scope dV kV doc pm an cdv ct) ps pre := by
  refine ⟨len, fun A outer s H args us vs hr e0 hb r hsp => ?_⟩
  have hl := len _ _ hsp
  have KX : K.In s.heap := e0.mod.kin.keeps fun b o e => (e0.bs b o e).1
  have lim : s.heap.NoLimit := e0.mod.nolimit.keeps fun b o e => (e0.bs b o e).1
  have hkind : ∀ y ∈ ps.zip us, scope.names.lookup y.1 = some .local ∨ (scope.names.lookup y.1 = some .cell ∧ ((cellsFrom (s.heap.objs.size + 1) scope.names []).lookup y.1).isSome = true) := fun ⟨n, v⟩ hy => by
    rcases S.par n (List.of_mem_zip hy).1 with q | q
    · exact .inl q
    · exact .inr ⟨q, PySem.W.cellsFrom_some _ _ _ (.inl q)⟩
  refine codeAny_call_function hr.depth (KX _ _ lk) rfl S.co S.gen rfl (PySem.W.codeRec_of KX hcd) (hb _ _ _ _ ?_)
  refine wpAny_newFunctionEnv_cells S.kind hkind fun env he s1 x => ?_
  subst he
  refine ⟨lim.keeps x.toInCall.keep, codeAny_func ?_⟩
  obtain ⟨t, ht, hq⟩ := htest A outer s H vs (hr.deeper _) hsp
  have I : Inv (cxOf CX0 P w K mg base N qual scope f cdv A outer s H E0) [] (start N vs) H s1 := inv_start S hr.hd e0 hl r x
  subst hbd
  have run : wpAny (model P w) (cxOf CX0 P w K mg base N qual scope f cdv A outer s H E0).A (execs (.If tst [.Return (some (.Name "NotImplemented" p1)) p2] [] p3 :: rest) (cxOf CX0 P w K mg base N qual scope f cdv A outer s H E0).env)
      (fun fl s' => fl = .ret .notImplemented ∧ CE outer P w H s (fun v H' => v = .non ∧ Same H H') .none s') (fun _ _ => False) s1 := by
    refine wpAny_execs_cons (wpAny_mono (wpAny_If (wpAny_mono (ht.run [] s1 (start N vs) H (fun b H1 => b = true ∧ Same H H1) (I.wish _) hq) (fun d s2 q2 => ?_) fun _ _ z => z))
      (fun fl s' (z : fl = .ret .notImplemented ∧ CE outer P w H s (fun v H' => v = .non ∧ Same H H') .none s') => ?_) fun _ _ z => z)
    · obtain ⟨H2, I2, rfl, sm⟩ := q2
      refine wpAny_execs_cons (wpAny_mono (wpAny_Return_some (Q := fun fl s' => fl = .ret .notImplemented ∧ CE outer P w H s (fun v H' => v = .non ∧ Same H H') .none s') (ld_blt I2.unwish hg hm hv ?_)) (fun fl s' z => ?_) fun _ _ z => z)
      · exact ⟨rfl, ⟨.non, H2, I2.os, I2.bare, I2.base, I2.hok, rfl, rfl, sm⟩⟩
      · obtain ⟨rfl, z⟩ := z
        exact ⟨rfl, z⟩
    · obtain ⟨rfl, z⟩ := z
      exact ⟨rfl, z⟩
  exact wpAny_mono run (fun fl s' z => by obtain ⟨rfl, z⟩ := z; exact ⟨rfl, z⟩) fun _ _ z => z.elim
end
end L2
namespace EO
open PySem PySem.W PySem.Spec PyProof.Rows L2
open SeqAt
open AutoSeq1 (wpAny_loadPart')
section
variable {prog : Program} {w : World} {A : Around} {E : Value → Shared → Prop} {s : Shared} {K : Frag} {x C : Addr} {ox : Obj} {od : Option Obj}
theorem int_declines_ins (b : Int) (u : Tok) (l dx : Addr) : Meets (Builtin.«int.__eq__» ⟨[.int b u, .ref l], []⟩) (fun _ R s => s.heap.get? l = some (instObj C dx) ∧ R (.ok (.ret .notImplemented)) s) :=
  .of_wp fun prog w A R s h => by
    obtain ⟨hp, g, d, tk, os⟩ := s; obtain ⟨hl, h⟩ := h
    wp_walk using wpAny_loadPart' hl, wpAny_load hl
    exact ⟨_, rfl, h⟩
theorem list_declines_ins {l : Addr} {items : Array Value} {R : Result → Shared → Prop} (hl : s.heap.IsList l items) (X : K.In s.heap) (I : InstAt s.heap x ox C od) (hm : mroIn K C (.type "list") = some false) (h : R (.ok (.ret .notImplemented)) s) :
    wpAny (model prog w) A.in1 (Builtin.«list.__eq__» ⟨[.ref l, .ref x], []⟩) (fun fin s' => match fin with | .done f => R (.ok f) s' | .again c' => c'.quiet = true ∧ codeAny (model prog w) A c' R s') (fun e s' => R (.error e) s') s := by
  have hx := I.at_
  have hcl := I.cls
  obtain ⟨⟨cls, dd, data, sl⟩, ho, hc, n, hd⟩ := id hl
  simp only at hc hd
  subst hc hd
  obtain ⟨cls2, dd2, data2, sl2⟩ := ox
  simp only at hcl
  subst hcl
  obtain ⟨hp, g, d, tk, os⟩ := s
  wp_walk using wpAny_loadPart' ho, wpAny_loadPart' hx
  refine (looks_mroIn X hm).here ?_
  simp only [Bool.not_false, if_true]
  wp_walk
  exact h
theorem nf {K : Frag} {C : Addr} {T : String} {l : List Value} (h : fastBuiltinMro T = some l) (hc : l.contains (.ref C) = false) : notFirst K C (.type T) = true := by
  unfold notFirst subIn
  simp only [h, Option.map_some, hc]
  simp
theorem mro_None : fastBuiltinMro "NoneType" = some [.type "NoneType", .type "object"] := by decide +kernel
theorem mro_int : fastBuiltinMro "int" = some [.type "int", .type "object"] := by decide +kernel
theorem mro_list : fastBuiltinMro "list" = some [.type "list", .type "object"] := by decide +kernel
end
end EO
namespace L2
open PySem PySem.Spec PyProof.Rows
/-- an instance compared with None, an int, a list: its own == says NotImplemented, the other's too; so False -/
def rNI (C : Addr) (pre : List V → Hp → Prop) : R2 := fun x y H Q => ∃ a dx fs, x = .ref a ∧ H a = some (.ins C dx fs) ∧ pre [x, y] H ∧ (y = .non ∨ (∃ i, y = .int i) ∨ ∃ l xs, y = .ref l ∧ H l = some (.lst xs)) ∧ ∀ H', Same H H' → Q (.bl false) H'
theorem op_eqNI {X : Cx} {n : Nat} {C f : Addr} {fd : FuncData} {ps : List Str} {pre : List V → Hp → Prop} (O : OwnE X.K C f) (ml : PySem.W.mroIn X.K C (.type "list") = some false)
    (G : FnNI X.prog X.w X.K X.mg X.base n f fd ps pre) (hr : Room n X.A) (hb : Binds X.K fd ps []) : OpR X (compareOp .Eq) (rNI C pre) := by
  intro pins s σ H x y u v Q I rx ry h
  obtain ⟨a, dx, fs, rfl, ha, hp, hy, hQ⟩ := h
  cases rx
  obtain ⟨mA, J, _⟩ := ins_get I.hok ha
  obtain ⟨od, J, _⟩ := J.look
  show wpAny (model X.prog X.w) X.A (richCompare .Eq (.ref a) v) (EP X pins σ Q) X.xe s
  have hl := G.len _ _ hp
  have call : ∀ (T : String), PySem.W.Looks (model X.prog X.w) s.heap (typeOf v) (.type T) → PySem.W.notFirst X.K C (.type T) = true →
      (∀ s' H', Inv X pins σ H' s' → Same H H' → wpAny (model X.prog X.w) X.A (tryCompare v "__eq__" (.ref a)) (fun r s2 => r = none ∧ wpAny (model X.prog X.w) X.A (isSame (.ref a) v) (fun k s3 => k = false ∧ Inv X pins σ H' s3) X.xe s2) X.xe s') →
      wpAny (model X.prog X.w) X.A (richCompare .Eq (.ref a) v) (EP X pins σ Q) X.xe s := fun T lk nf tr => by
    refine EO.cmp_dec_K (tb := .type T) hr.units0 I.kIn J lk nf O.eq O.fn ?_
    refine wpAny_call (codeAny_mono (G.run X.A X.stack s H ⟨[.ref a, v], []⟩ [.ref a, v] [.ref a, y] hr I.env0 (by
      have := hb s [.ref a, v] I.kIn (by rw [List.append_nil, ← hl]; rfl)
      simpa using this) (.cons rfl (.cons ry .nil)) hp) fun r s' hq => ?_)
    obtain ⟨rfl, hq⟩ := hq
    obtain ⟨z, H', I', rz, ez, sm⟩ := I.after hq
    refine ⟨rfl, wpAny_mono (tr s' H' I' sm) (fun r s2 q => ⟨q.1, wpAny_mono q.2 (fun k s3 q => ?_) fun _ _ e => e⟩) fun _ _ e => e⟩
    obtain ⟨rfl, I3⟩ := q
    exact ⟨.bl false, H', I3, rfl, hQ H' sm⟩
  have at' : ∀ s' H', Inv X pins σ H' s' → Same H H' → ∃ od, PySem.W.InstAt s'.heap a (PySem.W.instObj C dx) C (some od) := fun s' H' I' sm => by
    obtain ⟨mA, J, _⟩ := ins_get I'.hok (sm _ _ ha)
    obtain ⟨od, J, _⟩ := J.look
    exact ⟨od, J⟩
  rcases hy with rfl | ⟨i, rfl⟩ | ⟨l, xs, rfl, hl'⟩
  · cases ry
    refine call "NoneType" (PySem.W.Looks.of_pure rfl) (EO.nf EO.mro_None (by simp)) fun s' H' I' sm => ?_
    exact wpAny_tryCompare_declines rfl F.slot_NoneType_eq (call_gives F.slot_NoneType_eq rfl F.entry_NoneType_eq (F.args_NoneType_eq_2 _ _) (SeqAt.NoneType___eq___none_ref_0 a)
      ⟨rfl, rfl, wpAny_of_eq (rfl : isSame (.ref a) .none = pure false) ⟨rfl, I'⟩⟩)
  · obtain ⟨t, rfl⟩ := ry
    refine call "int" (PySem.W.Looks.of_pure rfl) (EO.nf EO.mro_int (by simp)) fun s' H' I' sm => ?_
    obtain ⟨od', J'⟩ := at' s' H' I' sm
    exact wpAny_tryCompare_declines (typeIs_int s' i t) F.slot_int_eq (call_meets F.slot_int_eq (typeIs_int s' i t) F.entry_int_eq (F.args_int_eq_2 _ _) (EO.int_declines_ins (C := C) i t a dx)
      ⟨J'.at_, rfl, rfl, wpAny_of_eq (rfl : isSame (.ref a) (.int i t) = pure false) ⟨rfl, I'⟩⟩)
  · cases ry
    obtain ⟨_, its, k, r, e⟩ := I.hok l _ hl'
    refine call "list" ((PySem.W.Looks.ld (part := none) e).andThen .now) (EO.nf EO.mro_list (by simp)) fun s' H' I' sm => ?_
    obtain ⟨od', J'⟩ := at' s' H' I' sm
    obtain ⟨_, its', k', r', e'⟩ := I'.hok l _ (sm _ _ hl')
    have nal : a ≠ l := ne_of ha hl' (by intro z; cases z)
    refine wpAny_tryCompare_declines ⟨_, e', rfl⟩ F.slot_list_eq (GQ.call_here F.slot_list_eq ⟨_, e', rfl⟩ F.entry_list_eq (F.args_list_eq_2 _ _) ?_)
    exact EO.list_declines_ins (R := wants _ _) ⟨_, e', rfl, _, rfl⟩ I'.kIn J' ml ⟨rfl, rfl, SeqAt.wpAny_isSame_ref_other' nal J'.at_ e' (by show Value.type "list" ≠ Value.type "tuple"; decide) ⟨rfl, I'⟩⟩
end L2
set_option Elab.async false
set_option linter.all false
set_option maxRecDepth 100000
namespace K1
open PySem L2
/-- a def of the text, by its name -/
structure Df (K : PySem.W.Frag) (mg : Str → Option Value) (x : Str) (st : Stmt) (ps : List Str) (f : Addr) (fd : FuncData) : Prop where
  F : Fun K x x st f fd
  g : mg x = some (.ref f)
  b : Binds K fd ps []
theorem Kept.seq {K : PySem.W.Frag} {d : Addr} {H H' : Hp} {a : Addr} {xs : List V} (e : Kept d H H') (n : a ≠ d) (h : SqL K H a xs) : SqL K H' a xs := by
  rcases h with (h | ⟨o, h⟩) | h
  · exact .inl (.inl (e _ _ h n))
  · exact .inl (.inr ⟨o, e _ _ h n⟩)
  · exact .inr h
theorem Kept.seqT {K : PySem.W.Frag} {d : Addr} {H H' : Hp} {a : Addr} {xs : List V} (e : Kept d H H') (n : a ≠ d) (h : SqT K H a xs) : SqT K H' a xs := by
  rcases h with (h | ⟨o, h⟩) | h
  · exact .inl (.inl (e _ _ h n))
  · exact .inl (.inr ⟨o, e _ _ h n⟩)
  · exact .inr h
def spPickL (K : PySem.W.Frag) : Sp := fun vs H Q _ => ∃ (d c p : Addr) (n : Nat) (xs : List V), vs = [.ref d, .ref p] ∧ PenAt H d c n ∧ n ≤ 1000000 ∧ p ≠ d ∧ SqL K H p xs ∧ 0 < xs.length ∧ xs.length < 1073741824 ∧
  ∀ (x : V) (H' : Hp), x ∈ xs → PenAt H' d c (n + 1) → Kept d H H' → Q x H'
def spPickS : Sp := fun vs H Q _ => ∃ (d q : Addr) (n : Nat) (z : Str), vs = [.ref d, .str z] ∧ PenAt H d q n ∧ n ≤ 1000000 ∧ 0 < z.length ∧ z.length < 10000 ∧
  ∀ (c : Nat) (H' : Hp), c ∈ z.cps.toList → PenAt H' d q (n + 1) → Kept d H H' → Q (.str ⟨#[c]⟩) H'
section
variable {P : Program} {w : World} {K : PySem.W.Frag} {mg : Str → Option Value} {base : Heap}
theorem scPick : FnScope ["_law_pen_here", "_law_some"] ["_law_pen_here", "_law_some"] (defScope sPick) := ⟨rfl, rfl, rfl, by decide +kernel, rfl, by decide +kernel, by decide +kernel⟩
abbrev pDraw : List Str := ["_law_pen_here", "_law_many"]
abbrev pPick : List Str := ["_law_pen_here", "_law_some"]
theorem ok_pickL {f fD : Addr} {fd fdD : FuncData} (D : Df K mg "_law_pick" sPick pPick f fd) (DD : Df K mg "_law_draw" sDraw pDraw fD fdD) (T : Bt mg) : FnOk P w K mg base CX0 2 f fd pPick (spPickL K) := by
  have GD : FnOk P w K mg base CX0 1 fD fdD pDraw spDraw := ok_draw DD.F T
  refine D.F.ok scPick (fun vs H Q E h => ?_) (fun cdv A outer s H vs Q E hr h => ?_)
  · obtain ⟨d, c, p, n, xs, rfl, _⟩ := h
    rfl
  · obtain ⟨d, c, p, n, xs, rfl, hp, hn, npd, hx, h0, h1, k⟩ := h
    refine ⟨_, pss_one (ps_ret (pe_ix ix_list (pv 1) (pe_call GD hr rfl DD.g DD.F.kp DD.b .nil pass0 (pa_cons (pv 0) (pa_cons (pe_callB call_len (by rfl) T.len PySem.boot_len (pa_cons (pv 1) pa_nil)) pa_nil))) (fun _ _ => rfl))), ?_⟩
    refine ⟨_, rfl, _, rfl, _, rfl, _, xs.length, rfl, .inl ⟨_, hx, rfl⟩, d, c, n, xs.length, rfl, hp, hn, by omega, by omega, fun r H' r0 r1 hp' kp => ?_⟩
    obtain ⟨j, rfl⟩ : ∃ j : Nat, r = (j : Int) := ⟨r.toNat, by omega⟩
    have hj : j < xs.length := by omega
    exact ⟨p, xs, _, xs[j], rfl, rfl, kp.seq npd hx, atI_nat (by simp [hj]), k _ _ (List.getElem_mem _) hp' kp⟩
theorem ok_pickS {f fD : Addr} {fd fdD : FuncData} (D : Df K mg "_law_pick" sPick pPick f fd) (DD : Df K mg "_law_draw" sDraw pDraw fD fdD) (T : Bt mg) : FnOk P w K mg base CX0 2 f fd pPick spPickS := by
  have GD : FnOk P w K mg base CX0 1 fD fdD pDraw spDraw := ok_draw DD.F T
  refine D.F.ok scPick (fun vs H Q E h => ?_) (fun cdv A outer s H vs Q E hr h => ?_)
  · obtain ⟨d, q, n, z, rfl, _⟩ := h
    rfl
  · obtain ⟨d, q, n, z, rfl, hp, hn, h0, h1, k⟩ := h
    have hz : z.length ≤ sizeLine := Nat.le_trans (Nat.le_of_lt h1) (by decide)
    refine ⟨_, pss_one (ps_ret (pe_ix ix_str (pv 1) (pe_call GD hr rfl DD.g DD.F.kp DD.b .nil pass0 (pa_cons (pv 0) (pa_cons (pe_callB call_len (by rfl) T.len PySem.boot_len (pa_cons (pv 1) pa_nil)) pa_nil))) (fun _ _ => rfl))), ?_⟩
    refine ⟨_, rfl, _, rfl, _, rfl, _, z.length, rfl, ⟨hz, rfl⟩, d, q, n, z.length, rfl, hp, hn, by omega, by omega, fun r H' r0 r1 hp' kp => ?_⟩
    obtain ⟨j, rfl⟩ : ∃ j : Nat, r = (j : Int) := ⟨r.toNat, by omega⟩
    have hj : j < z.cps.toList.length := by
      have : z.length = z.cps.toList.length := by simp [Str.length]
      omega
    exact ⟨z, _, z.cps.toList[j], rfl, rfl, hz, atI_nat (by simp [hj]), k _ _ (List.getElem_mem _) hp' kp⟩
end
end K1
set_option Elab.async false
set_option linter.all false
set_option maxRecDepth 100000
namespace K1
open PySem L2
/-! the words -/
abbrev zLE : Str := "abcdefghijklmnopqrstuvwxyz"
abbrev zDG : Str := "0123456789"
def LE : List Nat := zLE.cps.toList
def AL : List Nat := LE ++ zDG.cps.toList
theorem LE_eq : LE = (List.range 26).map (· + 97) := by decide +kernel
def one (c : Nat) : Str := ⟨#[c]⟩
theorem joinL_nil : ∀ l : List (List Nat), TL.joinL [] l = l.flatten
  | [] => rfl
  | [p] => by simp [TL.joinL]
  | p :: q :: r => by rw [TL.joinL, joinL_nil (q :: r)]; simp
theorem join_ones (cs : List Nat) : (Txt.join ("" : Str) (cs.map one)).cps.toList = cs := by
  have e1 : ((cs.map one).map TL.tl).flatten = cs := by
    induction cs with
    | nil => rfl
    | cons c r ih => simp [one, TL.tl] at ih ⊢; exact ih
  have e := TL.tl_join ("" : Str) (cs.map one)
  rw [TL.join_eq]
  have e0 : TL.tl ("" : Str) = [] := by decide +kernel
  rw [e0, joinL_nil, e1] at e
  exact e
theorem sum_ones : ∀ cs : List Nat, ((cs.map one).map (·.length)).sum = cs.length
  | [] => rfl
  | c :: r => by
    have := sum_ones r
    simp only [List.map_cons, List.sum_cons, List.length_cons, this]
    show 1 + r.length = _
    omega
/-- a word as the pen makes it -/
def Wd (z : Str) : Prop := ∃ c r, z.cps.toList = c :: r ∧ c ∈ LE ∧ (∀ x ∈ r, x ∈ AL) ∧ r.length ≤ 6
theorem AL_eq : AL = (zLE ++ zDG).cps.toList := by decide +kernel
def wordAt (zF zB : Str) (a b k : Nat) : Str := zF ++ one (LE.getD ((a + b * k) % 26) 0) ++ zB
theorem tl_wordAt (zF zB : Str) (a b k : Nat) : (wordAt zF zB a b k).cps.toList = zF.cps.toList ++ (LE.getD ((a + b * k) % 26) 0 :: zB.cps.toList) := by
  unfold wordAt
  have e1 := TL.tl_append (zF ++ one (LE.getD ((a + b * k) % 26) 0)) zB
  have e2 := TL.tl_append zF (one (LE.getD ((a + b * k) % 26) 0))
  unfold TL.tl at e1 e2
  rw [e1, e2]
  simp [one]
theorem LE_len : LE.length = 26 := by decide +kernel
theorem LE_getD {i : Nat} (h : i < 26) : LE.getD i 0 = i + 97 := by
  rw [LE_eq]
  simp [h]
theorem LE_mem {i : Nat} (h : i < 26) : LE.getD i 0 ∈ LE := by
  have : i < LE.length := by rw [LE_len]; exact h
  rw [List.getD_eq_getElem?_getD, List.getElem?_eq_getElem this]
  exact List.getElem_mem _
theorem LE_AL {c : Nat} (h : c ∈ LE) : c ∈ AL := List.mem_append_left _ h
theorem wordAt_wd {zF zB : Str} {a b k : Nat} (hF : ∀ c ∈ zF.cps.toList, c ∈ LE) (lF : zF.cps.toList.length ≤ 3) (hB : ∀ c ∈ zB.cps.toList, c ∈ AL) (lB : zB.cps.toList.length ≤ 3) : Wd (wordAt zF zB a b k) := by
  unfold Wd
  rw [tl_wordAt]
  have hm := LE_mem (i := (a + b * k) % 26) (Nat.mod_lt _ (by decide))
  generalize LE.getD ((a + b * k) % 26) 0 = c at hm
  generalize zF.cps.toList = F at hF lF
  generalize zB.cps.toList = B at hB lB
  cases F with
  | nil => exact ⟨c, B, rfl, hm, hB, by omega⟩
  | cons x r =>
    simp only [List.length_cons] at lF
    refine ⟨x, r ++ c :: B, rfl, hF x (List.mem_cons_self ..), fun y hy => ?_, by simp; omega⟩
    rcases List.mem_append.mp hy with h | h
    · exact LE_AL (hF y (List.mem_cons_of_mem _ h))
    · rcases List.mem_cons.mp h with rfl | h
      · exact LE_AL hm
      · exact hB y h
theorem step_inj {a b i j : Nat} (hb : b = 1 ∨ b = 3 ∨ b = 5 ∨ b = 7 ∨ b = 9 ∨ b = 11) (hi : i < 26) (hj : j < 26) (h : (a + b * i) % 26 = (a + b * j) % 26) : i = j := by
  rcases hb with rfl | rfl | rfl | rfl | rfl | rfl <;> omega
theorem wordAt_inj {zF zB : Str} {a b i j : Nat} (hb : b = 1 ∨ b = 3 ∨ b = 5 ∨ b = 7 ∨ b = 9 ∨ b = 11) (hi : i < 26) (hj : j < 26) (h : wordAt zF zB a b i = wordAt zF zB a b j) : i = j := by
  have e := congrArg (fun z : Str => z.cps.toList) h
  simp only [tl_wordAt] at e
  have e2 := List.append_cancel_left e
  injection e2 with e3 _
  rw [LE_getD (Nat.mod_lt _ (by decide)), LE_getD (Nat.mod_lt _ (by decide))] at e3
  exact step_inj (a := a) hb hi hj (by omega)
theorem words_nodup {zF zB : Str} {a b : Nat} (hb : b = 1 ∨ b = 3 ∨ b = 5 ∨ b = 7 ∨ b = 9 ∨ b = 11) : ∀ m, m ≤ 26 → ((List.range m).map (wordAt zF zB a b)).Nodup := fun m hm => by
  rw [List.nodup_iff_pairwise_ne, List.pairwise_map]
  refine List.Pairwise.imp_of_mem ?_ (List.nodup_iff_pairwise_ne.mp List.nodup_range)
  intro i j hi hj hne h
  exact hne (wordAt_inj hb (Nat.lt_of_lt_of_le (List.mem_range.mp hi) hm) (Nat.lt_of_lt_of_le (List.mem_range.mp hj) hm) h)
theorem one_len (c : Nat) : (one c).length = 1 := rfl
theorem len_tl (z : Str) : z.length = z.cps.toList.length := by simp [Str.length]
/-- words: many new words, no two equal -/
def spWords (K : PySem.W.Frag) : Sp := fun vs H Q _ => ∃ (d c : Addr) (n m : Nat), vs = [.ref d, .int (m : Int)] ∧ PenAt H d c n ∧ n ≤ 900000 ∧ m ≤ 26 ∧
  ∀ (p : Addr) (ws : List Str) (H' : Hp), H p = none → H' p = some (.lst (ws.map V.str)) → ws.length = m → ws.Nodup → (∀ z ∈ ws, Wd z) → (∃ k, ∀ z ∈ ws, z.cps.toList.length = k) → PenAt H' d c (n + 20) → Kept d H H' → Q (.ref p) H'
section
variable {P : Program} {w : World} {K : PySem.W.Frag} {mg : Str → Option Value} {base : Heap}
abbrev nWords : List Str := ["_law_pen_here", "_law_many", "_law_letters", "_law_front", "_law_back", "_law_first", "_law_step", "_law_k"]
theorem scWords : FnScope nWords ["_law_pen_here", "_law_many"] (defScope sWords) := ⟨rfl, rfl, rfl, by decide +kernel, rfl, by decide +kernel, by decide +kernel⟩
theorem ok_words {f fD fP : Addr} {fd fdD fdP : FuncData} (D : Df K mg "_law_words" sWords pDraw f fd) (DD : Df K mg "_law_draw" sDraw pDraw fD fdD) (DP : Df K mg "_law_pick" sPick pPick fP fdP) (T : Bt mg) : FnOk P w K mg base CX0 3 f fd pDraw (spWords K) := by
  have GD : FnOk P w K mg base CX0 1 fD fdD pDraw spDraw := ok_draw DD.F T
  have GS : FnOk P w K mg base CX0 2 fP fdP pPick spPickS := ok_pickS DP DD T
  refine D.F.ok scWords (fun vs H Q E h => ?_) (fun cdv A outer s H vs Q E hr h => ?_)
  · obtain ⟨d, c, n, m, rfl, _⟩ := h
    rfl
  · obtain ⟨d, q, n, m, rfl, hp, hn, hm, k⟩ := h
    have hr1 : Room 1 _ := hr.mono (by decide)
    refine ⟨_, pss_cons (ps_set (i := 2) scWords.nd rfl (Or.inr rfl) pe_str)
      (pss_cons (ps_set (i := 3) scWords.nd rfl (Or.inr rfl) (pe_join pe_str (pe_lc (own := [("_law_k", 7)]) (g := gName 7) (by rfl) scWords.nd
        (pi_range1 rfl T.range (pa_cons (pe_call GD hr1 rfl DD.g DD.F.kp DD.b .nil pass0 (pa_cons (pv 0) (pa_cons pe_int pa_nil))) pa_nil))
        (blkOk_by (own := [("_law_k", 7)]) (N := nWords) (sc := defScope sWords) (by decide +kernel)) (fun _ _ _ _ _ => pg_name (i := 7) scWords.nd rfl (Or.inl rfl)) (fun _ _ _ _ _ => pts_nil)
        (fun _ _ _ _ _ => pe_call GS hr rfl DP.g DP.F.kp DP.b .nil pass0 (pa_cons (pv 0) (pa_cons (pv 2) pa_nil))))))
      (pss_cons (ps_set (i := 4) scWords.nd rfl (Or.inr rfl) (pe_join pe_str (pe_lc (own := [("_law_k", 7)]) (g := gName 7) (by rfl) scWords.nd
        (pi_range1 rfl T.range (pa_cons (pe_call GD hr1 rfl DD.g DD.F.kp DD.b .nil pass0 (pa_cons (pv 0) (pa_cons pe_int pa_nil))) pa_nil))
        (blkOk_by (own := [("_law_k", 7)]) (N := nWords) (sc := defScope sWords) (by decide +kernel)) (fun _ _ _ _ _ => pg_name (i := 7) scWords.nd rfl (Or.inl rfl)) (fun _ _ _ _ _ => pts_nil)
        (fun _ _ _ _ _ => pe_call GS hr rfl DP.g DP.F.kp DP.b .nil pass0 (pa_cons (pv 0) (pa_cons (pe_op op_add_str (pv 2) pe_str) pa_nil))))))
      (pss_cons (ps_asg (pe_tup (pa_cons (pe_call GD hr1 rfl DD.g DD.F.kp DD.b .nil pass0 (pa_cons (pv 0) (pa_cons pe_int pa_nil)))
          (pa_cons (pe_ix ix_list (pe_lst (pa_cons pe_int (pa_cons pe_int (pa_cons pe_int (pa_cons pe_int (pa_cons pe_int (pa_cons pe_int pa_nil))))))) (pe_call GD hr1 rfl DD.g DD.F.kp DD.b .nil pass0 (pa_cons (pv 0) (pa_cons pe_int pa_nil))) (fun _ _ => rfl)) pa_nil)))
          (pg_tup (by rfl) (pgs_cons (pg_name (i := 5) scWords.nd rfl (Or.inr rfl)) (pgs_cons (pg_name (i := 6) scWords.nd rfl (Or.inr rfl)) pgs_nil))))
      (pss_one (ps_ret (pe_lc (own := [("_law_k", 7)]) (g := gName 7) (by rfl) scWords.nd
        (pi_range1 rfl T.range (pa_cons (pv 1) pa_nil))
        (blkOk_by (own := [("_law_k", 7)]) (N := nWords) (sc := defScope sWords) (by decide +kernel)) (fun _ _ _ _ _ => pg_name (i := 7) scWords.nd rfl (Or.inl rfl)) (fun _ _ _ _ _ => pts_nil)
        (fun _ _ _ _ _ => pe_op op_add_str (pe_op op_add_str (pv 3) (pe_ix ix_str (pv 2) (pe_op op_modN (pe_callTy call_int1 (by rfl) T.int (by decide +kernel) (pa_cons (pe_op op_add (pv 5) (pe_op op_mul (pv 6) (pv 7))) pa_nil)) pe_int) (fun _ _ => rfl))) (pv 4)))))))), ?_⟩
    -- front
    refine ⟨⟨_, rfl⟩, _, rfl, d, q, n, 4, rfl, hp, by omega, by decide, by decide, fun r H1 r0 r1 hp1 kp1 => ⟨r, rfl, by omega, by omega, fun D1 hD1 => ?_⟩⟩
    obtain ⟨j, rfl⟩ : ∃ j : Nat, r = (j : Int) := ⟨r.toNat, by omega⟩
    rw [Int.toNat_natCast]
    have zD1 : H D1 = none := kp1.free hp1 hD1
    obtain ⟨nDd, nDq⟩ := hp.ne zD1
    refine lc_range (lo := 0) (n := j) (fun i H' => ∃ cs : List Nat, cs.length = i ∧ (∀ c ∈ cs, c ∈ LE) ∧ H' D1 = some (.lst ((cs.map one).map V.str)) ∧ PenAt H' d q (n + 1 + i) ∧ Kept d H H') ?_ ?_ ?_
    · exact ⟨[], rfl, by simp, upd_same, hp1.upd nDd nDq, kp1.upd zD1⟩
    · rintro i H2 hi ⟨cs, hcs, hc, hD, hp2, kp2⟩
      refine ⟨rfl, _, rfl, _, rfl, d, q, _, zLE, rfl, hp2, by omega, by decide +kernel, by decide +kernel, fun c H3 hcm hp3 kp3 => ?_⟩
      have hD3 := kp3 _ _ hD nDd
      refine ⟨_, hD3, ?_, cs ++ [c], by simp [hcs], ?_, ?_, ?_, ?_⟩
      · simp; exact small1000 (by omega)
      · intro x hx
        rcases List.mem_append.mp hx with h | h
        · exact hc x h
        · rw [List.mem_singleton.mp h]; exact hcm
      · rw [upd_same]; simp [one]
      · exact (hp3.upd nDd nDq).mono (by omega)
      · exact (kp2.trans kp3).upd zD1
    · rintro H2 ⟨F, hF, hFm, hD, hp2, kp2⟩
      clear hp1 kp1 hD1
      refine ⟨_, D1, F.map one, rfl, rfl, .inl (SqL.of hD), ?_, ?_⟩
      · rw [sum_ones, List.length_map]
        show F.length + F.length * 0 ≤ 16777216
        omega
      have eF := join_ones F
      generalize Txt.join ("" : Str) (F.map one) = zF at eF ⊢
      -- back
      refine ⟨⟨_, rfl⟩, _, rfl, d, q, _, 4, rfl, hp2, by omega, by decide, by decide, fun r H3 s0 s1 hp3 kp3 => ⟨r, rfl, by omega, by omega, fun D2 hD2 => ?_⟩⟩
      obtain ⟨j', rfl⟩ : ∃ j' : Nat, r = (j' : Int) := ⟨r.toNat, by omega⟩
      rw [Int.toNat_natCast]
      have zD2 : H D2 = none := (kp2.trans kp3).free hp3 hD2
      obtain ⟨mDd, mDq⟩ := hp.ne zD2
      refine lc_range (lo := 0) (n := j') (fun i H' => ∃ cs : List Nat, cs.length = i ∧ (∀ c ∈ cs, c ∈ AL) ∧ H' D2 = some (.lst ((cs.map one).map V.str)) ∧ PenAt H' d q (n + 5 + i) ∧ Kept d H H') ?_ ?_ ?_
      · exact ⟨[], rfl, by simp, upd_same, (hp3.upd mDd mDq).mono (by omega), (kp2.trans kp3).upd zD2⟩
      · rintro i H4 hi ⟨cs, hcs, hc, hD', hp4, kp4⟩
        refine ⟨rfl, _, rfl, _, rfl, _, _, rfl, rfl, by decide +kernel, d, q, _, zLE ++ zDG, rfl, hp4, by omega, by decide +kernel, by decide +kernel, fun c H5 hcm hp5 kp5 => ?_⟩
        have hD5 := kp5 _ _ hD' mDd
        refine ⟨_, hD5, ?_, cs ++ [c], by simp [hcs], ?_, ?_, ?_, ?_⟩
        · simp; exact small1000 (by omega)
        · intro x hx
          rcases List.mem_append.mp hx with h | h
          · exact hc x h
          · rw [List.mem_singleton.mp h, AL_eq]; exact hcm
        · rw [upd_same]; simp [one]
        · exact (hp5.upd mDd mDq).mono (by omega)
        · exact (kp4.trans kp5).upd zD2
      · rintro H4 ⟨B, hB, hBm, hD', hp4, kp4⟩
        clear hp3 kp3 hD2
        refine ⟨_, D2, B.map one, rfl, rfl, .inl (SqL.of hD'), ?_, ?_⟩
        · rw [sum_ones, List.length_map]
          show B.length + B.length * 0 ≤ 16777216
          omega
        have eB := join_ones B
        generalize Txt.join ("" : Str) (B.map one) = zB at eB ⊢
        -- first, step
        refine ⟨_, rfl, d, q, _, 26, rfl, hp4, by omega, by decide, by decide, fun a H5 a0 a1 hp5 kp5 => ?_⟩
        refine ⟨by decide, fun l hl => ?_⟩
        have zl : H l = none := (kp4.trans kp5).free hp5 hl
        obtain ⟨nld, nlq⟩ := hp.ne zl
        refine ⟨_, rfl, d, q, _, 6, rfl, hp5.upd nld nlq, by omega, by decide, by decide, fun b H6 b0 b1 hp6 kp6 => ?_⟩
        obtain ⟨a, rfl⟩ : ∃ j : Nat, a = (j : Int) := ⟨a.toNat, by omega⟩
        obtain ⟨b, rfl⟩ : ∃ j : Nat, b = (j : Int) := ⟨b.toNat, by omega⟩
        have hl6 := kp6 l _ upd_same nld
        obtain ⟨st, hst, hst2⟩ : ∃ st : Nat, ([V.int 1, V.int 3, V.int 5, V.int 7, V.int 9, V.int 11] : List V)[b]? = some (.int (st : Int)) ∧ (st = 1 ∨ st = 3 ∨ st = 5 ∨ st = 7 ∨ st = 9 ∨ st = 11) := by
          have : b < 6 := by omega
          rcases b with _ | _ | _ | _ | _ | _ | b
          · exact ⟨1, rfl, by simp⟩
          · exact ⟨3, rfl, by simp⟩
          · exact ⟨5, rfl, by simp⟩
          · exact ⟨7, rfl, by simp⟩
          · exact ⟨9, rfl, by simp⟩
          · exact ⟨11, rfl, by simp⟩
          · omega
        refine ⟨l, _, _, _, rfl, rfl, SqL.of hl6, atI_nat hst, ?_⟩
        refine ⟨by show 2 ≤ sizeLine; decide, fun t ht => ?_⟩
        refine ⟨t, _, rfl, SqT.of upd_same, rfl, ?_⟩
        have hp7 : PenAt (upd H6 t (.tup [V.int (a : Int), V.int (st : Int)])) d q (n + 20) := (hp6.same (same_upd ht)).mono (by omega)
        have kp7 : Kept d H (upd H6 t (.tup [V.int (a : Int), V.int (st : Int)])) := (((kp4.trans kp5).upd zl).trans kp6).trans (.same (same_upd ht))
        generalize upd H6 t (.tup [V.int (a : Int), V.int (st : Int)]) = H7 at hp7 kp7 ⊢
        refine ⟨_, _, rfl, _, _, rfl, rfl, ?_⟩
        -- the words
        refine ⟨_, rfl, (m : Int), rfl, by omega, by omega, fun D3 hD3 => ?_⟩
        rw [Int.toNat_natCast]
        have zD3 : H D3 = none := kp7.free hp7 hD3
        obtain ⟨oDd, oDq⟩ := hp.ne zD3
        have lzF : zF.length ≤ 3 := by rw [len_tl, eF, hF]; omega
        have lzB : zB.length ≤ 3 := by rw [len_tl, eB, hB]; omega
        refine lc_range (lo := 0) (n := m) (fun i H' => H' D3 = some (.lst (((List.range i).map (wordAt zF zB a st)).map V.str)) ∧ PenAt H' d q (n + 20) ∧ Kept d H H') ?_ ?_ ?_
        · exact ⟨upd_same, hp7.upd oDd oDq, kp7.upd zD3⟩
        · rintro i H8 hi ⟨hD8, hp8, kp8⟩
          have hi26 : i < 26 := by omega
          refine ⟨rfl, _, rfl, _, rfl, _, rfl, _, rfl, _, rfl, _, _, rfl, rfl, .inl ⟨by omega, by omega⟩, _, _, rfl, rfl, .inl ⟨_, rfl, ?_⟩⟩
          refine ⟨_, _, rfl, rfl, by show (26 : Int) ≠ 0; decide, ?_⟩
          have ei : ((a : Int) + (st : Int) * (0 + (i : Int))).fmod 26 = (((a + st * i) % 26 : Nat) : Int) := by
            rw [Int.fmod_eq_emod_of_nonneg _ (by decide)]
            simp
          have hlt : (a + st * i) % 26 < 26 := Nat.mod_lt _ (by decide)
          refine ⟨zLE, _, LE.getD ((a + st * i) % 26) 0, rfl, rfl, by decide +kernel, ?_, _, _, rfl, rfl, ?_, _, rfl, _, _, rfl, rfl, ?_, _, hD8, ?_, ?_, ?_, ?_⟩
          · show atI LE (((a : Int) + (st : Int) * (0 + (i : Int))).fmod 26) = _
            rw [ei]
            refine atI_nat ?_
            show LE[(a + st * i) % 26]? = _
            have : (a + st * i) % 26 < LE.length := by rw [LE_len]; exact hlt
            rw [List.getD_eq_getElem?_getD, List.getElem?_eq_getElem this]
            rfl
          · show zF.length + 1 ≤ sizeLine
            exact Nat.le_trans (by omega : zF.length + 1 ≤ 100) (by decide)
          · have e1 : (zF ++ (⟨#[LE.getD ((a + st * i) % 26) 0]⟩ : Str)).length = zF.length + 1 := by
              rw [len_tl, len_tl]
              have := TL.tl_append zF (⟨#[LE.getD ((a + st * i) % 26) 0]⟩ : Str)
              unfold TL.tl at this
              rw [this]
              simp
            rw [e1]
            exact Nat.le_trans (by omega : zF.length + 1 + zB.length ≤ 100) (by decide)
          · simp; exact small1000 (by omega)
          · rw [upd_same, List.range_succ]
            simp [wordAt, one]
          · exact hp8.upd oDd oDq
          · exact kp8.upd zD3
        · rintro H8 ⟨hD8, hp8, kp8⟩
          refine k D3 _ H8 zD3 hD8 (by simp) (words_nodup hst2 m hm) (fun z hz => ?_) ⟨zF.cps.toList.length + 1 + zB.cps.toList.length, fun z hz => by
            obtain ⟨i, _, rfl⟩ := List.mem_map.mp hz
            rw [tl_wordAt]; simp; omega⟩ hp8 kp8
          obtain ⟨i, _, rfl⟩ := List.mem_map.mp hz
          refine wordAt_wd (fun c hc => hFm c (eF ▸ hc)) (by rw [eF, hF]; omega) (fun c hc => hBm c (eB ▸ hc)) (by rw [eB, hB]; omega)
end
end K1
set_option Elab.async false
set_option linter.all false
set_option maxRecDepth 100000
/-! tuples whose object is known to have no dict: their methods can be called -/
namespace L2
open PySem PySem.Spec PyProof.Rows
def SqF (H : Hp) (a : Addr) (xs : List V) : Prop := ∃ o, H a = some (.frz o (.tup xs)) ∧ o.dict = none
theorem SqF.sq {K : PySem.W.Frag} {H : Hp} {a : Addr} {xs : List V} (h : SqF H a xs) : SqT K H a xs := by
  obtain ⟨o, h, _⟩ := h
  exact .inl (.inr ⟨o, h⟩)
section
variable {X : Cx}
/-- tuple(xs): a new tuple, known to be one that was made -/
def rTuF (K : PySem.W.Frag) : List V → Hp → VK → Prop := fun xs H Q => ∃ p ys, xs = [.ref p] ∧ ((SqL K H p ys ∧ ∀ l o, H l = none → o.dict = none → Q (.ref l) (upd H l (.frz o (.tup ys)))) ∨ (SqT K H p ys ∧ Q (.ref p) H))
theorem call_tuple_F : CallR X (.type "tuple") (rTuF X.K) := by
  intro pins s σ H xs us Q I r h
  obtain ⟨p, ys, rfl, h⟩ := h
  obtain ⟨u, rfl, rx⟩ := vals1 r
  cases rx
  rcases h with ⟨hq, q⟩ | ⟨hq, q⟩
  · obtain ⟨its, r', pl, hz⟩ := I.list hq
    have hlen := r'.length
    refine call_tuple_list pl.isList (fun h' kp => ?_) (by simp only [List.size_toArray] <;> omega)
    have I1 : Inv X pins σ H { s with heap := h' } := I.kept (t' := s.toks) kp
    have I2 : Inv X pins σ (upd H h'.objs.size (.frz { cls := .type "tuple", data := .seq its.toArray } (.tup ys))) { s with heap := h'.push { cls := .type "tuple", data := .seq its.toArray } } :=
      I1.laid (t' := s.toks) (fun b o e => Heap.get?_push_of_some _ e) (Nat.le_refl _) (show ObjOk X.prog X.w _ _ _ (.frz _ (.tup ys)) from ⟨Heap.get?_push_size _ rfl, hz, its, r', IsTup.new _ _⟩)
    exact ⟨.ref h'.objs.size, _, I2, rfl, q _ _ (I1.hok.fresh (Nat.le_refl _)) rfl⟩
  · obtain ⟨its, r', pl, hz⟩ := I.tuple hq
    exact call_tuple_same pl ⟨.ref p, H, I, rfl, q⟩
def tBMF (r : V → List V → Hp → VK → Prop) (to : TE) (t : TA) : TE := fun σ H Q => to σ H fun x H1 => (∃ p xs, x = .ref p ∧ SqF H1 p xs) ∧ t σ H1 fun xs H2 => r x xs H2 Q
theorem pe_bmF {o e : Expr} {es : List Expr} {to : TE} {t : TA} {name : Str} {apos cpos : Pos} {id : String} {r : V → List V → Hp → VK → Prop}
    (slot : Slot "tuple" name id) (hty : typeOf (.builtin id) = pure (.type "method_descriptor")) (hm : MtR X id r) (ho : PE X o to) (ha : PA X (e :: es) t)
    (hbase : attributeBase o name X.env (eval o X.env) = eval o X.env := by rfl)
    (hfew : ((backTo cpos (starEach (e :: es) X.env)).all (fun x => !x.1) && (backToKw cpos (keywordEach [] X.env)).all (fun x => x.1.isSome)
      && decide ((e :: es).length + ([] : List Keyword).length + (if ([] : List Keyword).isEmpty then 0 else 1) < 30)) = true := by rfl)
    (hline : (apos.endLine == cpos.line) = true := by rfl) (hs : starEach (e :: es) X.env = (false, eval e X.env) :: starEach es X.env := by rfl) (hplain : (backTo cpos (starEach es X.env)).any (·.1) = false := by rfl) :
    PE X (.Call (.Attribute o name apos) (e :: es) [] cpos) (tBMF r to t) := by
  refine ⟨fun pins s σ H Q I h => ?_⟩
  refine wpAny_Call_method_late hbase hfew hline rfl (thn (ho.run pins s σ H _ I h) fun v s1 ⟨x, H1, I1, r1, ⟨p, ys, ex, fz⟩, q1⟩ => ?_)
  subst ex
  cases (show v = Value.ref p from r1)
  obtain ⟨ob, hF, hd⟩ := fz
  obtain ⟨hg, _, its, _, o2, ho2, hc2, _⟩ := I1.hok p _ hF
  rw [hg] at ho2
  cases ho2
  refine ⟨"tuple", id, PySem.F.plainAttrs_tuple, slot, hty, ⟨ob, hg, hc2⟩, fun a ea => by cases ea; exact ⟨ob, hg, hd⟩, ?_⟩
  have hA := ha.run cpos pins s1 σ H1 _ I1 q1
  rw [hs] at hA ⊢
  refine Calls.callWith_builtin (by show (false || (backTo cpos (starEach es X.env)).any (·.1)) = false; rw [hplain] <;> rfl) (Calls.evalArgs_plain ?_)
  exact thn hA fun us s2 ⟨vs, H2, I2, r2, q2⟩ => hm pins s2 σ H2 (.ref p) vs (.ref p) us Q I2 r1 r2 q2
end
theorem SqF.same {H H' : Hp} {a : Addr} {xs : List V} (h : SqF H a xs) (s : Same H H') : SqF H' a xs := by
  obtain ⟨o, h, e⟩ := h
  exact ⟨o, s _ _ h, e⟩
theorem SqF.upd {H : Hp} {a D : Addr} {o : HO} {xs : List V} (h : SqF H a xs) (n : a ≠ D) : SqF (upd H D o) a xs := by
  obtain ⟨o, h, e⟩ := h
  exact ⟨o, by rw [upd_ne n]; exact h, e⟩
end L2
namespace K1
open PySem L2
theorem Kept.seqF {d : Addr} {H H' : Hp} {a : Addr} {xs : List V} (k : Kept d H H') {u : HO} (hd : H d = some u) (n : ∀ o ys, u ≠ .frz o (.tup ys)) (h : SqF H a xs) : SqF H' a xs := by
  obtain ⟨o, h, e⟩ := h
  exact ⟨o, k _ _ h (fun z => by rw [z, hd] at h; cases h; exact n _ _ rfl), e⟩
end K1
set_option Elab.async false
set_option linter.all false
set_option maxRecDepth 100000
namespace K1
open PySem L2
abbrev sPlain : Stmt := top 52
def valOf : Stmt → Expr
  | .Assign _ v _ => v
  | .Return (some v) _ => v
  | _ => .Constant .none 0 ⟨0, 0, 0, 0⟩
def compScope : Expr → Scope
  | .ListComp _ _ sc _ => sc
  | _ => { kind := .function, names := [], isGenerator := false, isCoroutine := false }
def eltOf : Expr → Expr
  | .ListComp e _ _ _ => e
  | e => e
def stOf (s : Stmt) (i : Nat) : Stmt := (defBody s).getD i (.Pass ⟨0, 0, 0, 0⟩)
def spPen (K : PySem.W.Frag) : Sp := fun vs H Q _ => ∃ (a : Addr) (ns : List Int), vs = [.ref a] ∧ SqL K H a (ns.map V.int) ∧ ns.length ≤ 63 ∧
  ∀ (d c : Addr) (H' : Hp), H d = none → H c = none → PenAt H' d c 0 → Same H H' → Q (.ref d) H'
abbrev kDeeds : Key := Sum.inr "deeds"
abbrev kRows : Key := Sum.inr "rows"
abbrev kTells : Key := Sum.inr "tells"
abbrev kStart : Key := Sum.inr "start"
def plainK (t r l : Addr) (s : Int) : List (Key × V) := [(kDeeds, .ref t), (kRows, .ref r), (kTells, .ref l), (kStart, .int s)]
/-- lists of ints at the addresses as, row by row -/
def RowsAt (H : Hp) (as : List Addr) (rs : List (List Int)) : Prop := as.length = rs.length ∧ ∀ (i : Nat) (a : Addr) (r : List Int), as[i]? = some a → rs[i]? = some r → H a = some (.lst (r.map V.int))
structure PlainAt (H : Hp) (p : Addr) (ws : List Str) (rs : List (List Int)) (ss : List Str) (st : Int) : Prop where
  ex : ∃ (t r l : Addr) (as : List Addr), H p = some (.dK (plainK t r l st)) ∧ SqF H t (ws.map V.str) ∧ H r = some (.lst (as.map V.ref)) ∧ H l = some (.lst (ss.map V.str)) ∧ RowsAt H as rs
/-- a machine's parts as they must be -/
structure GoodP (ws : List Str) (rs : List (List Int)) (ss : List Str) (st : Int) (tells : List Str) : Prop where
  many : 1 ≤ rs.length ∧ rs.length ≤ 12
  row : ∀ r ∈ rs, r.length = ws.length ∧ ∀ x ∈ r, 0 ≤ x ∧ x < rs.length
  tl : ss.length = rs.length ∧ ∀ z ∈ ss, z ∈ tells
  st : 0 ≤ st ∧ st < rs.length
def spPlain (K : PySem.W.Frag) : Sp := fun vs H Q _ => ∃ (d c dl tl : Addr) (n : Nat) (m : Int) (ws ts : List Str), vs = [.ref d, .ref dl, .int m, .ref tl] ∧ PenAt H d c n ∧ n ≤ 800000 ∧ SqL K H dl (ws.map V.str) ∧ dl ≠ d ∧ ws.length ≤ 26 ∧
  SqL K H tl (ts.map V.str) ∧ tl ≠ d ∧ 0 < ts.length ∧ ts.length ≤ 10 ∧ 1 ≤ m ∧ m ≤ 12 ∧
  ∀ (p : Addr) (rs : List (List Int)) (ss : List Str) (st : Int) (H' : Hp), H p = none → PlainAt H' p ws rs ss st → (∀ G, (∀ b o, H b = none → H' b = some o → G b = some o) → PlainAt G p ws rs ss st) → GoodP ws rs ss st ts → PenAt H' d c (n + 400) → Kept d H H' → Q (.ref p) H'
theorem plainK_merge (t r l : Addr) (s : Int) : mergeK [] (plainK t r l s) = plainK t r l s := by
  have h1 : ¬ (("deeds" : Str) = "rows") := by decide +kernel
  have h2 : ¬ (("deeds" : Str) = "tells") := by decide +kernel
  have h3 : ¬ (("deeds" : Str) = "start") := by decide +kernel
  have h4 : ¬ (("rows" : Str) = "tells") := by decide +kernel
  have h5 : ¬ (("rows" : Str) = "start") := by decide +kernel
  have h6 : ¬ (("tells" : Str) = "start") := by decide +kernel
  unfold mergeK plainK putK
  simp [h1, h2, h3, h4, h5, h6]
theorem RowsAt.kept {d : Addr} {H H' : Hp} {as : List Addr} {rs : List (List Int)} (h : RowsAt H as rs) (k : Kept d H H') (nd : ∀ a ∈ as, a ≠ d) : RowsAt H' as rs :=
  ⟨h.1, fun i a r e1 e2 => k _ _ (h.2 i a r e1 e2) (nd a (List.mem_of_getElem? e1))⟩
theorem RowsAt.snoc {H : Hp} {as : List Addr} {rs : List (List Int)} {a : Addr} {r : List Int} (h : RowsAt H as rs) (e : H a = some (.lst (r.map V.int))) : RowsAt H (as ++ [a]) (rs ++ [r]) := by
  refine ⟨by simp [h.1], fun i b q e1 e2 => ?_⟩
  by_cases hi : i < as.length
  · rw [List.getElem?_append_left hi] at e1
    rw [List.getElem?_append_left (by rw [← h.1]; exact hi)] at e2
    exact h.2 i b q e1 e2
  · rw [List.getElem?_append_right (by omega)] at e1
    rw [List.getElem?_append_right (by rw [← h.1]; omega), ← h.1] at e2
    cases hj : i - as.length with
    | zero =>
      rw [hj] at e1 e2
      simp at e1 e2
      rw [← e1, ← e2]; exact e
    | succ j => rw [hj] at e1; simp at e1
section
variable {P : Program} {w : World} {K : PySem.W.Frag} {mg : Str → Option Value} {base : Heap}
theorem scPen : FnScope ["_law_script"] ["_law_script"] (defScope sPen) := ⟨rfl, rfl, rfl, by decide +kernel, rfl, by decide +kernel, by decide +kernel⟩
theorem cut63 {xs : List V} (h : xs.length ≤ 63) : cutV xs none (some 63) = xs := by
  have e : HT.sIx xs.length xs.length (some 63) = min 63 xs.length := HT.sIx_nat xs.length xs.length 63
  unfold cutV
  rw [HT.sIx_none, e, Nat.min_eq_right h]
  simp
theorem ok_pen {f : Addr} {fd : FuncData} (D : Df K mg "_law_pen" sPen ["_law_script"] f fd) (T : Bt mg) : FnOk P w K mg base CX0 1 f fd ["_law_script"] (spPen K) := by
  refine D.F.ok scPen (fun vs H Q E h => ?_) (fun cdv A outer s H vs Q E hr h => ?_)
  · obtain ⟨a, ns, rfl, _⟩ := h
    rfl
  · obtain ⟨a, ns, rfl, ha, hl, k⟩ := h
    refine ⟨_, pss_one (ps_ret (pe_disp (pps_cons pe_str (pe_callTy call_list_of (by rfl) T.list (by decide +kernel) (pa_cons (pe_slice sl_list (pv 0) po_none (po_some pe_int)) pa_nil))
      (pps_cons pe_str pe_int (pps_cons pe_str pe_int pps_nil))) (by rfl) (by rfl) (fun z => by cases z) (by decide))), ?_⟩
    intro p hp
    have ha1 := (same_upd (o := .dK []) hp).seq ha
    refine ⟨_, rfl, 63, rfl, a, _, rfl, ha1, fun q hq => ?_⟩
    rw [cut63 (by simpa using hl)]
    refine ⟨q, _, rfl, .inl (SqL.of upd_same), fun c hc => ?_⟩
    have npq : p ≠ q := by intro z; rw [z, upd_same] at hq; cases hq
    have nqp := npq.symm
    have zq : H q = none := by rw [upd_ne nqp] at hq; exact hq
    have npc : p ≠ c := by
      intro z; rw [z] at npq; rw [← z, upd_ne (by rw [z]; exact npq), upd_same] at hc; cases hc
    have nqc : q ≠ c := by intro z; rw [← z, upd_same] at hc; cases hc
    have zc : H c = none := by rw [upd_ne nqc.symm, upd_ne npc.symm] at hc; exact hc
    refine ⟨by rw [upd_ne npc, upd_ne npq, upd_same], penK c 0 0, rfl, by show 3 ≤ 15; decide, ?_⟩
    have em : mergeK [] (penK c 0 0) = penK c 0 0 := by
      have h1 : ¬ (("cells" : Str) = "at") := by decide +kernel
      have h2 : ¬ (("cells" : Str) = "left") := by decide +kernel
      have h3 : ¬ (("at" : Str) = "left") := by decide +kernel
      unfold mergeK penK putK
      simp [h1, h2, h3]
    rw [em]
    refine k p c _ hp zc ⟨ns, 0, 0, upd_same, ?_, hl, by decide, by decide⟩ ?_
    · rw [upd_ne npc.symm, upd_same]
    · intro b o e
      rw [upd_ne (ne_of_none e hp), upd_ne (ne_of_none e zc), upd_ne (ne_of_none e zq), upd_ne (ne_of_none e hp)]
      exact e
abbrev nPlain : List Str := ["_law_pen_here", "_law_deeds", "_law_most", "_law_tells", "_law_many", "_law_rows", "_law_told", "_law_spot", "_law_deed"]
abbrev pPlain : List Str := ["_law_pen_here", "_law_deeds", "_law_most", "_law_tells"]
theorem scPlain : FnScope nPlain pPlain (defScope sPlain) := ⟨rfl, rfl, rfl, by decide +kernel, rfl, by decide +kernel, by decide +kernel⟩
abbrev scO : Scope := compScope (valOf (stOf sPlain 1))
theorem ok_plain {f fD fP : Addr} {fd fdD fdP : FuncData} (D : Df K mg "_law_plain" sPlain pPlain f fd) (DD : Df K mg "_law_draw" sDraw pDraw fD fdD) (DP : Df K mg "_law_pick" sPick pPick fP fdP) (T : Bt mg) : FnOk P w K mg base CX0 3 f fd pPlain (spPlain K) := by
  have GD : FnOk P w K mg base CX0 1 fD fdD pDraw spDraw := ok_draw DD.F T
  have GL : FnOk P w K mg base CX0 2 fP fdP pPick (spPickL K) := ok_pickL DP DD T
  refine D.F.ok scPlain (fun vs H Q E h => ?_) (fun cdv A outer s H vs Q E hr h => ?_)
  · obtain ⟨d, c, dl, tl, n, m, ws, ts, rfl, _⟩ := h
    rfl
  · obtain ⟨d, c, dl, tl, n, m, ws, ts, rfl, hp, hn, hdl, ndl, hws, htl, ntl, ht0, ht1, hm0, hm1, k⟩ := h
    have hr1 : Room 1 _ := hr.mono (by decide)
    have hin : ∀ (s' : Shared) (H' : Hp) (C' : Addr) (cl' : List (Str × Addr)) (fp' : List Addr), PE (Cx.blk (cxOf CX0 P w K mg base nPlain "_law_plain" (defScope sPlain) f cdv A outer s H E).nox s' H' scO (compEnvC scO cl' C' (cxOf CX0 P w K mg base nPlain "_law_plain" (defScope sPlain) f cdv A outer s H E).nox.env) fp')
        (eltOf (valOf (stOf sPlain 1))) (tLc (iList K (tVar 1)) (gName 8) tYes (tCall spDraw [] E0 (tCons (tVar 0) (tCons (tVar 4) tNil))) [8]) := fun s' H' C' cl' fp' =>
      pe_lc (own := [("_law_deed", 8)]) (g := gName 8) (by rfl) scPlain.nd (pi_list (pv 1))
          (blkOk_by (own := [("_law_deed", 8)]) (N := nPlain) (sc := relS scO (defScope sPlain)) (by decide +kernel)) (fun _ _ _ _ _ => pg_name (i := 8) scPlain.nd rfl (Or.inl rfl)) (fun _ _ _ _ _ => pts_nil)
          (fun _ _ _ _ _ => pe_call GD hr1 rfl DD.g DD.F.kp DD.b .nil pass0 (pa_cons (pv 0) (pa_cons (pv 4) pa_nil)))
    refine ⟨_, pss_cons (ps_set (i := 4) scPlain.nd rfl (Or.inr rfl) (pe_op op_add pe_int (pe_call GD hr1 rfl DD.g DD.F.kp DD.b .nil pass0 (pa_cons (pv 0) (pa_cons (pv 2) pa_nil)))))
      (pss_cons (ps_setLc (i := 5) (own := [("_law_spot", 7)]) (g := gName 7) (by rfl) scPlain.nd rfl rfl (sw_true rfl rfl rfl (by decide +kernel))
        (pi_range1 rfl T.range (pa_cons (pv 4) pa_nil))
        (blkOk_by (own := [("_law_spot", 7)]) (N := nPlain) (sc := defScope sPlain) (by decide +kernel)) (fun _ _ _ _ _ => pg_name (i := 7) scPlain.nd rfl (Or.inl rfl)) (fun _ _ _ _ _ => pts_nil)
        hin)
      (pss_cons (ps_setLc (i := 6) (own := [("_law_spot", 7)]) (g := gName 7) (by rfl) scPlain.nd rfl rfl (sw_true rfl rfl rfl (by decide +kernel))
        (pi_range1 rfl T.range (pa_cons (pv 4) pa_nil))
        (blkOk_by (own := [("_law_spot", 7)]) (N := nPlain) (sc := defScope sPlain) (by decide +kernel)) (fun _ _ _ _ _ => pg_name (i := 7) scPlain.nd rfl (Or.inl rfl)) (fun _ _ _ _ _ => pts_nil)
        (fun _ _ _ _ _ => pe_call GL hr rfl DP.g DP.F.kp DP.b .nil pass0 (pa_cons (pv 0) (pa_cons (pv 3) pa_nil))))
      (pss_one (ps_ret (pe_disp (pps_cons pe_str (pe_callTy (r := rTuF K) call_tuple_F (by rfl) T.tuple (by decide +kernel) (pa_cons (pv 1) pa_nil))
        (pps_cons pe_str (pv 5) (pps_cons pe_str (pv 6) (pps_cons pe_str (pe_call GD hr1 rfl DD.g DD.F.kp DD.b .nil pass0 (pa_cons (pv 0) (pa_cons (pv 4) pa_nil))) pps_nil)))) (by rfl) (by rfl) (fun z => by cases z) (by decide)))))), ?_⟩
    refine ⟨_, rfl, _, rfl, d, c, n, m, rfl, hp, by omega, by omega, by omega, fun r H1 r0 r1 hp1 kp1 => ⟨_, _, rfl, rfl, ?_⟩⟩
    obtain ⟨M, eM⟩ : ∃ M : Nat, 1 + r = (M : Int) := ⟨(1 + r).toNat, by omega⟩
    show _
    have hM : 1 ≤ M ∧ M ≤ 12 := by omega
    simp only [eM]
    refine ⟨_, rfl, (M : Int), rfl, by omega, by omega, fun D1 hD1 => ?_⟩
    rw [Int.toNat_natCast]
    have zD1 : H D1 = none := kp1.free hp1 hD1
    obtain ⟨n1d, n1c⟩ := hp.ne zD1
    refine lc_range (lo := 0) (n := M) (fun i H' => ∃ (as : List Addr) (rs : List (List Int)), rs.length = i ∧ H' D1 = some (.lst (as.map V.ref)) ∧ RowsAt H' as rs ∧ (∀ r ∈ rs, r.length = ws.length ∧ ∀ x ∈ r, 0 ≤ x ∧ x < (M : Int)) ∧
      (∀ a ∈ as, H a = none ∧ a ≠ D1) ∧ PenAt H' d c (n + 1 + 27 * i) ∧ Kept d H H') ?_ ?_ ?_
    · exact ⟨[], [], rfl, upd_same, ⟨rfl, fun i a r e => by simp at e⟩, by simp, by simp, hp1.upd n1d n1c, kp1.upd zD1⟩
    · rintro i H2 hi ⟨as, rs, hrs, hD, hR, hrow, has, hp2, kp2⟩
      refine ⟨rfl, _, rfl, dl, rfl, ⟨_, kp2.seq ndl hdl⟩, fun D2 hD2 => ?_⟩
      have zD2 : H D2 = none := kp2.free hp2 hD2
      obtain ⟨n2d, n2c⟩ := hp.ne zD2
      have n12 : D1 ≠ D2 := ne_of_none hD hD2
      refine lc_list (K := K) (a := dl) (xs := ws.map V.str) (fun j H' => ∃ r : List Int, r.length = j ∧ (∀ x ∈ r, 0 ≤ x ∧ x < (M : Int)) ∧ H' D2 = some (.lst (r.map V.int)) ∧ PenAt H' d c (n + 1 + 27 * i + j) ∧ Kept d H2 H' ∧ Kept d H H') ?_ ?_ ?_ ?_
      · exact ⟨[], rfl, by simp, upd_same, hp2.upd n2d n2c, (Kept.refl d H2).upd hD2, kp2.upd zD2⟩
      · rintro j H3 hj ⟨r, _, _, _, _, _, kp3⟩
        exact kp3.seq ndl hdl
      · rintro j x H3 hj ⟨r, hrj, hrb, hD3, hp3, kp3, kq3⟩
        have hj2 : j < ws.length := by
          have := (List.getElem?_eq_some_iff.mp hj).1
          rwa [List.length_map] at this
        refine ⟨rfl, _, rfl, _, rfl, d, c, _, (M : Int), rfl, hp3, by omega, by omega, by omega, fun y H4 y0 y1 hp4 kp4 => ?_⟩
        refine ⟨_, kp4 _ _ hD3 n2d, ?_, r ++ [y], by simp [hrj], ?_, ?_, ?_, ?_, ?_⟩
        · rw [List.length_map]; exact small1000 (by omega)
        · intro z hz
          rcases List.mem_append.mp hz with h | h
          · exact hrb z h
          · rw [List.mem_singleton.mp h]; exact ⟨y0, y1⟩
        · rw [upd_same]; simp
        · exact hp4.upd n2d n2c
        · exact (kp3.trans kp4).upd hD2
        · exact (kq3.trans kp4).upd zD2
      · rintro H3 ⟨r, hrj, hrb, hD3, hp3, kp3, kq3⟩
        rw [List.length_map] at hrj hp3
        have hDD := kp3 _ _ hD n1d
        have hR3 := hR.kept kp3 (fun a ha => (hp.ne (has a ha).1).1)
        refine ⟨_, hDD, ?_, as ++ [D2], rs ++ [r], by simp [hrs], ?_, ?_, ?_, ?_, ?_, ?_⟩
        · rw [List.length_map, hR.1]; exact small1000 (by omega)
        · rw [upd_same]; simp
        · have hq : RowsAt H3 (as ++ [D2]) (rs ++ [r]) := hR3.snoc hD3
          refine ⟨hq.1, fun i a q e1 e2 => ?_⟩
          have hm := List.mem_of_getElem? e1
          have : a ≠ D1 := by
            rcases List.mem_append.mp hm with h | h
            · exact (has a h).2
            · rw [List.mem_singleton.mp h]; exact n12.symm
          rw [upd_ne this]
          exact hq.2 i a q e1 e2
        · intro q hq
          rcases List.mem_append.mp hq with h | h
          · exact hrow q h
          · rw [List.mem_singleton.mp h]; exact ⟨hrj, hrb⟩
        · intro a ha
          rcases List.mem_append.mp ha with h | h
          · exact has a h
          · rw [List.mem_singleton.mp h]; exact ⟨zD2, n12.symm⟩
        · exact (hp3.upd n1d n1c).mono (by omega)
        · exact kq3.upd zD1
    · rintro H5 ⟨as, rs, hrs, hD5, hR5, hrow, has, hp5, kp5⟩
      -- told
      refine ⟨_, rfl, (M : Int), rfl, by omega, by omega, fun D3 hD3 => ?_⟩
      rw [Int.toNat_natCast]
      have zD3 : H D3 = none := kp5.free hp5 hD3
      obtain ⟨n3d, n3c⟩ := hp.ne zD3
      refine lc_range (lo := 0) (n := M) (fun i H' => ∃ ss : List Str, ss.length = i ∧ (∀ z ∈ ss, z ∈ ts) ∧ H' D3 = some (.lst (ss.map V.str)) ∧ PenAt H' d c (n + 340 + i) ∧ Kept d H5 H' ∧ Kept d H H') ?_ ?_ ?_
      · exact ⟨[], rfl, by simp, upd_same, (hp5.upd n3d n3c).mono (by omega), (Kept.refl d H5).upd hD3, kp5.upd zD3⟩
      · rintro i H6 hi ⟨ss, hss, hst, hD6, hp6, kp6, kq6⟩
        refine ⟨rfl, _, rfl, _, rfl, d, c, tl, _, ts.map V.str, rfl, hp6, by omega, ntl, kq6.seq ntl htl, by rw [List.length_map]; exact ht0, by rw [List.length_map]; omega, fun x H7 hx hp7 kp7 => ?_⟩
        obtain ⟨z, hz, rfl⟩ := List.mem_map.mp hx
        refine ⟨_, kp7 _ _ hD6 n3d, ?_, ss ++ [z], by simp [hss], ?_, ?_, ?_, ?_, ?_⟩
        · rw [List.length_map]; exact small1000 (by omega)
        · intro y hy
          rcases List.mem_append.mp hy with h | h
          · exact hst y h
          · rw [List.mem_singleton.mp h]; exact hz
        · rw [upd_same]; simp
        · exact hp7.upd n3d n3c
        · exact (kp6.trans kp7).upd hD3
        · exact (kq6.trans kp7).upd zD3
      · rintro H7 ⟨ss, hss, hst, hD7, hp7, kp7, kq7⟩
        intro p hp'
        have zp : H p = none := kq7.free hp7 hp'
        have kq8 : Kept d H (upd H7 p (.dK [])) := kq7.upd zp
        obtain ⟨npd, npc⟩ := hp.ne zp
        refine ⟨_, rfl, dl, _, rfl, .inl ⟨kq8.seq ndl hdl, fun t ob ht hob => ?_⟩⟩
        have zt : H t = none := by
          refine kq8.free (hp7.upd npd npc) ht
        obtain ⟨ntd, ntc⟩ := hp.ne zt
        have npt : p ≠ t := by intro z; rw [← z, upd_same] at ht; cases ht
        refine ⟨_, rfl, _, rfl, _, rfl, _, rfl, d, c, _, (M : Int), rfl, (hp7.upd npd npc).upd ntd ntc, by omega, by omega, by omega, fun st H9 s0 s1 hp9 kp9 => ?_⟩
        have zt7 : H7 t = none := by rw [upd_ne npt.symm] at ht; exact ht
        have sm : Same H7 (upd (upd H7 p (.dK [])) t (.frz ob (.tup (ws.map V.str)))) := fun b o e => by
          rw [upd_ne (ne_of_none e zt7), upd_ne (ne_of_none e hp')]; exact e
        have k79 : Kept d H7 H9 := (Kept.same sm).trans kp9
        have hp9' : H9 p = some (.dK []) := kp9 _ _ (by rw [upd_ne npt, upd_same]) npd
        have ht9 : H9 t = some (.frz ob (.tup (ws.map V.str))) := kp9 _ _ upd_same ntd
        have hD79 := k79 _ _ hD7 n3d
        have k59 : Kept d H5 H9 := kp7.trans k79
        have hD59 := k59 _ _ hD5 n1d
        have hR9 := hR5.kept k59 (fun a ha => (hp.ne (has a ha).1).1)
        refine ⟨hp9', plainK t D1 D3 st, rfl, by show 4 ≤ 15; decide, ?_⟩
        rw [plainK_merge]
        have kq9 : Kept d H H9 := kq7.trans k79
        have n1p : D1 ≠ p := ne_of hD59 hp9' (by intro z; cases z)
        have n3p : D3 ≠ p := ne_of hD79 hp9' (by intro z; cases z)
        have gP : upd H9 p (.dK (plainK t D1 D3 st)) p = some (.dK (plainK t D1 D3 st)) := upd_same
        have gT : upd H9 p (.dK (plainK t D1 D3 st)) t = some (.frz ob (.tup (ws.map V.str))) := by rw [upd_ne npt.symm]; exact ht9
        have gR : upd H9 p (.dK (plainK t D1 D3 st)) D1 = some (.lst (as.map V.ref)) := by rw [upd_ne n1p]; exact hD59
        have gL : upd H9 p (.dK (plainK t D1 D3 st)) D3 = some (.lst (ss.map V.str)) := by rw [upd_ne n3p]; exact hD79
        have gA : RowsAt (upd H9 p (.dK (plainK t D1 D3 st))) as rs := ⟨hR9.1, fun i a q e1 e2 => by
          have := hR9.2 i a q e1 e2
          rw [upd_ne (ne_of this hp9' (by intro z; cases z))]
          exact this⟩
        refine k p rs ss st _ zp ⟨t, D1, D3, as, gP, ⟨ob, gT, hob⟩, gR, gL, gA⟩ (fun G kG => ?_) ⟨by rw [hrs]; exact hM, fun r hr => by rw [hrs]; exact hrow r hr, ⟨by rw [hss, hrs], hst⟩, by rw [hrs]; exact ⟨s0, s1⟩⟩ ((hp9.upd npd npc).mono (by omega)) (kq9.upd zp)
        exact ⟨t, D1, D3, as, kG _ _ zp gP, ⟨ob, kG _ _ zt gT, hob⟩, kG _ _ zD1 gR, kG _ _ zD3 gL, gA.1, fun i a q e1 e2 => kG _ _ (has a (List.mem_of_getElem? e1)).1 (gA.2 i a q e1 e2)⟩
end
end K1
set_option Elab.async false
set_option linter.all false
set_option maxRecDepth 100000
namespace K1
open PySem L2
abbrev sIsInt : Stmt := top 19
abbrev sIsIndex : Stmt := top 20
abbrev sIsWord : Stmt := top 21
abbrev sIsTell : Stmt := top 22
/-- the names of the built-ins, and the constants -/
structure Bt2 (mg : Str → Option Value) : Prop extends Bt mg where
  isinstance : mg "isinstance" = none
  bool : mg "bool" = none
  str : mg "str" = none
  all : mg "all" = none
  enumerate : mg "enumerate" = none
  min : mg "min" = none
  LETTERS : ∃ t, mg "LETTERS" = some (.str zLE t)
  DIGITS : ∃ t, mg "DIGITS" = some (.str zDG t)
  LONGEST_WORD : ∃ t, mg "LONGEST_WORD" = some (.int 12 t)
  LONGEST_TELL : ∃ t, mg "LONGEST_TELL" = some (.int 60 t)
  MOST_DEEDS : ∃ t, mg "MOST_DEEDS" = some (.int 6 t)
  MOST_STATES : ∃ t, mg "MOST_STATES" = some (.int 60 t)
def spIsInt : Sp := fun vs H Q _ => ∃ i : Int, vs = [.int i] ∧ Q (.bl true) H
def spIsIndex : Sp := fun vs H Q _ => ∃ i m : Int, vs = [.int i, .int m] ∧ 0 ≤ i ∧ i < m ∧ Q (.bl true) H
def spIsWord : Sp := fun vs H Q _ => ∃ z : Str, vs = [.str z] ∧ Wd z ∧ ∀ H', Same H H' → Q (.bl true) H'
abbrev zSL : Str := "/"
def TL' : List Nat := AL ++ zSL.cps.toList
def Tl (z : Str) : Prop := 1 ≤ z.cps.toList.length ∧ z.cps.toList.length ≤ 60 ∧ ∀ x ∈ z.cps.toList, x ∈ TL'
def spIsTell : Sp := fun vs H Q _ => ∃ z : Str, vs = [.str z] ∧ Tl z ∧ ∀ H', Same H H' → Q (.bl true) H'
section
variable {P : Program} {w : World} {K : PySem.W.Frag} {mg : Str → Option Value} {base : Heap}
theorem scIsInt : FnScope ["value"] ["value"] (defScope sIsInt) := ⟨rfl, rfl, rfl, by decide +kernel, rfl, by decide +kernel, by decide +kernel⟩
theorem ok_isint {f : Addr} {fd : FuncData} (D : Df K mg "is_integer" sIsInt ["value"] f fd) (T : Bt2 mg) : FnOk P w K mg base CX0 1 f fd ["value"] spIsInt := by
  refine D.F.ok scIsInt (fun vs H Q E h => ?_) (fun cdv A outer s H vs Q E hr h => ?_)
  · obtain ⟨i, rfl, _⟩ := h
    rfl
  · obtain ⟨i, rfl, k⟩ := h
    refine ⟨_, pss_one (ps_ret (pe_and (pe_callB call_isi (by rfl) T.isinstance PyProof.Rows.boot_isinstance (pa_cons (pv 0) (pa_cons (pe_bltn (v := .ty "int") (by rfl) T.int PyProof.Rows.boot_int rfl) pa_nil)))
      (pe_one (pe_not (pe_callB call_isi (by rfl) T.isinstance PyProof.Rows.boot_isinstance (pa_cons (pv 0) (pa_cons (pe_bltn (v := .ty "bool") (by rfl) T.bool PyProof.Rows.boot_bool rfl) pa_nil))))))), ?_⟩
    refine ⟨_, rfl, _, _, _, _, true, rfl, .ty "int", .base (.int i), kit_ty (by decide +kernel), true, rfl, ?_⟩
    refine ⟨_, rfl, _, _, _, _, false, rfl, .ty "bool", .base (.int i), kit_ty (by decide +kernel), false, rfl, k⟩
theorem scIsIndex : FnScope ["value", "many"] ["value", "many"] (defScope sIsIndex) := ⟨rfl, rfl, rfl, by decide +kernel, rfl, by decide +kernel, by decide +kernel⟩
theorem ok_isindex {f fI : Addr} {fd fdI : FuncData} (D : Df K mg "is_index" sIsIndex ["value", "many"] f fd) (DI : Df K mg "is_integer" sIsInt ["value"] fI fdI) (T : Bt2 mg) : FnOk P w K mg base CX0 2 f fd ["value", "many"] spIsIndex := by
  have GI : FnOk P w K mg base CX0 1 fI fdI ["value"] spIsInt := ok_isint DI T
  refine D.F.ok scIsIndex (fun vs H Q E h => ?_) (fun cdv A outer s H vs Q E hr h => ?_)
  · obtain ⟨i, m, rfl, _⟩ := h
    rfl
  · obtain ⟨i, m, rfl, h0, h1, k⟩ := h
    refine ⟨_, pss_one (ps_ret (pe_and (pe_call GI hr rfl DI.g DI.F.kp DI.b .nil pass0 (pa_cons (pv 0) pa_nil)) (pe_one (pe_chain op_le op_lt pe_int (pv 0) (pv 1))))), ?_⟩
    refine ⟨_, rfl, i, rfl, true, rfl, ?_⟩
    refine ⟨_, rfl, _, _, rfl, rfl, _, rfl, ?_⟩
    rw [decide_eq_true h0]
    refine iteT ?_
    refine ⟨_, rfl, _, _, rfl, rfl, ?_⟩
    show Q (V.bl (decide (i < m))) H
    rw [decide_eq_true h1]
    exact k
theorem scIsWord : FnScope ["value", "sign"] ["value"] (defScope sIsWord) := ⟨rfl, rfl, rfl, by decide +kernel, rfl, by decide +kernel, by decide +kernel⟩
theorem ok_isword {f : Addr} {fd : FuncData} (D : Df K mg "is_word" sIsWord ["value"] f fd) (T : Bt2 mg) : FnOk P w K mg base CX0 1 f fd ["value"] spIsWord := by
  refine D.F.ok scIsWord (fun vs H Q E h => ?_) (fun cdv A outer s H vs Q E hr h => ?_)
  · obtain ⟨z, rfl, _⟩ := h
    rfl
  · obtain ⟨z, rfl, hz, k⟩ := h
    obtain ⟨tL, gL⟩ := T.LETTERS
    obtain ⟨tD, gD⟩ := T.DIGITS
    obtain ⟨tW, gW⟩ := T.LONGEST_WORD
    obtain ⟨c, r, ez, hc, hr', hl⟩ := id hz
    refine ⟨_, pss_cons (ps_if (PW.pt (pw_or (pt_not (pt_val (pe_callB call_isi (by rfl) T.isinstance PyProof.Rows.boot_isinstance (pa_cons (pv 0) (pa_cons (pe_bltn (v := .ty "str") (by rfl) T.str PyProof.Rows.boot_str rfl) pa_nil)))))
          (pw_or1 (pt_not (pt_chain op_le op_le pe_int (pe_callB call_len_str (by rfl) T.len PySem.boot_len (pa_cons (pv 0) pa_nil)) (pe_glob (v := .int 12) rfl gW ⟨_, rfl⟩))))))
        pss_never pss_nil)
      (pss_one (ps_ret (pe_and (pe_cmpR op_in_sign (pe_ix ix_str (pv 0) pe_int (fun _ _ => rfl)) (pe_glob (v := .str zLE) rfl gL ⟨_, rfl⟩) rfl)
        (pe_one (pe_callB (cr_all rfl) (by rfl) T.all PyProof.Rows.boot_all (pa_cons (pe_lc (own := [("sign", 1)]) (g := gName 1) (by rfl) scIsWord.nd (pi_str (pv 0))
          (blkOk_by (own := [("sign", 1)]) (N := ["value", "sign"]) (sc := defScope sIsWord) (by decide +kernel)) (fun _ _ _ _ _ => pg_name (i := 1) scIsWord.nd rfl (Or.inl rfl)) (fun _ _ _ _ _ => pts_nil)
          (fun _ _ _ _ _ => pe_cmpR op_in_sign (pv 1) (pe_op op_add_str (pe_glob (v := .str zLE) rfl gL ⟨_, rfl⟩) (pe_glob (v := .str zDG) rfl gD ⟨_, rfl⟩)) rfl)) pa_nil)))))), ?_⟩
    have lz : z.length = r.length + 1 := by rw [len_tl, ez]; rfl
    have hzl : z.length ≤ sizeLine := Nat.le_trans (by omega : z.length ≤ 100) (by decide)
    refine ⟨_, rfl, _, _, _, _, true, rfl, .ty "str", .base (.str z), kit_ty (by decide +kernel), true, rfl, ?_⟩
    refine iteF ?_
    refine ⟨_, rfl, _, rfl, hzl, _, _, rfl, rfl, _, rfl, ?_⟩
    refine ite2 (fun _ => ?_) (fun h => absurd (decide_eq_true (by show (1 : Int) ≤ (z.length : Int); omega)) h)
    refine ⟨_, _, rfl, rfl, _, rfl, ?_⟩
    have e12 : decide ((z.length : Int) ≤ 12) = true := decide_eq_true (by omega)
    show (if (!decide ((z.length : Int) ≤ 12)) = true then _ else _)
    rw [e12]
    refine iteF ?_
    refine ⟨_, rfl, z, _, c, rfl, rfl, hzl, ?_, c, zLE, rfl, rfl, true, ?_, ?_⟩
    · rw [ez]; exact atI_nat (j := 0) rfl
    · rw [decide_eq_true (show c ∈ zLE.cps.toList from hc)]
    refine iteT ?_
    refine ⟨_, rfl, z, rfl, fun D hD => ?_⟩
    have hall : ∀ x ∈ z.cps.toList, x ∈ AL := fun x hx => by
      rw [ez] at hx
      rcases List.mem_cons.mp hx with rfl | h
      · exact LE_AL hc
      · exact hr' x h
    have hsz : z.cps.size = z.cps.toList.length := by simp
    have hsz7 : z.cps.toList.length ≤ 7 := by rw [ez]; simp; exact hl
    refine lc_it (walk_str (z := z)) (fun i H' => Same H H' ∧ H' D = some (.lst ((List.replicate i true).map V.bl))) ?_ ?_ ?_ ?_
    · exact ⟨same_upd hD, upd_same⟩
    · exact fun _ _ _ _ => trivial
    · rintro i x H1 H2 hi ⟨sm, hD1⟩ ⟨rfl, c', hc', rfl⟩
      have hm : c' ∈ z.cps.toList := by
        have : z.cps.toList[i]? = some c' := by simpa using hc'
        exact List.mem_of_getElem? this
      refine ⟨rfl, _, rfl, _, _, rfl, rfl, by decide +kernel, c', zLE ++ zDG, rfl, rfl, _, hD1, ?_, ?_, ?_⟩
      · simp; exact small1000 (by omega)
      · exact fun b o e => by rw [upd_ne (ne_of_none e hD)]; exact sm b o e
      · rw [upd_same, decide_eq_true (show c' ∈ (zLE ++ zDG).cps.toList by rw [← AL_eq]; exact hall c' hm), List.replicate_succ']
        simp
    · rintro H1 ⟨sm, hD1⟩
      refine ⟨D, _, rfl, SqL.of hD1, ?_⟩
      have e : (List.replicate z.cps.size true).all id = true := by simp
      rw [e]
      exact k H1 sm
end
end K1
set_option Elab.async false
set_option linter.all false
set_option maxRecDepth 100000
namespace K1
open PySem L2
abbrev sCheckDiff : Stmt := top 23
abbrev sCheckGroup : Stmt := top 24
abbrev sCheckDeeds : Stmt := top 25
abbrev sCheckRows : Stmt := top 42
abbrev sCheckTells : Stmt := top 43
theorem TL_eq : TL' = (zLE ++ zDG ++ zSL).cps.toList := by decide +kernel
theorem cut_to {xs : List V} {i : Nat} (h : i ≤ xs.length) : cutV xs none (some (i : Int)) = xs.take i := by
  unfold cutV
  rw [HT.sIx_none, HT.sIx_nat, Nat.min_eq_left h]
  simp
theorem inV_str {ws : List Str} {z : Str} (h : z ∉ ws) : inV (.str z) (ws.map V.str) = false := by
  unfold inV
  rw [List.any_map, List.any_eq_false]
  intro y hy
  show ¬ ((y == z) = true)
  intro e
  rw [beq_iff_eq] at e
  exact h (e ▸ hy)
theorem nodup_take {ws : List Str} {i : Nat} {z : Str} (nd : ws.Nodup) (e : ws[i]? = some z) : z ∉ ws.take i := by
  intro hm
  obtain ⟨j, hj, ej⟩ := List.getElem_of_mem hm
  rw [List.getElem_take] at ej
  have hji : j < i := by simp at hj; omega
  have hi : i < ws.length := (List.getElem?_eq_some_iff.mp e).1
  have ei : ws[i] = z := (List.getElem?_eq_some_iff.mp e).2
  exact List.pairwise_iff_getElem.mp nd j i (by omega) hi hji (ej.trans ei.symm)
theorem flat_strs (ws : List Str) : (ws.map V.str).all flatV = true := by simp [flatV]
/-- a list or a tuple of words -/
def Sq (K : PySem.W.Frag) (H : Hp) (a : Addr) (xs : List V) : Prop := SqL K H a xs ∨ SqT K H a xs
theorem Sq.same {K : PySem.W.Frag} {H H' : Hp} {a : Addr} {xs : List V} (h : Sq K H a xs) (s : Same H H') : Sq K H' a xs := by
  rcases h with h | h
  · exact .inl (s.seq h)
  · exact .inr (h.ext s)
structure GoodD (ws : List Str) : Prop where
  nd : ws.Nodup
  wd : ∀ z ∈ ws, Wd z
  len : 1 ≤ ws.length ∧ ws.length ≤ 6
def spDeeds (K : PySem.W.Frag) : Sp := fun vs H Q _ => ∃ (a : Addr) (ws : List Str), vs = [.ref a] ∧ Sq K H a (ws.map V.str) ∧ GoodD ws ∧ ∀ H', Same H H' → Q .non H'
section
variable {P : Program} {w : World} {K : PySem.W.Frag} {mg : Str → Option Value} {base : Heap}
theorem scIsTell : FnScope ["value", "sign"] ["value"] (defScope sIsTell) := ⟨rfl, rfl, rfl, by decide +kernel, rfl, by decide +kernel, by decide +kernel⟩
theorem ok_istell {f : Addr} {fd : FuncData} (D : Df K mg "is_tell" sIsTell ["value"] f fd) (T : Bt2 mg) : FnOk P w K mg base CX0 1 f fd ["value"] spIsTell := by
  refine D.F.ok scIsTell (fun vs H Q E h => ?_) (fun cdv A outer s H vs Q E hr h => ?_)
  · obtain ⟨z, rfl, _⟩ := h
    rfl
  · obtain ⟨z, rfl, ⟨hz0, hz1, hall⟩, k⟩ := h
    obtain ⟨tL, gL⟩ := T.LETTERS
    obtain ⟨tD, gD⟩ := T.DIGITS
    obtain ⟨tW, gW⟩ := T.LONGEST_TELL
    refine ⟨_, pss_cons (ps_if (PW.pt (pw_or (pt_not (pt_val (pe_callB call_isi (by rfl) T.isinstance PyProof.Rows.boot_isinstance (pa_cons (pv 0) (pa_cons (pe_bltn (v := .ty "str") (by rfl) T.str PyProof.Rows.boot_str rfl) pa_nil)))))
          (pw_or1 (pt_not (pt_chain op_le op_le pe_int (pe_callB call_len_str (by rfl) T.len PySem.boot_len (pa_cons (pv 0) pa_nil)) (pe_glob (v := .int 60) rfl gW ⟨_, rfl⟩))))))
        pss_never pss_nil)
      (pss_one (ps_ret (pe_callB (cr_all rfl) (by rfl) T.all PyProof.Rows.boot_all (pa_cons (pe_lc (own := [("sign", 1)]) (g := gName 1) (by rfl) scIsTell.nd (pi_str (pv 0))
          (blkOk_by (own := [("sign", 1)]) (N := ["value", "sign"]) (sc := defScope sIsTell) (by decide +kernel)) (fun _ _ _ _ _ => pg_name (i := 1) scIsTell.nd rfl (Or.inl rfl)) (fun _ _ _ _ _ => pts_nil)
          (fun _ _ _ _ _ => pe_cmpR op_in_sign (pv 1) (pe_op op_add_str (pe_op op_add_str (pe_glob (v := .str zLE) rfl gL ⟨_, rfl⟩) (pe_glob (v := .str zDG) rfl gD ⟨_, rfl⟩)) pe_str) rfl)) pa_nil)))), ?_⟩
    have lz : z.length = z.cps.toList.length := len_tl z
    have hzl : z.length ≤ sizeLine := Nat.le_trans (by omega : z.length ≤ 100) (by decide)
    refine ⟨_, rfl, _, _, _, _, true, rfl, .ty "str", .base (.str z), kit_ty (by decide +kernel), true, rfl, ?_⟩
    refine iteF ?_
    refine ⟨_, rfl, _, rfl, hzl, _, _, rfl, rfl, _, rfl, ?_⟩
    refine ite2 (fun _ => ?_) (fun h => absurd (decide_eq_true (by show (1 : Int) ≤ (z.length : Int); omega)) h)
    refine ⟨_, _, rfl, rfl, _, rfl, ?_⟩
    have e12 : decide ((z.length : Int) ≤ 60) = true := decide_eq_true (by omega)
    show (if (!decide ((z.length : Int) ≤ 60)) = true then _ else _)
    rw [e12]
    refine iteF ?_
    refine ⟨_, rfl, z, rfl, fun D hD => ?_⟩
    have hsz : z.cps.size = z.cps.toList.length := by simp
    refine lc_it (walk_str (z := z)) (fun i H' => Same H H' ∧ H' D = some (.lst ((List.replicate i true).map V.bl))) ?_ ?_ ?_ ?_
    · exact ⟨same_upd hD, upd_same⟩
    · exact fun _ _ _ _ => trivial
    · rintro i x H1 H2 hi ⟨sm, hD1⟩ ⟨rfl, c', hc', rfl⟩
      have hm : c' ∈ z.cps.toList := by
        have : z.cps.toList[i]? = some c' := by simpa using hc'
        exact List.mem_of_getElem? this
      refine ⟨rfl, _, rfl, _, _, rfl, rfl, by decide +kernel, _, _, rfl, rfl, by decide +kernel, c', zLE ++ zDG ++ zSL, rfl, rfl, _, hD1, ?_, ?_, ?_⟩
      · simp; exact small1000 (by omega)
      · exact fun b o e => by rw [upd_ne (ne_of_none e hD)]; exact sm b o e
      · rw [upd_same, decide_eq_true (show c' ∈ (zLE ++ zDG ++ zSL).cps.toList by rw [← TL_eq]; exact hall c' hm), List.replicate_succ']
        simp
    · rintro H1 ⟨sm, hD1⟩
      refine ⟨D, _, rfl, SqL.of hD1, ?_⟩
      have e : (List.replicate z.cps.size true).all id = true := by simp
      rw [e]
      exact k H1 sm
theorem scDiff : FnScope ["deeds", "index", "deed"] ["deeds"] (defScope sCheckDiff) := ⟨rfl, rfl, rfl, by decide +kernel, rfl, by decide +kernel, by decide +kernel⟩
theorem ok_diff {f fW : Addr} {fd fdW : FuncData} (D : Df K mg "check_different" sCheckDiff ["deeds"] f fd) (DW : Df K mg "is_word" sIsWord ["value"] fW fdW) (T : Bt2 mg) : FnOk P w K mg base CX0 2 f fd ["deeds"] (spDeeds K) := by
  have GW : FnOk P w K mg base CX0 1 fW fdW ["value"] spIsWord := ok_isword DW T
  refine D.F.ok scDiff (fun vs H Q E h => ?_) (fun cdv A outer s H vs Q E hr h => ?_)
  · obtain ⟨a, ws, rfl, _⟩ := h
    rfl
  · obtain ⟨a, ws, rfl, ha, gd, k⟩ := h
    have hle : ws.length ≤ 6 := gd.len.2
    rcases ha with ha | ha
    · refine ⟨_, pss_one (ps_for PassesOwn.never rfl (pi_enum (by rfl) T.enumerate (pa_cons (pv 0) pa_nil)) (pg_tup (by rfl) (pgs_cons (pg_name (i := 1) scDiff.nd rfl (Or.inl rfl)) (pgs_cons (pg_name (i := 2) scDiff.nd rfl (Or.inl rfl)) pgs_nil)))
          (pss_one (ps_if (PW.pt (pw_or (pt_not (pt_val (pe_call GW hr rfl DW.g DW.F.kp DW.b .nil pass0 (pa_cons (pv 2) pa_nil)))) (pw_or1 (pt_cmpR op_in_seq (pv 2) (pe_slice sl_list (pv 0) po_none (po_some (pv 1))) (by rfl))))) pss_never pss_nil))), ?_⟩
      refine ⟨_, rfl, a, _, rfl, ha, for_it (walk_enum (K := K) (a := a) (xs := ws.map V.str)) (fun i σ H' => Same H H' ∧ ∃ v1 v2, σ = [some (.ref a), v1, v2]) ⟨Same.refl H, none, none, rfl⟩ (fun i σ H' _ p => p.1.seq ha) ?_ ?_⟩
      · rintro i x σ H1 H2 hi ⟨sm, v1, v2, rfl⟩ ⟨t, x1, x2, rfl, ht, rfl, e1, e2⟩
        cases e1
        replace e2 : (ws.map V.str)[i]? = some x2 := e2
        rw [List.getElem?_map] at e2
        obtain ⟨z, hz, rfl⟩ := Option.map_eq_some_iff.mp e2
        have hzm := List.mem_of_getElem? hz
        have hil : i < ws.length := (List.getElem?_eq_some_iff.mp hz).1
        have sm2 := sm.trans (same_upd (o := .tup [V.int (i : Nat), V.str z]) ht)
        refine ⟨t, _, rfl, SqT.of upd_same, rfl, _, _, rfl, _, _, rfl, rfl, ?_⟩
        refine ⟨_, rfl, z, rfl, gd.wd z hzm, fun H3 sm3 => ⟨true, rfl, ?_⟩⟩
        refine iteF ?_
        have sm4 := sm2.trans sm3
        refine ⟨_, rfl, _, rfl, _, rfl, (i : Int), rfl, a, _, rfl, sm4.seq ha, fun q hq => ?_⟩
        rw [cut_to (by rw [List.length_map]; omega), ← List.map_take]
        refine ⟨q, _, rfl, .inl (SqL.of upd_same), rfl, flat_strs _, false, ?_, ?_⟩
        · show V.bl (if false = true then _ else inV (V.str z) ((ws.take i).map V.str)) = V.bl false
          rw [inV_str (nodup_take gd.nd hz)]
          rfl
        · refine iteF ?_
          exact ⟨sm4.trans (same_upd hq), _, _, rfl⟩
      · rintro σ H1 ⟨sm, v1, v2, rfl⟩
        exact k H1 sm
    · refine ⟨_, pss_one (ps_for PassesOwn.never rfl (pi_enumT (by rfl) T.enumerate (pa_cons (pv 0) pa_nil)) (pg_tup (by rfl) (pgs_cons (pg_name (i := 1) scDiff.nd rfl (Or.inl rfl)) (pgs_cons (pg_name (i := 2) scDiff.nd rfl (Or.inl rfl)) pgs_nil)))
          (pss_one (ps_if (PW.pt (pw_or (pt_not (pt_val (pe_call GW hr rfl DW.g DW.F.kp DW.b .nil pass0 (pa_cons (pv 2) pa_nil)))) (pw_or1 (pt_cmpR op_in_seq (pv 2) (pe_slice sl_tupA (pv 0) po_none (po_some (pv 1))) (by rfl))))) pss_never pss_nil))), ?_⟩
      refine ⟨_, rfl, a, _, rfl, ha, for_it (walk_enumT (K := K) (a := a) (xs := ws.map V.str)) (fun i σ H' => Same H H' ∧ ∃ v1 v2, σ = [some (.ref a), v1, v2]) ⟨Same.refl H, none, none, rfl⟩ (fun i σ H' _ p => ha.ext p.1) ?_ ?_⟩
      · rintro i x σ H1 H2 hi ⟨sm, v1, v2, rfl⟩ ⟨t, x1, x2, rfl, ht, rfl, e1, e2⟩
        cases e1
        replace e2 : (ws.map V.str)[i]? = some x2 := e2
        rw [List.getElem?_map] at e2
        obtain ⟨z, hz, rfl⟩ := Option.map_eq_some_iff.mp e2
        have hzm := List.mem_of_getElem? hz
        have hil : i < ws.length := (List.getElem?_eq_some_iff.mp hz).1
        have sm2 := sm.trans (same_upd (o := .tup [V.int (i : Nat), V.str z]) ht)
        refine ⟨t, _, rfl, SqT.of upd_same, rfl, _, _, rfl, _, _, rfl, rfl, ?_⟩
        refine ⟨_, rfl, z, rfl, gd.wd z hzm, fun H3 sm3 => ⟨true, rfl, ?_⟩⟩
        refine iteF ?_
        have sm4 := sm2.trans sm3
        have eh : HT.sIx (ws.map V.str).length (ws.map V.str).length (some (i : Int)) = i := by rw [HT.sIx_nat, List.length_map]; omega
        refine ⟨_, rfl, _, rfl, _, rfl, (i : Int), rfl, a, _, rfl, ha.ext sm4, fun h => absurd h.2 (by rw [eh, List.length_map]; omega), fun _ q hq => ?_⟩
        rw [cut_to (by rw [List.length_map]; omega), ← List.map_take]
        refine ⟨q, _, rfl, .inr (SqT.of upd_same), rfl, flat_strs _, false, ?_, ?_⟩
        · show V.bl (if false = true then _ else inV (V.str z) ((ws.take i).map V.str)) = V.bl false
          rw [inV_str (nodup_take gd.nd hz)]
          rfl
        · refine iteF ?_
          exact ⟨sm4.trans (same_upd hq), _, _, rfl⟩
      · rintro σ H1 ⟨sm, v1, v2, rfl⟩
        exact k H1 sm
theorem Sq.len {K : PySem.W.Frag} {H : Hp} {a : Addr} {xs : List V} (h : Sq K H a xs) : LenV K (.ref a) H xs.length := by
  rcases h with h | h
  · exact .inl ⟨_, h, rfl⟩
  · exact .inr ⟨_, h, rfl⟩
theorem scGroup : FnScope ["deeds"] ["deeds"] (defScope sCheckGroup) := ⟨rfl, rfl, rfl, by decide +kernel, rfl, by decide +kernel, by decide +kernel⟩
theorem ok_group {f fC fW : Addr} {fd fdC fdW : FuncData} (D : Df K mg "check_group" sCheckGroup ["deeds"] f fd) (DC : Df K mg "check_different" sCheckDiff ["deeds"] fC fdC) (DW : Df K mg "is_word" sIsWord ["value"] fW fdW) (T : Bt2 mg) : FnOk P w K mg base CX0 3 f fd ["deeds"] (spDeeds K) := by
  have GC : FnOk P w K mg base CX0 2 fC fdC ["deeds"] (spDeeds K) := ok_diff DC DW T
  refine D.F.ok scGroup (fun vs H Q E h => ?_) (fun cdv A outer s H vs Q E hr h => ?_)
  · obtain ⟨a, ws, rfl, _⟩ := h
    rfl
  · obtain ⟨a, ws, rfl, ha, gd, k⟩ := h
    refine ⟨_, pss_cons (ps_expr (pe_call GC hr rfl DC.g DC.F.kp DC.b .nil pass0 (pa_cons (pv 0) pa_nil)))
      (pss_one (ps_if (pt_cmpR op_eq (pe_callB call_len (by rfl) T.len PySem.boot_len (pa_cons (pv 0) pa_nil)) pe_int (nomark _)) pss_never pss_nil)), ?_⟩
    refine ⟨_, rfl, a, ws, rfl, ha, gd, fun H1 sm => ?_⟩
    refine ⟨_, rfl, _, _, rfl, (ha.same sm).len, rfl, _, rfl, ?_⟩
    refine ite2 (fun h => ?_) (fun _ => k H1 sm)
    have := of_decide_eq_true h
    injection this with this
    have := gd.len.1
    rw [List.length_map] at *
    omega
theorem scDeeds : FnScope ["deeds"] ["deeds"] (defScope sCheckDeeds) := ⟨rfl, rfl, rfl, by decide +kernel, rfl, by decide +kernel, by decide +kernel⟩
theorem ok_deeds {f fG fC fW : Addr} {fd fdG fdC fdW : FuncData} (D : Df K mg "check_deeds" sCheckDeeds ["deeds"] f fd) (DG : Df K mg "check_group" sCheckGroup ["deeds"] fG fdG) (DC : Df K mg "check_different" sCheckDiff ["deeds"] fC fdC) (DW : Df K mg "is_word" sIsWord ["value"] fW fdW) (T : Bt2 mg) : FnOk P w K mg base CX0 4 f fd ["deeds"] (spDeeds K) := by
  have GC : FnOk P w K mg base CX0 3 fG fdG ["deeds"] (spDeeds K) := ok_group DG DC DW T
  refine D.F.ok scDeeds (fun vs H Q E h => ?_) (fun cdv A outer s H vs Q E hr h => ?_)
  · obtain ⟨a, ws, rfl, _⟩ := h
    rfl
  · obtain ⟨a, ws, rfl, ha, gd, k⟩ := h
    have hle : ws.length ≤ 6 := gd.len.2
    obtain ⟨tM, gM⟩ := T.MOST_DEEDS
    refine ⟨_, pss_cons (ps_expr (pe_call GC hr rfl DG.g DG.F.kp DG.b .nil pass0 (pa_cons (pv 0) pa_nil)))
      (pss_one (ps_if (pt_cmpR op_gt (pe_callB call_len (by rfl) T.len PySem.boot_len (pa_cons (pv 0) pa_nil)) (pe_glob (v := .int 6) rfl gM ⟨_, rfl⟩) (nomark _)) pss_never pss_nil)), ?_⟩
    refine ⟨_, rfl, a, ws, rfl, ha, gd, fun H1 sm => ?_⟩
    refine ⟨_, rfl, _, _, rfl, (ha.same sm).len, _, _, rfl, rfl, _, rfl, ?_⟩
    refine ite2 (fun h => ?_) (fun _ => k H1 sm)
    have := of_decide_eq_true h
    rw [List.length_map] at this
    exact absurd this (by omega)
end
end K1
set_option Elab.async false
set_option linter.all false
set_option maxRecDepth 100000
namespace K1
open PySem L2
theorem kit_list {K : PySem.W.Frag} : PySem.W.kitAny K (.type "list") [.type "list", .type "tuple"] = some true := by
  simp [PySem.W.kitAny, PySem.W.kitOne]
def spRows (K : PySem.W.Frag) : Sp := fun vs H Q _ => ∃ (b : Addr) (m : Nat) (as : List Addr) (rs : List (List Int)), vs = [.ref b, .int (m : Int)] ∧ SqL K H b (as.map V.ref) ∧ RowsAt H as rs ∧ 1 ≤ rs.length ∧ rs.length ≤ 60 ∧ m ≤ 100 ∧
  (∀ r ∈ rs, r.length = m ∧ ∀ x ∈ r, 0 ≤ x ∧ x < (rs.length : Int)) ∧ ∀ H', Same H H' → Q .non H'
def spTells (K : PySem.W.Frag) : Sp := fun vs H Q _ => ∃ (b : Addr) (ss : List Str), vs = [.ref b, .int (ss.length : Int)] ∧ SqL K H b (ss.map V.str) ∧ (∀ z ∈ ss, Tl z) ∧ ss.length ≤ 100 ∧ ∀ H', Same H H' → Q .non H'
theorem RowsAt.same {H H' : Hp} {as : List Addr} {rs : List (List Int)} (h : RowsAt H as rs) (s : Same H H') : RowsAt H' as rs := ⟨h.1, fun i a r e1 e2 => s _ _ (h.2 i a r e1 e2)⟩
def rLn (K : PySem.W.Frag) : List V → Hp → VK → Prop := fun xs H Q => ∃ x n, xs = [x] ∧ LenV K x H n ∧ Q (.int n) H
section
variable {P : Program} {w : World} {K : PySem.W.Frag} {mg : Str → Option Value} {base : Heap}
abbrev nRows : List Str := ["rows", "many", "index", "row", "state"]
theorem scRows : FnScope nRows ["rows", "many"] (defScope sCheckRows) := ⟨rfl, rfl, rfl, by decide +kernel, rfl, by decide +kernel, by decide +kernel⟩
theorem ok_rows {f fX fI : Addr} {fd fdX fdI : FuncData} (D : Df K mg "check_rows" sCheckRows ["rows", "many"] f fd) (DX : Df K mg "is_index" sIsIndex ["value", "many"] fX fdX) (DI : Df K mg "is_integer" sIsInt ["value"] fI fdI) (T : Bt2 mg) : FnOk P w K mg base CX0 3 f fd ["rows", "many"] (spRows K) := by
  have GX : FnOk P w K mg base CX0 2 fX fdX ["value", "many"] spIsIndex := ok_isindex DX DI T
  refine D.F.ok scRows (fun vs H Q E h => ?_) (fun cdv A outer s H vs Q E hr h => ?_)
  · obtain ⟨b, m, as, rs, rfl, _⟩ := h
    rfl
  · obtain ⟨b, m, as, rs, rfl, hb, hR, h1, h60, hm, hrow, k⟩ := h
    obtain ⟨tM, gM⟩ := T.MOST_STATES
    have hlen : (as.map V.ref).length = rs.length := by rw [List.length_map, hR.1]
    refine ⟨_, pss_cons (ps_if (pt_cmpR op_eq (pe_callB call_len (by rfl) T.len PySem.boot_len (pa_cons (pv 0) pa_nil)) pe_int (nomark _)) pss_never pss_nil)
      (pss_cons (ps_if (pt_cmpR op_gt (pe_callB call_len (by rfl) T.len PySem.boot_len (pa_cons (pv 0) pa_nil)) (pe_glob (v := .int 60) rfl gM ⟨_, rfl⟩) (nomark _)) pss_never pss_nil)
      (pss_one (ps_for PassesOwn.never rfl (pi_enum (by rfl) T.enumerate (pa_cons (pv 0) pa_nil)) (pg_tup (by rfl) (pgs_cons (pg_name (i := 2) scRows.nd rfl (Or.inl rfl)) (pgs_cons (pg_name (i := 3) scRows.nd rfl (Or.inl rfl)) pgs_nil)))
        (pss_cons (ps_if (PW.pt (pw_or (pt_not (pt_val (pe_callB call_isiT (by rfl) T.isinstance PyProof.Rows.boot_isinstance (pa_cons (pv 3) (pa_cons (pe_tup (pa_cons (pe_bltn (v := .ty "list") (by rfl) T.list PyProof.Rows.boot_list rfl) (pa_cons (pe_bltn (v := .ty "tuple") (by rfl) T.tuple PyProof.Rows.boot_tuple rfl) pa_nil))) pa_nil)))))
            (pw_or1 (pt_cmpR op_ne (pe_callB call_len (by rfl) T.len PySem.boot_len (pa_cons (pv 3) pa_nil)) (pv 1) (nomark _))))) pss_never pss_nil)
        (pss_one (ps_if (pt_not (pt_val (pe_callB (cr_all rfl) (by rfl) T.all PyProof.Rows.boot_all (pa_cons (pe_lc (own := [("state", 4)]) (g := gName 4) (by rfl) scRows.nd (pi_list (pv 3))
            (blkOk_by (own := [("state", 4)]) (N := nRows) (sc := defScope sCheckRows) (by decide +kernel)) (fun _ _ _ _ _ => pg_name (i := 4) scRows.nd rfl (Or.inl rfl)) (fun _ _ _ _ _ => pts_nil)
            (fun _ _ _ _ _ => pe_call GX hr rfl DX.g DX.F.kp DX.b .nil pass0 (pa_cons (pv 4) (pa_cons (pe_callB (r := rLn K) call_len (by rfl) T.len PySem.boot_len (pa_cons (pv 0) pa_nil)) pa_nil)))) pa_nil)))) pss_never pss_nil)))))), ?_⟩
    refine ⟨_, rfl, _, rs.length, rfl, .inl ⟨_, hb, hlen.symm⟩, rfl, _, rfl, ?_⟩
    refine ite2 (fun h => absurd (of_decide_eq_true h) (fun h => by injection h with h; omega)) (fun _ => ?_)
    refine ⟨_, rfl, _, rs.length, rfl, .inl ⟨_, hb, hlen.symm⟩, _, _, rfl, rfl, _, rfl, ?_⟩
    refine ite2 (fun h => absurd (of_decide_eq_true h) (by omega)) (fun _ => ?_)
    refine ⟨_, rfl, b, _, rfl, hb, for_it (walk_enum (K := K) (a := b) (xs := as.map V.ref)) (fun i σ H' => Same H H' ∧ ∃ v1 v2, σ = [some (.ref b), some (.int (m : Int)), v1, v2, none]) ⟨Same.refl H, none, none, rfl⟩ (fun i σ H' _ p => p.1.seq hb) ?_ ?_⟩
    · rintro i x σ H1 H2 hi ⟨sm, v1, v2, rfl⟩ ⟨t, x1, x2, rfl, ht, rfl, e1, e2⟩
      cases e1
      replace e2 : (as.map V.ref)[i]? = some x2 := e2
      rw [List.getElem?_map] at e2
      obtain ⟨a, ea, rfl⟩ := Option.map_eq_some_iff.mp e2
      have hir : i < rs.length := by rw [← hR.1]; exact (List.getElem?_eq_some_iff.mp ea).1
      have er : rs[i]? = some rs[i] := List.getElem?_eq_getElem hir
      obtain ⟨hl, hx⟩ := hrow _ (List.getElem_mem hir)
      have sm2 := sm.trans (same_upd (o := .tup [V.int (i : Nat), V.ref a]) ht)
      have ha2 := sm2 _ _ (hR.2 i a _ ea er)
      refine ⟨t, _, rfl, SqT.of upd_same, rfl, _, _, rfl, _, _, rfl, rfl, ?_⟩
      generalize upd H1 t (.tup [V.int (i : Nat), V.ref a]) = H3 at sm2 ha2 ⊢
      refine ⟨_, rfl, by show 2 ≤ sizeLine; decide, fun q hq => ?_⟩
      have sm4 := sm2.trans (same_upd (o := .tup [V.ty "list", V.ty "tuple"]) hq)
      have ha4 := (same_upd (o := .tup [V.ty "list", V.ty "tuple"]) hq) _ _ ha2
      refine ⟨_, q, _, _, _, true, rfl, upd_same, .cons (.ty "list") (.cons (.ty "tuple") .nil), .base (.lst ha4), kit_list, true, rfl, ?_⟩
      refine iteF ?_
      refine ⟨_, rfl, _, m, rfl, .inl ⟨_, SqL.of ha4, by rw [List.length_map]; exact hl.symm⟩, _, rfl, rfl, _, rfl, ?_⟩
      refine ite2 (fun h => ?_) (fun _ => ?_)
      · simp at h
      refine ⟨_, rfl, a, rfl, ⟨_, SqL.of ha4⟩, fun D hD => ?_⟩
      generalize upd H3 q (.tup [V.ty "list", V.ty "tuple"]) = H4 at sm4 ha4 hD ⊢
      refine lc_list (K := K) (a := a) (xs := (rs[i]).map V.int) (fun j H' => Same H4 H' ∧ H' D = some (.lst ((List.replicate j true).map V.bl))) ?_ ?_ ?_ ?_
      · exact ⟨same_upd hD, upd_same⟩
      · exact fun j H' _ p => p.1.seq (SqL.of ha4)
      · rintro j x H5 hj ⟨sm5, hD5⟩
        rw [List.getElem?_map] at hj
        obtain ⟨y, hy, rfl⟩ := Option.map_eq_some_iff.mp hj
        obtain ⟨y0, y1⟩ := hx y (List.mem_of_getElem? hy)
        have hjl : j < (rs[i]).length := (List.getElem?_eq_some_iff.mp hy).1
        refine ⟨rfl, _, rfl, _, rfl, _, rs.length, rfl, .inl ⟨_, (sm4.trans sm5).seq hb, hlen.symm⟩, y, rs.length, rfl, y0, y1, ?_⟩
        refine ⟨_, hD5, ?_, ?_, ?_⟩
        · simp; exact small1000 (by omega)
        · exact fun b' o e => by rw [upd_ne (ne_of_none e hD)]; exact sm5 b' o e
        · rw [upd_same, List.replicate_succ']
          simp
      · rintro H5 ⟨sm5, hD5⟩
        refine ⟨D, _, rfl, SqL.of hD5, ?_⟩
        have e : (List.replicate ((rs[i]).map V.int).length true).all id = true := by simp
        rw [e]
        refine ⟨true, rfl, ?_⟩
        refine iteF ?_
        exact ⟨sm4.trans sm5, _, _, rfl⟩
    · rintro σ H1 ⟨sm, v1, v2, rfl⟩
      exact k H1 sm
theorem scTells : FnScope ["tells", "many", "index", "tell"] ["tells", "many"] (defScope sCheckTells) := ⟨rfl, rfl, rfl, by decide +kernel, rfl, by decide +kernel, by decide +kernel⟩
theorem ok_tells {f fT : Addr} {fd fdT : FuncData} (D : Df K mg "check_tells" sCheckTells ["tells", "many"] f fd) (DT : Df K mg "is_tell" sIsTell ["value"] fT fdT) (T : Bt2 mg) : FnOk P w K mg base CX0 2 f fd ["tells", "many"] (spTells K) := by
  have GT : FnOk P w K mg base CX0 1 fT fdT ["value"] spIsTell := ok_istell DT T
  refine D.F.ok scTells (fun vs H Q E h => ?_) (fun cdv A outer s H vs Q E hr h => ?_)
  · obtain ⟨b, ss, rfl, _⟩ := h
    rfl
  · obtain ⟨b, ss, rfl, hb, ht, hl, k⟩ := h
    refine ⟨_, pss_cons (ps_for PassesOwn.never rfl (pi_enum (by rfl) T.enumerate (pa_cons (pv 0) pa_nil)) (pg_tup (by rfl) (pgs_cons (pg_name (i := 2) scTells.nd rfl (Or.inl rfl)) (pgs_cons (pg_name (i := 3) scTells.nd rfl (Or.inl rfl)) pgs_nil)))
        (pss_one (ps_if (pt_not (pt_val (pe_call GT hr rfl DT.g DT.F.kp DT.b .nil pass0 (pa_cons (pv 3) pa_nil)))) pss_never pss_nil)))
      (pss_one (ps_if (pt_cmpR op_ne (pe_callB call_len (by rfl) T.len PySem.boot_len (pa_cons (pv 0) pa_nil)) (pv 1) (nomark _)) pss_never pss_nil)), ?_⟩
    refine ⟨_, rfl, b, _, rfl, hb, for_it (walk_enum (K := K) (a := b) (xs := ss.map V.str)) (fun i σ H' => Same H H' ∧ ∃ v1 v2, σ = [some (.ref b), some (.int (ss.length : Int)), v1, v2]) ⟨Same.refl H, none, none, rfl⟩ (fun i σ H' _ p => p.1.seq hb) ?_ ?_⟩
    · rintro i x σ H1 H2 hi ⟨sm, v1, v2, rfl⟩ ⟨t, x1, x2, rfl, ht', rfl, e1, e2⟩
      cases e1
      replace e2 : (ss.map V.str)[i]? = some x2 := e2
      rw [List.getElem?_map] at e2
      obtain ⟨z, ez, rfl⟩ := Option.map_eq_some_iff.mp e2
      have sm2 := sm.trans (same_upd (o := .tup [V.int (i : Nat), V.str z]) ht')
      refine ⟨t, _, rfl, SqT.of upd_same, rfl, _, _, rfl, _, _, rfl, rfl, ?_⟩
      refine ⟨_, rfl, z, rfl, ht z (List.mem_of_getElem? ez), fun H3 sm3 => ⟨true, rfl, ?_⟩⟩
      refine iteF ?_
      exact ⟨sm2.trans sm3, _, _, rfl⟩
    · rintro σ H1 ⟨sm, v1, v2, rfl⟩
      refine ⟨_, rfl, _, ss.length, rfl, .inl ⟨_, sm.seq hb, (List.length_map _).symm⟩, _, rfl, rfl, _, rfl, ?_⟩
      refine ite2 (fun h => ?_) (fun _ => k H1 sm)
      simp at h
end
end K1
set_option Elab.async false
set_option linter.all false
set_option maxRecDepth 100000
namespace K1
open PySem L2
abbrev sMInit : Stmt := inClass (top 41) 0
abbrev sMLen : Stmt := inClass (top 41) 1
abbrev sMEq : Stmt := inClass (top 41) 2
theorem f_dr : ¬ (("deeds" : Str) = "rows") := by decide +kernel
theorem f_dt : ¬ (("deeds" : Str) = "tells") := by decide +kernel
theorem f_ds : ¬ (("deeds" : Str) = "start") := by decide +kernel
theorem f_rt : ¬ (("rows" : Str) = "tells") := by decide +kernel
theorem f_rs : ¬ (("rows" : Str) = "start") := by decide +kernel
theorem f_ts : ¬ (("tells" : Str) = "start") := by decide +kernel
theorem f_rd : ¬ (("rows" : Str) = "deeds") := by decide +kernel
theorem f_td : ¬ (("tells" : Str) = "deeds") := by decide +kernel
theorem f_tr : ¬ (("tells" : Str) = "rows") := by decide +kernel
def mf (t r l : Addr) (st : Int) : List (Str × V) := putF "start" (.int st) (putF "tells" (.ref l) (putF "rows" (.ref r) (putF "deeds" (.ref t) [])))
theorem mf_deeds (t r l : Addr) (st : Int) : (mf t r l st).lookup ("deeds" : Str) = some (.ref t) := by
  unfold mf
  rw [lookup_putF, if_neg f_ds, lookup_putF, if_neg f_dt, lookup_putF, if_neg f_dr, lookup_putF, if_pos rfl]
theorem mf_rows (t r l : Addr) (st : Int) : (mf t r l st).lookup ("rows" : Str) = some (.ref r) := by
  unfold mf
  rw [lookup_putF, if_neg f_rs, lookup_putF, if_neg f_rt, lookup_putF, if_pos rfl]
theorem mf_tells (t r l : Addr) (st : Int) : (mf t r l st).lookup ("tells" : Str) = some (.ref l) := by
  unfold mf
  rw [lookup_putF, if_neg f_ts, lookup_putF, if_pos rfl]
theorem mf_start (t r l : Addr) (st : Int) : (mf t r l st).lookup ("start" : Str) = some (.int st) := by
  unfold mf
  rw [lookup_putF, if_pos rfl]
theorem mf_no (t r l : Addr) (st : Int) {m : Str} (h1 : ¬ m = "start") (h2 : ¬ m = "tells") (h3 : ¬ m = "rows") (h4 : ¬ m = "deeds") : (mf t r l st).lookup m = none := by
  unfold mf
  rw [lookup_putF, if_neg h1, lookup_putF, if_neg h2, lookup_putF, if_neg h3, lookup_putF, if_neg h4]
  rfl
def RowsT (H : Hp) (as : List Addr) (rs : List (List Int)) : Prop := as.length = rs.length ∧ ∀ (i : Nat) (a : Addr) (r : List Int), as[i]? = some a → rs[i]? = some r → H a = some (.tup (r.map V.int))
theorem RowsT.same {H H' : Hp} {as : List Addr} {rs : List (List Int)} (h : RowsT H as rs) (s : Same H H') : RowsT H' as rs := ⟨h.1, fun i a r e1 e2 => s _ _ (h.2 i a r e1 e2)⟩
def MachAt (K : PySem.W.Frag) (C : Addr) (H : Hp) (x : Addr) (ws : List Str) (rs : List (List Int)) (ss : List Str) (st : Int) : Prop :=
  ∃ (dx t r l : Addr) (as : List Addr), H x = some (.ins C dx (mf t r l st)) ∧ SqF H t (ws.map V.str) ∧ H r = some (.tup (as.map V.ref)) ∧ RowsT H as rs ∧ H l = some (.tup (ss.map V.str))
/-- the parts that a machine takes -/
structure Parts (ws : List Str) (rs : List (List Int)) (ss : List Str) (st : Int) : Prop where
  gd : GoodD ws
  many : 1 ≤ rs.length ∧ rs.length ≤ 60
  row : ∀ r ∈ rs, r.length = ws.length ∧ ∀ x ∈ r, 0 ≤ x ∧ x < (rs.length : Int)
  tl : ss.length = rs.length ∧ ∀ z ∈ ss, Tl z
  st : 0 ≤ st ∧ st < (rs.length : Int)
def spMInit (K : PySem.W.Frag) (C : Addr) : Sp := fun vs H Q _ => ∃ (x dx a b l : Addr) (as : List Addr) (ws : List Str) (rs : List (List Int)) (ss : List Str) (st : Int), vs = [.ref x, .ref a, .ref b, .ref l, .int st] ∧ H x = some (.ins C dx []) ∧
  SqF H a (ws.map V.str) ∧ SqL K H b (as.map V.ref) ∧ RowsAt H as rs ∧ SqL K H l (ss.map V.str) ∧ Parts ws rs ss st ∧ ∀ H', MachAt K C H' x ws rs ss st → Kept x H H' → Q .non H'
/-- what the class brings -/
structure Tm (K : PySem.W.Frag) (mg : Str → Option Value) (C : Addr) : Prop where
  cl : Cls K C
  nD : NoAttr K C "deeds"
  nR : NoAttr K C "rows"
  nT : NoAttr K C "tells"
  nS : NoAttr K C "start"
  mgC : mg "Machine" = some (.ref C)
theorem tup_any {K : PySem.W.Frag} {H : Hp} {a : Addr} {ys : List V} {Qf : V → Hp → Prop} (h : Sq K H a ys) (k : ∀ t H', SqT K H' t ys → Same H H' → Qf (.ref t) H') :
    (SqL K H a ys ∧ ∀ l, H l = none → Qf (.ref l) (upd H l (.tup ys))) ∨ (SqT K H a ys ∧ Qf (.ref a) H) := by
  rcases h with h | h
  · exact .inl ⟨h, fun l hl => k l _ (SqT.of upd_same) (same_upd hl)⟩
  · exact .inr ⟨h, k a H h (Same.refl H)⟩
theorem Kept.seqI {K : PySem.W.Frag} {x C dx : Addr} {fs : List (Str × V)} {H H' : Hp} {a : Addr} {xs : List V} (e : Kept x H H') (hx : H x = some (.ins C dx fs)) (h : SqL K H a xs) : SqL K H' a xs := by
  rcases h with (h | ⟨o, h⟩) | h
  · exact .inl (.inl (e _ _ h (ne_of h hx (by intro z; cases z))))
  · exact .inl (.inr ⟨o, e _ _ h (ne_of h hx (by intro z; cases z))⟩)
  · exact .inr h
theorem Kept.seqTI {K : PySem.W.Frag} {x C dx : Addr} {fs : List (Str × V)} {H H' : Hp} {a : Addr} {xs : List V} (e : Kept x H H') (hx : H x = some (.ins C dx fs)) (h : SqT K H a xs) : SqT K H' a xs := by
  rcases h with (h | ⟨o, h⟩) | h
  · exact .inl (.inl (e _ _ h (ne_of h hx (by intro z; cases z))))
  · exact .inl (.inr ⟨o, e _ _ h (ne_of h hx (by intro z; cases z))⟩)
  · exact .inr h
theorem Kept.seqFI {x C dx : Addr} {fs : List (Str × V)} {H H' : Hp} {a : Addr} {xs : List V} (e : Kept x H H') (hx : H x = some (.ins C dx fs)) (h : SqF H a xs) : SqF H' a xs := e.seqF hx (by intro o ys z; cases z) h
theorem Kept.rowsI {x C dx : Addr} {fs : List (Str × V)} {H H' : Hp} {as : List Addr} {rs : List (List Int)} (e : Kept x H H') (hx : H x = some (.ins C dx fs)) (h : RowsAt H as rs) : RowsAt H' as rs :=
  ⟨h.1, fun i a r e1 e2 => e _ _ (h.2 i a r e1 e2) (ne_of (h.2 i a r e1 e2) hx (by intro z; cases z))⟩
theorem Kept.self {x : Addr} {H : Hp} {o : HO} : Kept x H (L2.upd H x o) := fun b u e n => by rw [upd_ne n]; exact e
theorem RowsT.kept {x C dx : Addr} {fs : List (Str × V)} {H H' : Hp} {as : List Addr} {rs : List (List Int)} (e : Kept x H H') (hx : H x = some (.ins C dx fs)) (h : RowsT H as rs) : RowsT H' as rs :=
  ⟨h.1, fun i a r e1 e2 => e _ _ (h.2 i a r e1 e2) (ne_of (h.2 i a r e1 e2) hx (by intro z; cases z))⟩
theorem RowsT.snoc {H : Hp} {as : List Addr} {rs : List (List Int)} {a : Addr} {r : List Int} (h : RowsT H as rs) (e : H a = some (.tup (r.map V.int))) : RowsT H (as ++ [a]) (rs ++ [r]) := by
  refine ⟨by simp [h.1], fun i b q e1 e2 => ?_⟩
  by_cases hi : i < as.length
  · rw [List.getElem?_append_left hi] at e1
    rw [List.getElem?_append_left (by rw [← h.1]; exact hi)] at e2
    exact h.2 i b q e1 e2
  · rw [List.getElem?_append_right (by omega)] at e1
    rw [List.getElem?_append_right (by rw [← h.1]; omega), ← h.1] at e2
    cases hj : i - as.length with
    | zero =>
      rw [hj] at e1 e2
      simp at e1 e2
      rw [← e1, ← e2]; exact e
    | succ j => rw [hj] at e1; simp at e1
def rTu (K : PySem.W.Frag) : List V → Hp → VK → Prop := fun xs H Q => ∃ p ys, xs = [.ref p] ∧ ((SqL K H p ys ∧ ∀ l, H l = none → Q (.ref l) (upd H l (.tup ys))) ∨ (SqT K H p ys ∧ Q (.ref p) H))
section
variable {P : Program} {w : World} {K : PySem.W.Frag} {mg : Str → Option Value} {base : Heap}
abbrev pInit : List Str := ["self", "deeds", "rows", "tells", "start"]
abbrev nInit : List Str := ["self", "deeds", "rows", "tells", "start", "row"]
theorem scMInit : FnScope nInit pInit (defScope sMInit) := ⟨rfl, rfl, rfl, by decide +kernel, rfl, by decide +kernel, by decide +kernel⟩
abbrev MI (K : PySem.W.Frag) (f : Addr) (fd : FuncData) : Prop := FunD K "__init__" "Machine.__init__" (defArgs sMInit) (defBody sMInit) (defScope sMInit) [.int 0] [] f fd
theorem ok_minit {C f fCd fG fD fW fR fX fI fT fL : Addr} {fd fdCd fdG fdD fdW fdR fdX fdI fdT fdL : FuncData} (F : MI K f fd) (M : Tm K mg C) (T : Bt2 mg)
    (DCd : Df K mg "check_deeds" sCheckDeeds ["deeds"] fCd fdCd) (DG : Df K mg "check_group" sCheckGroup ["deeds"] fG fdG) (DD : Df K mg "check_different" sCheckDiff ["deeds"] fD fdD) (DW : Df K mg "is_word" sIsWord ["value"] fW fdW)
    (DR : Df K mg "check_rows" sCheckRows ["rows", "many"] fR fdR) (DX : Df K mg "is_index" sIsIndex ["value", "many"] fX fdX) (DI : Df K mg "is_integer" sIsInt ["value"] fI fdI)
    (DT : Df K mg "check_tells" sCheckTells ["tells", "many"] fT fdT) (DL : Df K mg "is_tell" sIsTell ["value"] fL fdL) : FnOk P w K mg base CX0 5 f fd pInit (spMInit K C) := by
  have GC : FnOk P w K mg base CX0 4 fCd fdCd ["deeds"] (spDeeds K) := ok_deeds DCd DG DD DW T
  have GR : FnOk P w K mg base CX0 3 fR fdR ["rows", "many"] (spRows K) := ok_rows DR DX DI T
  have GT : FnOk P w K mg base CX0 2 fT fdT ["tells", "many"] (spTells K) := ok_tells DT DL T
  have GX : FnOk P w K mg base CX0 2 fX fdX ["value", "many"] spIsIndex := ok_isindex DX DI T
  refine F.ok scMInit (fun vs H Q E h => ?_) (fun cdv A outer s H vs Q E hr h => ?_)
  · obtain ⟨x, dx, a, b, l, as, ws, rs, ss, st, rfl, _⟩ := h
    rfl
  · obtain ⟨x, dx, a, b, l, as, ws, rs, ss, st, rfl, hx, ha, hb, hR, hl, pt, k⟩ := h
    have hr2 : Room 2 _ := hr.mono (by decide)
    have hr3 : Room 3 _ := hr.mono (by decide)
    obtain ⟨t2, ht2, hq2⟩ : ∃ t2, PSs (cxOf CX0 P w K mg base nInit "Machine.__init__" (defScope sMInit) f cdv A outer s H E) ((defBody sMInit).drop 5) t2 ∧ ∀ (t : Addr) (H5 : Hp), H5 x = some (.ins C dx (putF "deeds" (.ref t) [])) →
        SqF H5 t (ws.map V.str) → SqL K H5 b (as.map V.ref) → RowsAt H5 as rs → SqL K H5 l (ss.map V.str) → Kept x H H5 → t2 { nx := fun _ H' => Q .non H', rt := Q } (start nInit [.ref x, .ref a, .ref b, .ref l, .int st]) H5 := by
      refine ⟨_, pss_cons (ps_fld (pv 0) (pe_callTy call_tuple_of (by rfl) T.tuple PyProof.Rows.boot_tuple (pa_cons (pe_lc (own := [("row", 5)]) (g := gName 5) (by rfl) scMInit.nd (pi_list (pv 2))
            (blkOk_by (own := [("row", 5)]) (N := nInit) (sc := defScope sMInit) (by decide +kernel)) (fun _ _ _ _ _ => pg_name (i := 5) scMInit.nd rfl (Or.inl rfl)) (fun _ _ _ _ _ => pts_nil)
            (fun _ _ _ _ _ => pe_callTy (r := rTu K) call_tuple_of (by rfl) T.tuple PyProof.Rows.boot_tuple (pa_cons (pv 5) pa_nil))) pa_nil)) rfl)
        (pss_cons (ps_fld (pv 0) (pe_callTy call_tuple_of (by rfl) T.tuple PyProof.Rows.boot_tuple (pa_cons (pv 3) pa_nil)) rfl)
        (pss_one (ps_fld (pv 0) (pv 4) rfl))), ?_⟩
      intro t H5 hx5 ht5 hb5 hR5 hl5 kk5
      refine ⟨_, rfl, b, rfl, ⟨_, hb5⟩, fun D hD => ?_⟩
      refine lc_list (K := K) (a := b) (xs := as.map V.ref) (fun i H' => Same H5 H' ∧ ∃ bs : List Addr, bs.length = i ∧ H' D = some (.lst (bs.map V.ref)) ∧ RowsT H' bs (rs.take i) ∧ ∀ q ∈ bs, q ≠ D) ?_ ?_ ?_ ?_
      · exact ⟨same_upd hD, [], rfl, upd_same, ⟨by simp, fun i a r e => by simp at e⟩, by simp⟩
      · exact fun i H' _ p => p.1.seq hb5
      · rintro i y H6 hi ⟨sm6, bs, hbs, hD6, hR6, hnD⟩
        rw [List.getElem?_map] at hi
        obtain ⟨ai, eai, rfl⟩ := Option.map_eq_some_iff.mp hi
        have hir : i < rs.length := by rw [← hR.1]; exact (List.getElem?_eq_some_iff.mp eai).1
        have eri : rs[i]? = some rs[i] := List.getElem?_eq_getElem hir
        have ha6 := sm6 _ _ (hR5.2 i ai _ eai eri)
        refine ⟨rfl, _, rfl, ai, _, rfl, .inl ⟨SqL.of ha6, fun q hq => ?_⟩⟩
        have nDq : D ≠ q := ne_of_none hD6 hq
        have h60 := pt.many.2
        refine ⟨_, (by rw [upd_ne nDq]; exact hD6), ?_, ?_, bs ++ [q], by simp [hbs], by rw [upd_same]; simp, ?_, ?_⟩
        · rw [List.length_map]; exact small1000 (by omega)
        · exact fun c o e => by rw [upd_ne (ne_of_none e hD), upd_ne (ne_of_none (sm6 _ _ e) hq)]; exact sm6 _ _ e
        · have e7 : RowsT (upd H6 q (.tup ((rs[i]).map V.int))) (bs ++ [q]) (rs.take i ++ [rs[i]]) := (hR6.same (same_upd hq)).snoc upd_same
          rw [List.take_add_one, eri]
          refine ⟨e7.1, fun j c r e1 e2 => ?_⟩
          have hm := List.mem_of_getElem? e1
          have : c ≠ D := by
            rcases List.mem_append.mp hm with h | h
            · exact hnD c h
            · rw [List.mem_singleton.mp h]; exact nDq.symm
          rw [upd_ne this]
          exact e7.2 j c r e1 e2
        · intro c hc
          rcases List.mem_append.mp hc with h | h
          · exact hnD c h
          · rw [List.mem_singleton.mp h]; exact nDq.symm
      · rintro H6 ⟨sm6, bs, hbs, hD6, hR6, hnD⟩
        have etk : rs.take (as.map V.ref).length = rs := by rw [List.length_map, hR.1, List.take_length]
        rw [etk] at hR6
        refine ⟨D, _, rfl, .inl ⟨SqL.of hD6, fun r hr7 => ?_⟩⟩
        have sr := same_upd (o := .tup (bs.map V.ref)) hr7
        have sm7 := sm6.trans sr
        have hx7 := sm7 _ _ hx5
        have hr7' : upd H6 r (.tup (bs.map V.ref)) r = some (.tup (bs.map V.ref)) := upd_same
        have hR7 := hR6.same sr
        have hl7 := sm7.seq hl5
        have ht7 := ht5.same sm7
        have kk7 : Kept x H (upd H6 r (.tup (bs.map V.ref))) := kk5.trans (.same sm7)
        generalize upd H6 r (.tup (bs.map V.ref)) = H7 at sm7 hx7 hr7' hR7 hl7 ht7 kk7 ⊢
        refine ⟨_, rfl, x, C, dx, _, rfl, hx7, M.cl, M.nR, (by show 1 < 1000; decide), ?_⟩
        have k8 : Kept x H7 (upd H7 x (.ins C dx (putF "rows" (.ref r) (putF "deeds" (.ref t) [])))) := Kept.self
        have hx8 : upd H7 x (.ins C dx (putF "rows" (.ref r) (putF "deeds" (.ref t) []))) x = some (.ins C dx (putF "rows" (.ref r) (putF "deeds" (.ref t) []))) := upd_same
        have hr8 := k8 _ _ hr7' (ne_of hr7' hx7 (by intro z; cases z))
        have hR8 := RowsT.kept k8 hx7 hR7
        have hl8 := k8.seqI hx7 hl7
        have ht8 := k8.seqFI hx7 ht7
        have kk8 := kk7.trans k8
        generalize upd H7 x (.ins C dx (putF "rows" (.ref r) (putF "deeds" (.ref t) []))) = H8 at k8 hx8 hr8 hR8 hl8 ht8 kk8 ⊢
        -- self.tells
        refine ⟨_, rfl, l, _, rfl, .inl ⟨hl8, fun l' hl9 => ?_⟩⟩
        have sl := same_upd (o := .tup (ss.map V.str)) hl9
        have hx9 := sl _ _ hx8
        have hl9' : upd H8 l' (.tup (ss.map V.str)) l' = some (.tup (ss.map V.str)) := upd_same
        have hr9 := sl _ _ hr8
        have hR9 := hR8.same sl
        have ht9 := ht8.same sl
        have kk9 : Kept x H (upd H8 l' (.tup (ss.map V.str))) := kk8.trans (.same sl)
        generalize upd H8 l' (.tup (ss.map V.str)) = H9 at hx9 hl9' hr9 hR9 ht9 kk9 ⊢
        refine ⟨_, rfl, x, C, dx, _, rfl, hx9, M.cl, M.nT, (by show 2 < 1000; decide), ?_⟩
        have k10 : Kept x H9 (upd H9 x (.ins C dx (putF "tells" (.ref l') (putF "rows" (.ref r) (putF "deeds" (.ref t) []))))) := Kept.self
        have hx10 : upd H9 x (.ins C dx (putF "tells" (.ref l') (putF "rows" (.ref r) (putF "deeds" (.ref t) [])))) x = some (.ins C dx (putF "tells" (.ref l') (putF "rows" (.ref r) (putF "deeds" (.ref t) [])))) := upd_same
        have hl10 := k10 _ _ hl9' (ne_of hl9' hx9 (by intro z; cases z))
        have hr10 := k10 _ _ hr9 (ne_of hr9 hx9 (by intro z; cases z))
        have hR10 := RowsT.kept k10 hx9 hR9
        have ht10 := k10.seqFI hx9 ht9
        have kk10 := kk9.trans k10
        generalize upd H9 x (.ins C dx (putF "tells" (.ref l') (putF "rows" (.ref r) (putF "deeds" (.ref t) [])))) = H10 at k10 hx10 hl10 hr10 hR10 ht10 kk10 ⊢
        -- self.start
        refine ⟨_, rfl, _, rfl, x, C, dx, _, rfl, hx10, M.cl, M.nS, (by show 3 < 1000; decide), ?_⟩
        have k11 : Kept x H10 (upd H10 x (.ins C dx (mf t r l' st))) := Kept.self
        exact k _ ⟨dx, t, r, l', bs, upd_same, k11.seqFI hx10 ht10, k11 _ _ hr10 (ne_of hr10 hx10 (by intro z; cases z)), RowsT.kept k11 hx10 hR10, k11 _ _ hl10 (ne_of hl10 hx10 (by intro z; cases z))⟩ (kk10.trans k11)
    have lnR : ∀ {H' : Hp}, Same H H' → LenV K (.ref b) H' rs.length := fun sm => .inl ⟨_, sm.seq hb, by rw [List.length_map, hR.1]⟩
    refine ⟨_, (pss_cons (ps_expr (pe_call GC hr rfl DCd.g DCd.F.kp DCd.b .nil pass0 (pa_cons (pv 1) pa_nil)))
      (pss_cons (ps_expr (pe_call GR hr3 rfl DR.g DR.F.kp DR.b .nil pass0 (pa_cons (pv 2) (pa_cons (pe_callB call_len (by rfl) T.len PySem.boot_len (pa_cons (pv 1) pa_nil)) pa_nil))))
      (pss_cons (ps_expr (pe_call GT hr2 rfl DT.g DT.F.kp DT.b .nil pass0 (pa_cons (pv 3) (pa_cons (pe_callB call_len (by rfl) T.len PySem.boot_len (pa_cons (pv 2) pa_nil)) pa_nil))))
      (pss_cons (ps_if (pt_not (pt_val (pe_call GX hr2 rfl DX.g DX.F.kp DX.b .nil pass0 (pa_cons (pv 4) (pa_cons (pe_callB call_len (by rfl) T.len PySem.boot_len (pa_cons (pv 2) pa_nil)) pa_nil))))) pss_never pss_nil)
      (pss_cons (ps_fld (pv 0) (pe_callTy call_tuple_of (by rfl) T.tuple PyProof.Rows.boot_tuple (pa_cons (pv 1) pa_nil)) rfl) ht2))))), ?_⟩
    refine ⟨_, rfl, a, ws, rfl, .inr ha.sq, pt.gd, fun H1 sm1 => ?_⟩
    refine ⟨_, rfl, _, rfl, _, ws.length, rfl, (by have := Sq.len (K := K) (.inr (ha.same sm1).sq); rwa [List.length_map] at this), b, ws.length, as, rs, rfl, sm1.seq hb, hR.same sm1, pt.many.1, pt.many.2, (by have := pt.gd.len.2; omega), pt.row, fun H2 sm2 => ?_⟩
    have s2 := sm1.trans sm2
    refine ⟨_, rfl, _, rfl, _, rs.length, rfl, lnR s2, l, ss, by rw [pt.tl.1]; rfl, s2.seq hl, pt.tl.2, by rw [pt.tl.1]; have := pt.many.2; omega, fun H3 sm3 => ?_⟩
    have s3 := s2.trans sm3
    refine ⟨_, rfl, _, rfl, _, rs.length, rfl, lnR s3, st, rs.length, rfl, pt.st.1, pt.st.2, true, rfl, ?_⟩
    refine iteF ?_
    have fin : ∀ (t : Addr) (H4 : Hp), SqF H4 t (ws.map V.str) → Same H3 H4 → t2 { nx := fun _ H' => Q .non H', rt := Q } (start nInit [.ref x, .ref a, .ref b, .ref l, .int st]) (upd H4 x (.ins C dx (putF "deeds" (.ref t) []))) := fun t H4 ht4 sm4 => by
      have s4 := s3.trans sm4
      have hx4 := s4 _ _ hx
      have k5 : Kept x H4 (upd H4 x (.ins C dx (putF "deeds" (.ref t) []))) := Kept.self
      exact hq2 t _ upd_same (k5.seqFI hx4 ht4) (k5.seqI hx4 (s4.seq hb)) (k5.rowsI hx4 (hR.same s4)) (k5.seqI hx4 (s4.seq hl)) ((Kept.same s4).trans k5)
    exact ⟨_, rfl, a, ws.map V.str, rfl, .inr ⟨(ha.same s3).sq, ⟨_, rfl, x, C, dx, _, rfl, s3 _ _ hx, M.cl, M.nD, (by show 0 < 1000; decide), fin a _ (ha.same s3) (Same.refl _)⟩⟩⟩
end
end K1
set_option Elab.async false
set_option linter.all false
set_option maxRecDepth 100000
namespace K1
open PySem L2
abbrev sMade : Stmt := top 53
theorem pk_deeds (t r l : Addr) (s : Int) : valV (plainK t r l s) kDeeds = some (.ref t) := valV_pos rfl
theorem pk_rows (t r l : Addr) (s : Int) : valV (plainK t r l s) kRows = some (.ref r) := by
  have h1 : ¬ (kDeeds = kRows) := by decide +kernel
  unfold plainK; rw [valV_neg h1]; exact valV_pos rfl
theorem pk_tells (t r l : Addr) (s : Int) : valV (plainK t r l s) kTells = some (.ref l) := by
  have h1 : ¬ (kDeeds = kTells) := by decide +kernel
  have h2 : ¬ (kRows = kTells) := by decide +kernel
  unfold plainK; rw [valV_neg h1, valV_neg h2]; exact valV_pos rfl
theorem pk_start (t r l : Addr) (s : Int) : valV (plainK t r l s) kStart = some (.int s) := by
  have h1 : ¬ (kDeeds = kStart) := by decide +kernel
  have h2 : ¬ (kRows = kStart) := by decide +kernel
  have h3 : ¬ (kTells = kStart) := by decide +kernel
  unfold plainK; rw [valV_neg h1, valV_neg h2, valV_neg h3]; exact valV_pos rfl
theorem gDeeds {H : Hp} {p t r l : Addr} {s : Int} (h : H p = some (.dK (plainK t r l s))) : DGet H p (.str "deeds") (some (.ref t)) := by have := DGet.k (k := kDeeds) h; rw [pk_deeds] at this; exact this
theorem gRows {H : Hp} {p t r l : Addr} {s : Int} (h : H p = some (.dK (plainK t r l s))) : DGet H p (.str "rows") (some (.ref r)) := by have := DGet.k (k := kRows) h; rw [pk_rows] at this; exact this
theorem gTells {H : Hp} {p t r l : Addr} {s : Int} (h : H p = some (.dK (plainK t r l s))) : DGet H p (.str "tells") (some (.ref l)) := by have := DGet.k (k := kTells) h; rw [pk_tells] at this; exact this
theorem gStart {H : Hp} {p t r l : Addr} {s : Int} (h : H p = some (.dK (plainK t r l s))) : DGet H p (.str "start") (some (.int s)) := by have := DGet.k (k := kStart) h; rw [pk_start] at this; exact this
def spMade (K : PySem.W.Frag) (C : Addr) : Sp := fun vs H Q _ => ∃ (p : Addr) (ws : List Str) (rs : List (List Int)) (ss : List Str) (st : Int), vs = [.ref p] ∧ PlainAt H p ws rs ss st ∧ Parts ws rs ss st ∧
  ∀ (x : Addr) (H' : Hp), H x = none → MachAt K C H' x ws rs ss st → Same H H' → Q (.ref x) H'
section
variable {P : Program} {w : World} {K : PySem.W.Frag} {mg : Str → Option Value} {base : Heap}
abbrev nMade : List Str := ["_law_plain_here", "_law_row"]
theorem scMade : FnScope nMade ["_law_plain_here"] (defScope sMade) := ⟨rfl, rfl, rfl, by decide +kernel, rfl, by decide +kernel, by decide +kernel⟩
def rLi (K : PySem.W.Frag) : List V → Hp → VK → Prop := fun xs H Q => ∃ p ys, xs = [.ref p] ∧ (SqL K H p ys ∨ SqT K H p ys) ∧ ∀ l, H l = none → Q (.ref l) (upd H l (.lst ys))
theorem ok_made {C f fI : Addr} {fd fdI : FuncData} (D : Df K mg "_law_made" sMade ["_law_plain_here"] f fd) (M : Tm K mg C) (T : Bt2 mg) (Mk' : Mk K C fI) (GI : FnOk P w K mg base CX0 5 fI fdI pInit (spMInit K C)) (bI : Binds K fdI pInit []) : FnOk P w K mg base CX0 7 f fd ["_law_plain_here"] (spMade K C) := by
  refine D.F.ok scMade (fun vs H Q E h => ?_) (fun cdv A outer s H vs Q E hr h => ?_)
  · obtain ⟨p, ws, rs, ss, st, rfl, _⟩ := h
    rfl
  · obtain ⟨p, ws, rs, ss, st, rfl, ⟨t, r, l, as, hp, ht, hr', hl, hR⟩, pt, k⟩ := h
    have hu := hu_of hr
    refine ⟨_, pss_one (ps_ret (pe_make Mk' GI hr rfl M.mgC bI .nil pass0 (pa_cons (pe_dget hu (pv 0) pe_str (fun _ _ => rfl))
      (pa_cons (pe_lc (own := [("_law_row", 1)]) (g := gName 1) (by rfl) scMade.nd (pi_list (pe_dget hu (pv 0) pe_str (fun _ _ => rfl)))
            (blkOk_by (own := [("_law_row", 1)]) (N := nMade) (sc := defScope sMade) (by decide +kernel)) (fun _ _ _ _ _ => pg_name (i := 1) scMade.nd rfl (Or.inl rfl)) (fun _ _ _ _ _ => pts_nil)
            (fun _ _ _ _ _ => pe_callTy (r := rLi K) call_list_of (by rfl) T.list PyProof.Rows.boot_list (pa_cons (pv 1) pa_nil)))
      (pa_cons (pe_callTy call_list_of (by rfl) T.list PyProof.Rows.boot_list (pa_cons (pe_dget hu (pv 0) pe_str (fun _ _ => rfl)) pa_nil))
      (pa_cons (pe_dget hu (pv 0) pe_str (fun _ _ => rfl)) pa_nil)))))), ?_⟩
    refine ⟨_, rfl, p, _, rfl, gDeeds hp, _, rfl, p, _, rfl, gRows hp, r, rfl, ⟨_, SqL.of hr'⟩, fun D1 hD => ?_⟩
    refine lc_list (K := K) (a := r) (xs := as.map V.ref) (fun i H' => Same H H' ∧ ∃ bs : List Addr, bs.length = i ∧ H' D1 = some (.lst (bs.map V.ref)) ∧ RowsAt H' bs (rs.take i) ∧ ∀ q ∈ bs, q ≠ D1) ?_ ?_ ?_ ?_
    · exact ⟨same_upd hD, [], rfl, upd_same, ⟨by simp, fun i a r e => by simp at e⟩, by simp⟩
    · exact fun i H' _ q => SqL.of (q.1 _ _ hr')
    · rintro i y H6 hi ⟨sm6, bs, hbs, hD6, hR6, hnD⟩
      rw [List.getElem?_map] at hi
      obtain ⟨ai, eai, rfl⟩ := Option.map_eq_some_iff.mp hi
      have hir : i < rs.length := by rw [← hR.1]; exact (List.getElem?_eq_some_iff.mp eai).1
      have eri : rs[i]? = some rs[i] := List.getElem?_eq_getElem hir
      have ha6 := sm6 _ _ (hR.2 i ai _ eai eri)
      refine ⟨rfl, _, rfl, ai, _, rfl, .inl (SqL.of ha6), fun q hq => ?_⟩
      have nDq : D1 ≠ q := ne_of_none hD6 hq
      have h60 := pt.many.2
      refine ⟨_, (by rw [upd_ne nDq]; exact hD6), ?_, ?_, bs ++ [q], by simp [hbs], by rw [upd_same]; simp, ?_, ?_⟩
      · rw [List.length_map]; exact small1000 (by omega)
      · exact fun c o e => by rw [upd_ne (ne_of_none e hD), upd_ne (ne_of_none (sm6 _ _ e) hq)]; exact sm6 _ _ e
      · have e7 : RowsAt (upd H6 q (.lst ((rs[i]).map V.int))) (bs ++ [q]) (rs.take i ++ [rs[i]]) := (hR6.same (same_upd hq)).snoc upd_same
        rw [List.take_add_one, eri]
        refine ⟨e7.1, fun j c r e1 e2 => ?_⟩
        have hm := List.mem_of_getElem? e1
        have : c ≠ D1 := by
          rcases List.mem_append.mp hm with h | h
          · exact hnD c h
          · rw [List.mem_singleton.mp h]; exact nDq.symm
        rw [upd_ne this]
        exact e7.2 j c r e1 e2
      · intro c hc
        rcases List.mem_append.mp hc with h | h
        · exact hnD c h
        · rw [List.mem_singleton.mp h]; exact nDq.symm
    · rintro H6 ⟨sm6, bs, hbs, hD6, hR6, hnD⟩
      have etk : rs.take (as.map V.ref).length = rs := by rw [List.length_map, hR.1, List.take_length]
      rw [etk] at hR6
      refine ⟨_, rfl, p, _, rfl, gTells (sm6 _ _ hp), l, _, rfl, .inl (SqL.of (sm6 _ _ hl)), fun l2 hl2 => ?_⟩
      have sl := same_upd (o := .lst (ss.map V.str)) hl2
      have s7 := sm6.trans sl
      refine ⟨_, rfl, p, _, rfl, gStart (s7 _ _ hp), ?_⟩
      intro x dx hx hdx ndx
      have zx : H x = none := s7.free hx
      have s8 : Same (upd H6 l2 (.lst (ss.map V.str))) (upd (upd (upd H6 l2 (.lst (ss.map V.str))) dx (.own x)) x (.ins C dx [])) := fun b o e => by
        rw [upd_ne (ne_of_none e hx), upd_ne (ne_of_none e hdx)]; exact e
      refine ⟨x, dx, t, D1, l2, bs, ws, rs, ss, st, rfl, upd_same, ((ht.same s7).same s8), SqL.of (s8 _ _ (sl _ _ hD6)), (hR6.same sl).same s8, SqL.of (s8 _ _ upd_same), pt, fun H9 hm hk => ⟨rfl, ?_⟩⟩
      exact k x H9 zx hm fun b o e => hk b o (s8 _ _ (s7 _ _ e)) (ne_of_none e zx)
end
end K1
set_option Elab.async false
set_option linter.all false
set_option maxRecDepth 100000
/-! the package's own errors: made from their fields, kept in their dict -/
namespace K1
open PySem L2
structure Oer (K : PySem.W.Frag) (mg : Str → Option Value) (x : Str) (fs : List Str) (C fI : Addr) (fd : FuncData) (qual : Str) (st : Stmt) : Prop where
  T : OexC K C
  xf : XfC K C
  g : mg x = some (.ref C)
  ini : PySem.W.findIn K (.ref C) "__init__" = some (some (.ref fI))
  tI : PySem.W.typeIn K (.ref fI) = some (.type "function")
  no : ∀ f ∈ fs, PySem.W.findIn K (.ref C) f = some none
  F : Fun K "__init__" qual st fI fd
  b : Binds K fd ("self" :: fs) []
def spIni (C : Addr) (fs : List Str) : Sp := fun vs H Q _ => ∃ (a : Addr) (ys : List V), vs = .ref a :: ys ∧ ys.length = fs.length ∧ H a = some (exo a C none) ∧
  ∀ dx, H dx = none → dx ≠ a → ∀ H', (∀ b o, H b = some o → b ≠ a → H' b = some o) → H' a = some (exo a C (some dx)) → H' dx = some (exd dx (fs.zip ys).reverse) → Q .non H'
/-- the reading of C(e, ..): d is the error's dict, new -/
theorem err_read {C : Addr} {fs : List Str} {vs : List V} {H1 : Hp} {Q : XK} (hl : fs.length ≤ 10) (e : vs.length = fs.length) (k : ∀ d G, Same H1 G → H1 d = none → G d = some (.xd (fs.zip vs).reverse) → Q (.ref C) (some d) G) :
    vs.length ≤ 1000 ∧ ∀ a, H1 a = none → spIni C fs (.ref a :: (vs ++ [])) (upd H1 a (exo a C none))
      (fun v H2 => v = .non ∧ ∃ (d : Addr) (gs : List (Str × V)), H2 a = some (exo a C (some d)) ∧ H2 d = some (exd d gs) ∧ H1 d = none ∧ Q (.ref C) (some d) (upd (del H2 a) d (.xd gs))) (fun _ _ _ => False) := by
  refine ⟨by omega, fun a ha => ?_⟩
  rw [List.append_nil]
  refine ⟨a, vs, rfl, e, upd_same, fun dx hdx ne H' keep ea ed => ⟨rfl, dx, _, ea, ed, ?_, ?_⟩⟩
  · rw [upd_ne ne] at hdx; exact hdx
  · have h1 : H1 dx = none := by rw [upd_ne ne] at hdx; exact hdx
    refine k dx _ (fun b o eb => ?_) h1 upd_same
    have nb : b ≠ a := ne_of_none eb ha
    rw [upd_ne (ne_of_none eb h1), del_ne nb]
    exact keep b o (by rw [upd_ne nb]; exact eb) nb
end K1
set_option Elab.async false
set_option linter.all false
set_option maxRecDepth 100000
/-! several clauses, each `except X as e`, of one name e -/
namespace K1
open PySem L2 PySem.Spec PyProof.Rows
def endsI (D : Ends) (i : Nat) : Ends := { nx := fun u G => D.nx (u.set i none) G, rt := D.rt, bk := fun u G => D.bk (u.set i none) G, ct := fun u G => D.ct (u.set i none) G }
def wAsAll (K : PySem.W.Frag) (i : Nat) (Wo : WX) (D : Ends) : List (Value × (Addr → Value → Option Addr → TS)) → WX
  | [] => Wo
  | p :: r => fun cl dd u G => ∃ b, PySem.W.exmOne K cl p.1 = some b ∧ (b = true → ∀ a, G a = none → p.2 a cl dd (endsI D i) (u.set i (some (.ref a))) G) ∧ (b = false → wAsAll K i Wo D r cl dd u G)
inductive AsOk (X : Cx) (n : Str) : List ExceptHandler → List (Value × (Addr → Value → Option Addr → TS)) → Prop
  | nil : AsOk X n [] []
  | cons {x : Str} {c : Value} {ts : Addr → Value → Option Addr → TS} {b₀ : Stmt} {suite : List Stmt} {np q : Pos} {hds : List ExceptHandler} {l : List (Value × (Addr → Value → Option Addr → TS))} (hc : Names X x c)
      (hsu : ∀ (a : Addr) (oe : Obj) (cl : Value) (dd : Option Addr) (pn : List (Addr × Obj)), Zc cl dd oe → (∃ vs, oe.data = .fields vs) → PSs (X.suite a ((a, oe) :: pn)) (b₀ :: suite) (ts a cl dd)) (r : AsOk X n hds l) :
      AsOk X n (.ExceptHandler (some (.Name x np)) (some n) (b₀ :: suite) q :: hds) ((c, ts) :: l)
section
variable {X : Cx} {n : Str} {i : Nat} {body : List Stmt} {h₀ : ExceptHandler} {hds : List ExceptHandler} {l : List (Value × (Addr → Value → Option Addr → TS))} {pos : Pos} {tb : WX → TS} {Wo : WX}
theorem ps_try_asAll (e0 : X.stack = X.env :: X.outer) (e1 : X.env.frame = some X.env.locals) (nd : X.N.Nodup) (hi : X.N[i]? = some n) (hln : X.env.kindOf n = some .local) (tk : Takes X Wo)
    (hb : ∀ (W : WX) (pn : List (Addr × Obj)) (xe : Value → Shared → Prop), Takes (X.tr pn xe) W → PassesOwn (model X.prog X.w) X.A X.env xe → PSs (X.tr pn xe) body (tb W))
    (hh : AsOk X n (h₀ :: hds) l) : PS X (.Try body (h₀ :: hds) [] [] pos) (fun D u G => tb (wAsAll X.K i Wo D l) D u G) := by
  refine ⟨fun pins s u G D I0 go0 => ?_⟩
  have ok := I0.ok
  have fr : X.A.frames = some (X.env :: X.outer) := by rw [ok.frames, e0]
  have lc : Loc X.env.scope n := .inl hln
  refine wpAny_Try_except ?_
  have run0 := (hb (wAsAll X.K i Wo D l) (X.pn ++ pins) (fun e s₁ => wpAny (model X.prog X.w) X.A (noteFrame e X.env) (fun _ s₂ => wpAny (model X.prog X.w) X.A (setFlight e none) (fun _ s₃ =>
    wpAny (model X.prog X.w) X.A (handleBy e X.env (h₀ :: hds)) (SP X pins D) X.xe s₃) X.xe s₂) X.xe s₁) (fun v s' xx => ?_) PassesOwn.looking).run [] s u G D (I0.toTry _) go0
  · refine wpAny_mono run0 (fun f s1 hsp => ?_) (fun e s1 he => he)
    cases f with
    | next => exact let ⟨u', G', J', q⟩ := hsp; wpAny_execs_nil ⟨u', G', J'.ofTry ok, q⟩
    | brk => exact let ⟨u', G', J', q⟩ := hsp; ⟨u', G', J'.ofTry ok, q⟩
    | cont => exact let ⟨u', G', J', q⟩ := hsp; ⟨u', G', J'.ofTry ok, q⟩
    | ret w => exact let ⟨v, u', G', J', r, q⟩ := hsp; ⟨v, u', G', J'.ofTry ok, r, q⟩
  · obtain ⟨a, B, sI, pins', u', G', cl, dd, rfl, J', nb, up, sky, na, os, ag, w⟩ := xx
    have J : Inv X pins u' G' sI := J'.ofTry ok
    have sk : Sky B (X.env :: X.outer) a (Zc cl dd) X.env.locals s'.heap := by rw [← e0]; exact sky
    show wpAny (model X.prog X.w) X.A (noteFrame (.ref a) X.env) _ _ _
    refine Sky.land Zc.steady fr e1 sk fun h3 fl3 up3 => ?_
    have J3 : Inv X pins u' G' { s' with heap := h3 } := J.landed nb fl3.1 (up.trans up3) os ag
    obtain ⟨oe3, vs3, he3, hz3, hd3⟩ := fl3.there
    have out : ∀ {h : Heap} {o : Obj} {vs : Array Value}, h.FunFrames B (X.env :: X.outer) → h.get? a = some o → o.data = .fields vs → a ∉ frs (X.env :: X.outer) := fun {h o vs} ff e hdt hm => by
      obtain ⟨_, o', e', hnf⟩ := ff.mem hm
      cases e.symm.trans e'
      exact hnf _ hdt
    have nfr := out fl3.2.2.1 he3 hd3
    have nL : a ≠ X.env.locals := fun z => nfr (List.mem_filterMap.mpr ⟨X.env, List.mem_cons_self, by rw [e1, z]⟩)
    have nF : a ∉ X.fs := fun hm => let ⟨e, he, q⟩ := List.mem_filterMap.mp hm; nfr (List.mem_filterMap.mpr ⟨e, List.mem_cons_of_mem _ he, q⟩)
    have S3 := J3.suite he3 hd3 na nL nF
    have go : ∀ {hs' : List ExceptHandler} {l' : List (Value × (Addr → Value → Option Addr → TS))}, AsOk X n hs' l' → wAsAll X.K i Wo D l' cl dd u' G' →
        wpAny (model X.prog X.w) X.A (handleBy (.ref a) X.env hs') (SP X pins D) X.xe { s' with heap := h3 } := by
      intro hs' l' hk
      induction hk with
      | nil =>
        intro w
        refine wpAny_handleBy_nil ?_
        obtain ⟨k1, k2, k3, oe, vs, T, oT, tz, he, hz, hd, h1, hr⟩ := id fl3
        unfold PySem.passOn
        refine wpAny_bind (wpAny_field he hd h1 ?_)
        rw [if_neg (show ¬ ((Value.ref T == Value.none) = true) by simp)]
        have fin : wpAny (model X.prog X.w) X.A (setFlight (.ref a) X.env.frame) (fun _ s4 => wpAny (model X.prog X.w) X.A (throw (.ref a) : Sem Flow) (SP X pins D) X.xe s4) X.xe { s' with heap := h3 } := by
          rw [e1]
          refine HandSPX.setFlight_upZ fl3 fun h4 hh4 up4 => wpAny_throw (tk _ _ ?_)
          exact ⟨a, B, sI, pins, u', G', cl, dd, rfl, J, nb, (up.trans up3).trans up4, .inr (.inr (by rw [e0]; exact hh4)), na, os, ag, w⟩
        first
          | exact wpAny_bind (wpAny_pure (wpAny_bind fin))
          | exact wpAny_bind fin
      | @cons x c ts b₀ suite np q0 hds2 l2 hc hsu r ih =>
        intro w
        obtain ⟨b, hb1, yes, no⟩ := w
        refine wpAny_handleBy_cons (codeAny_handlers_test ?_) (by intro q; cases q)
        have LT : PySem.W.Looks (model X.prog X.w) h3 (typeOf (.ref a)) cl := fun A Q E s k q => wpAny_typeOf_ref (k _ _ he3) (by rw [hz3.1]; exact q)
        have LM := PySem.W.exm_one (M := model X.prog X.w) (J3.kIn) LT hb1
        have test : ∀ {Q : Value → Shared → Prop} {E : Value → Shared → Prop}, Q c { s' with heap := h3 } → wpAny (model X.prog X.w) (X.A.mark (some (.ref a))) (eval (.Name x np) X.env) Q E { s' with heap := h3 } := fun {Q E} q => by
          rcases hc with ⟨hg, hdbg, hm | ⟨hm, hv, hnn⟩⟩
          · exact ld_glob (X := X.suite a ((a, oe3) :: (X.pn ++ pins))) S3 hg hm q hdbg
          · exact ld_blt (X := X.suite a ((a, oe3) :: (X.pn ++ pins))) S3 hg hm hv q hnn hdbg
        refine test (LM.here ?_)
        cases b with
        | true =>
          refine codeAny_handlers_suite_as (HandSPX.lands_againZ fl3 fun h4 fl4 up4 => ?_)
          have J4 : Inv X pins u' G' { s' with heap := h4 } := J.landed nb fl4.1 ((up.trans up3).trans up4) os ag
          obtain ⟨oe4, vs4, he4, hz4, hd4⟩ := fl4.there
          have S4 := J4.suite he4 hd4 na nL nF
          refine store_ok (X := X.suite a ((a, oe4) :: (X.pn ++ pins))) (v := .ref a) S4 nd hi lc rfl (fun s5 S5 => ?_) (.inr hln)
          refine wpAny_mono ((hsu a oe4 cl dd (X.pn ++ pins) hz4 ⟨_, hd4⟩).run [] s5 _ G' _ S5 (yes rfl a na)) (fun f s6 hsp => ?_) (fun _ _ z => False.elim z)
          have close : ∀ {u6 : L2.St} {G6 : Hp} {Q : Shared → Prop}, Inv (X.suite a ((a, oe4) :: (X.pn ++ pins))) [] u6 G6 s6 → (∀ s7, Inv X pins (u6.set i none) G6 s7 → Q s7) →
              wpAny (model X.prog X.w) X.A (do bindName X.env n .none; unbindBehindTheSuite X.env n q0) (fun _ s7 => Q s7) X.xe s6 := fun {u6 G6 Q} S6 hq => gone_ok (S6.unsuite ok) nd hi hln hq
          cases f with
          | next => exact let ⟨u6, G6, S6, q6⟩ := hsp; close S6 fun s7 J7 => ⟨_, _, J7, q6⟩
          | brk => exact let ⟨u6, G6, S6, q6⟩ := hsp; close S6 fun s7 J7 => ⟨_, _, J7, q6⟩
          | cont => exact let ⟨u6, G6, S6, q6⟩ := hsp; close S6 fun s7 J7 => ⟨_, _, J7, q6⟩
          | ret z => exact let ⟨v6, u6, G6, S6, r6, q6⟩ := hsp; close S6 fun s7 J7 => ⟨_, _, _, J7, r6, q6⟩
        | false =>
          show wpAny _ X.A (handleBy (.ref a) X.env hds2) _ _ _
          exact ih (no rfl)
    exact go hh w
end
end K1
set_option Elab.async false
set_option linter.all false
set_option maxRecDepth 100000
/-! repr of plain values; what is told of a making -/
namespace L2
open PySem PySem.Spec PyProof.Rows
def reprV : V → Str
  | .non => "None"
  | .bl b => if b then "True" else "False"
  | .int i => toString i
  | .str z => PySem.reprText z
  | _ => ""
def reprOk : V → Prop
  | .non => True
  | .bl _ => True
  | .int i => i.natAbs.log2 < 1920
  | .str z => (PySem.reprText z).length ≤ sizeLine
  | _ => False
def rRepr : List V → Hp → VK → Prop := fun xs H Q => ∃ v, xs = [v] ∧ reprOk v ∧ Q (.str (reprV v)) H
theorem call_repr_any {X : Cx} : CallR X (.builtin "repr") rRepr := by
  intro pins s σ H xs us Q I r h
  obtain ⟨v, rfl, ok, q⟩ := h
  cases v with
  | non =>
    obtain ⟨u, rfl, rv⟩ := vals1 r
    obtain rfl : u = Value.none := rv
    exact PySem.P.repr_of_none ⟨.str _, H, I.tok _, ⟨_, rfl⟩, q⟩
  | bl b =>
    obtain ⟨u, rfl, rv⟩ := vals1 r
    obtain rfl : u = Value.bool b := rv
    exact PySem.P.repr_of_bool ⟨.str _, H, I.tok _, ⟨_, rfl⟩, q⟩
  | int i =>
    obtain ⟨u, rfl, t, rfl⟩ := vals1 r
    exact PySem.P.repr_of_int ok ⟨.str _, H, I.tok _, ⟨_, rfl⟩, q⟩
  | str z =>
    obtain ⟨u, rfl, t, rfl⟩ := vals1 r
    exact PySem.P.repr_of_str ⟨.str _, H, I.tok _, ⟨_, rfl⟩, q⟩ ok
  | _ => exact ok.elim
end L2
set_option Elab.async false
set_option linter.all false
set_option maxRecDepth 100000
/-! what counts as an integer, an index, a word, a tell: of any value -/
namespace K1
open PySem L2
inductive Th (K : PySem.W.Frag) (H : Hp) : V → String → Prop
  | non : Th K H .non "NoneType"
  | bl (b : Bool) : Th K H (.bl b) "bool"
  | int (i : Int) : Th K H (.int i) "int"
  | str (z : Str) (hl : z.length ≤ 1000) : Th K H (.str z) "str"
  | tup {a : Addr} {xs : List V} (e : H a = some (.tup xs)) : Th K H (.ref a) "tuple"
  | lst {a : Addr} {xs : List V} (e : H a = some (.lst xs)) : Th K H (.ref a) "list"
  | dic {a : Addr} {kv : List (Key × V)} (e : H a = some (.dK kv)) : Th K H (.ref a) "dict"
theorem Th.ty {K : PySem.W.Frag} {H : Hp} {v : V} {t : String} (h : Th K H v t) : TyX K H v (.type t) := by
  cases h with
  | non => exact .base .non
  | bl b => exact .base (.bl b)
  | int i => exact .base (.int i)
  | str z => exact .base (.str z)
  | tup e => exact .base (.tup e)
  | lst e => exact .base (.lst e)
  | dic e => exact .base (.dK e)
theorem Th.same {K : PySem.W.Frag} {H H' : Hp} {v : V} {t : String} (h : Th K H v t) (s : Same H H') : Th K H' v t := by
  cases h with
  | non => exact .non
  | bl b => exact .bl b
  | int i => exact .int i
  | str z hl => exact .str z hl
  | tup e => exact .tup (s _ _ e)
  | lst e => exact .lst (s _ _ e)
  | dic e => exact .dic (s _ _ e)
def isStr : V → Bool | .str _ => true | _ => false
def isInt : V → Bool | .int _ => true | .bl _ => true | _ => false
def isBl : V → Bool | .bl _ => true | _ => false
def intB : V → Bool | .int _ => true | _ => false
def ixB (v : V) (m : Int) : Bool := match v with | .int i => decide (0 ≤ i) && decide (i < m) | _ => false
def wordL : List Nat → Bool
  | [] => false
  | c :: r => decide ((c :: r).length ≤ 12) && (decide (c ∈ LE) && (c :: r).all fun x => decide (x ∈ AL))
def wordB : V → Bool | .str z => wordL z.cps.toList | _ => false
def tellL (l : List Nat) : Bool := decide (1 ≤ l.length) && (decide (l.length ≤ 60) && l.all fun x => decide (x ∈ TL'))
def tellB : V → Bool | .str z => tellL z.cps.toList | _ => false
section
variable {K : PySem.W.Frag} {H : Hp} {v : V} {t : String}
theorem Th.kStr (h : Th K H v t) : PySem.W.kitOne K (.type t) (.type "str") = some (isStr v) := by cases h <;> first | exact kit_ty (r := true) (by decide +kernel) | exact kit_ty (r := false) (by decide +kernel)
theorem Th.kInt (h : Th K H v t) : PySem.W.kitOne K (.type t) (.type "int") = some (isInt v) := by cases h <;> first | exact kit_ty (r := true) (by decide +kernel) | exact kit_ty (r := false) (by decide +kernel)
theorem Th.kBl (h : Th K H v t) : PySem.W.kitOne K (.type t) (.type "bool") = some (isBl v) := by cases h <;> first | exact kit_ty (r := true) (by decide +kernel) | exact kit_ty (r := false) (by decide +kernel)
end
def spInt (K : PySem.W.Frag) : Sp := fun vs H Q _ => ∃ v t, vs = [v] ∧ Th K H v t ∧ Q (.bl (intB v)) H
def spIx (K : PySem.W.Frag) : Sp := fun vs H Q _ => ∃ v t m, vs = [v, .int m] ∧ Th K H v t ∧ Q (.bl (ixB v m)) H
def spWord (K : PySem.W.Frag) : Sp := fun vs H Q _ => ∃ v t, vs = [v] ∧ Th K H v t ∧ ∀ H', Same H H' → Q (.bl (wordB v)) H'
def spTell (K : PySem.W.Frag) : Sp := fun vs H Q _ => ∃ v t, vs = [v] ∧ Th K H v t ∧ ∀ H', Same H H' → Q (.bl (tellB v)) H'
section
variable {P : Program} {w : World} {K : PySem.W.Frag} {mg : Str → Option Value} {base : Heap}
theorem g_isint {f : Addr} {fd : FuncData} (D : Df K mg "is_integer" sIsInt ["value"] f fd) (T : Bt2 mg) : FnOk P w K mg base CX0 1 f fd ["value"] (spInt K) := by
  refine D.F.ok scIsInt (fun vs H Q E h => ?_) (fun cdv A outer s H vs Q E hr h => ?_)
  · obtain ⟨v, t, rfl, _⟩ := h
    rfl
  · obtain ⟨v, t, rfl, th, k⟩ := h
    refine ⟨_, pss_one (ps_ret (pe_and (pe_callB call_isi (by rfl) T.isinstance PyProof.Rows.boot_isinstance (pa_cons (pv 0) (pa_cons (pe_bltn (v := .ty "int") (by rfl) T.int PyProof.Rows.boot_int rfl) pa_nil)))
      (pe_one (pe_not (pe_callB call_isi (by rfl) T.isinstance PyProof.Rows.boot_isinstance (pa_cons (pv 0) (pa_cons (pe_bltn (v := .ty "bool") (by rfl) T.bool PyProof.Rows.boot_bool rfl) pa_nil))))))), ?_⟩
    refine ⟨_, rfl, _, _, _, _, isInt v, rfl, .ty "int", th.ty, th.kInt, isInt v, rfl, ?_⟩
    cases v with
    | int i => exact ⟨_, rfl, _, _, _, _, false, rfl, .ty "bool", th.ty, th.kBl, false, rfl, k⟩
    | bl b => exact ⟨_, rfl, _, _, _, _, true, rfl, .ty "bool", th.ty, th.kBl, true, rfl, k⟩
    | _ => exact k
theorem g_isindex {f fI : Addr} {fd fdI : FuncData} (D : Df K mg "is_index" sIsIndex ["value", "many"] f fd) (DI : Df K mg "is_integer" sIsInt ["value"] fI fdI) (T : Bt2 mg) : FnOk P w K mg base CX0 2 f fd ["value", "many"] (spIx K) := by
  have GI : FnOk P w K mg base CX0 1 fI fdI ["value"] (spInt K) := g_isint DI T
  refine D.F.ok scIsIndex (fun vs H Q E h => ?_) (fun cdv A outer s H vs Q E hr h => ?_)
  · obtain ⟨v, t, m, rfl, _⟩ := h
    rfl
  · obtain ⟨v, t, m, rfl, th, k⟩ := h
    refine ⟨_, pss_one (ps_ret (pe_and (pe_call GI hr rfl DI.g DI.F.kp DI.b .nil pass0 (pa_cons (pv 0) pa_nil)) (pe_one (pe_chain op_le op_lt pe_int (pv 0) (pv 1))))), ?_⟩
    refine ⟨_, rfl, v, t, rfl, th, intB v, rfl, ?_⟩
    cases v with
    | int i =>
      refine ⟨_, rfl, _, _, rfl, rfl, _, rfl, ?_⟩
      refine ite2 (fun h => ?_) (fun h => ?_)
      · refine ⟨_, rfl, _, _, rfl, rfl, ?_⟩
        have e : ixB (.int i) m = decide (i < m) := by
          show (decide (0 ≤ i) && decide (i < m)) = _
          rw [h]; rfl
        rw [e] at k
        exact k
      · have e : ixB (.int i) m = false := by
          show (decide (0 ≤ i) && decide (i < m)) = _
          rw [Bool.eq_false_iff.mpr h]; rfl
        rw [e] at k
        exact k
    | _ => exact k
end
end K1
set_option Elab.async false
set_option linter.all false
set_option maxRecDepth 100000
namespace K1
open PySem L2
/-- the signs of z held against a row of signs, one after the other -/
theorem all_signs {K : PySem.W.Frag} (A : List Nat) (l : List Nat) : ((l.map fun x => decide (x ∈ A)).all id) = l.all fun x => decide (x ∈ A) := by
  rw [List.all_map]; rfl
theorem take_snoc {l : List Nat} {i : Nat} {c : Nat} (h : l[i]? = some c) : l.take (i + 1) = l.take i ++ [c] := by
  rw [List.take_add_one, h]; rfl
section
variable {P : Program} {w : World} {K : PySem.W.Frag} {mg : Str → Option Value} {base : Heap}
theorem g_isword {f : Addr} {fd : FuncData} (D : Df K mg "is_word" sIsWord ["value"] f fd) (T : Bt2 mg) : FnOk P w K mg base CX0 1 f fd ["value"] (spWord K) := by
  refine D.F.ok scIsWord (fun vs H Q E h => ?_) (fun cdv A outer s H vs Q E hr h => ?_)
  · obtain ⟨v, t, rfl, _⟩ := h
    rfl
  · obtain ⟨v, t, rfl, th, k⟩ := h
    obtain ⟨tL, gL⟩ := T.LETTERS
    obtain ⟨tD, gD⟩ := T.DIGITS
    obtain ⟨tW, gW⟩ := T.LONGEST_WORD
    refine ⟨_, pss_cons (ps_if (PW.pt (pw_or (pt_not (pt_val (pe_callB call_isi (by rfl) T.isinstance PyProof.Rows.boot_isinstance (pa_cons (pv 0) (pa_cons (pe_bltn (v := .ty "str") (by rfl) T.str PyProof.Rows.boot_str rfl) pa_nil)))))
          (pw_or1 (pt_not (pt_chain op_le op_le pe_int (pe_callB call_len_str (by rfl) T.len PySem.boot_len (pa_cons (pv 0) pa_nil)) (pe_glob (v := .int 12) rfl gW ⟨_, rfl⟩))))))
        (pss_one (ps_ret pe_bl)) pss_nil)
      (pss_one (ps_ret (pe_and (pe_cmpR op_in_sign (pe_ix ix_str (pv 0) pe_int (fun _ _ => rfl)) (pe_glob (v := .str zLE) rfl gL ⟨_, rfl⟩) rfl)
        (pe_one (pe_callB (cr_all rfl) (by rfl) T.all PyProof.Rows.boot_all (pa_cons (pe_lc (own := [("sign", 1)]) (g := gName 1) (by rfl) scIsWord.nd (pi_str (pv 0))
          (blkOk_by (own := [("sign", 1)]) (N := ["value", "sign"]) (sc := defScope sIsWord) (by decide +kernel)) (fun _ _ _ _ _ => pg_name (i := 1) scIsWord.nd rfl (Or.inl rfl)) (fun _ _ _ _ _ => pts_nil)
          (fun _ _ _ _ _ => pe_cmpR op_in_sign (pv 1) (pe_op op_add_str (pe_glob (v := .str zLE) rfl gL ⟨_, rfl⟩) (pe_glob (v := .str zDG) rfl gD ⟨_, rfl⟩)) rfl)) pa_nil)))))), ?_⟩
    refine ⟨_, rfl, _, _, _, _, isStr v, rfl, .ty "str", th.ty, th.kStr, isStr v, rfl, ?_⟩
    cases th with
    | str z hl1 =>
      refine iteF ?_
      have hzl : z.length ≤ sizeLine := Nat.le_trans hl1 (by decide)
      have elen : z.length = z.cps.toList.length := len_tl z
      refine ⟨_, rfl, _, rfl, hzl, _, _, rfl, rfl, _, rfl, ?_⟩
      refine ite2 (fun h1 => ?_) (fun h1 => ?_)
      · have h1' : (1 : Int) ≤ (z.length : Int) := of_decide_eq_true h1
        refine ⟨_, _, rfl, rfl, _, rfl, ?_⟩
        refine ite2 (fun h2 => ?_) (fun h2 => ?_)
        · have e : wordB (.str z) = false := by
            have hn : ¬ z.cps.toList.length ≤ 12 := by
              intro hc
              have : decide ((z.length : Int) ≤ 12) = true := decide_eq_true (by omega)
              rw [this] at h2; exact absurd h2 (by decide)
            show wordL z.cps.toList = false
            cases hz : z.cps.toList with
            | nil => rfl
            | cons c r => rw [hz] at hn; show (decide _ && _) = false; rw [decide_eq_false hn]; rfl
          have := k H (Same.refl H)
          rw [e] at this
          exact this
        · have h12 : z.cps.toList.length ≤ 12 := by
            have : decide ((z.length : Int) ≤ 12) = true := by
              cases hd : decide ((z.length : Int) ≤ 12) with
              | true => rfl
              | false => rw [hd] at h2; exact absurd rfl h2
            have := of_decide_eq_true this
            omega
          obtain ⟨c, r, ez⟩ : ∃ c r, z.cps.toList = c :: r := by
            cases hz : z.cps.toList with
            | nil => rw [hz] at elen; simp at elen; omega
            | cons c r => exact ⟨c, r, rfl⟩
          have ew : wordB (.str z) = (decide (c ∈ LE) && z.cps.toList.all fun x => decide (x ∈ AL)) := by
            show wordL z.cps.toList = _
            rw [ez]
            show (decide _ && _) = _
            rw [ez] at h12
            rw [decide_eq_true h12]; rfl
          refine ⟨_, rfl, z, _, c, rfl, rfl, hzl, ?_, c, zLE, rfl, rfl, decide (c ∈ LE), rfl, ?_⟩
          · rw [ez]; exact atI_nat (j := 0) rfl
          refine ite2 (fun hc => ?_) (fun hc => ?_)
          · refine ⟨_, rfl, z, rfl, fun D hD => ?_⟩
            refine lc_it (walk_str (z := z)) (fun i H' => Same H H' ∧ H' D = some (.lst ((((z.cps.toList.take i).map fun x => decide (x ∈ AL))).map V.bl))) ?_ ?_ ?_ ?_
            · exact ⟨same_upd hD, upd_same⟩
            · exact fun _ _ _ _ => trivial
            · rintro i x H1 H2 hi ⟨sm, hD1⟩ ⟨rfl, c', hc', rfl⟩
              have hi' : z.cps.toList[i]? = some c' := by simpa using hc'
              refine ⟨rfl, _, rfl, _, _, rfl, rfl, by decide +kernel, c', zLE ++ zDG, rfl, rfl, _, hD1, ?_, ?_, ?_⟩
              · rw [List.length_map, List.length_map, List.length_take]; exact small1000 (by omega)
              · exact fun b o e => by rw [upd_ne (ne_of_none e hD)]; exact sm b o e
              · rw [upd_same, take_snoc hi']
                simp [AL_eq]
            · rintro H1 ⟨sm, hD1⟩
              refine ⟨D, _, rfl, SqL.of hD1, ?_⟩
              have e : ((z.cps.toList.take z.cps.size).map fun x => decide (x ∈ AL)).all id = wordB (.str z) := by
                have hs : z.cps.size = z.cps.toList.length := by simp
                rw [hs, List.take_length, all_signs (K := K), ew, hc]; rfl
              rw [e]
              exact k H1 sm
          · have e : wordB (.str z) = decide (c ∈ LE) := by
              rw [ew, Bool.eq_false_iff.mpr hc]; rfl
            have := k H (Same.refl H)
            rw [e] at this
            have e2 := Bool.eq_false_iff.mpr hc
            rw [e2] at this
            exact this
      · have e : wordB (.str z) = false := by
          have hn : z.cps.toList = [] := by
            cases hz : z.cps.toList with
            | nil => rfl
            | cons c r => exact absurd (decide_eq_true (by rw [elen, hz]; simp; omega)) h1
          show wordL z.cps.toList = false
          rw [hn]; rfl
        have := k H (Same.refl H)
        rw [e] at this
        exact ⟨_, rfl, this⟩
    | _ => exact k H (Same.refl H)
end
end K1
set_option Elab.async false
set_option linter.all false
set_option maxRecDepth 100000
set_option maxHeartbeats 2000000
/-! a lambda handed to a def that calls it in a try: what is raised is told of the very slots -/
namespace K1
open PySem PySem.Spec PyProof.Rows L2 LamX
/-- a def whose code object is known -/
structure FunC (K : PySem.W.Frag) (x qual : Str) (st : Stmt) (f : Addr) (fd : FuncData) (c : Addr) : Prop where
  ex : ∃ (oc : Value) (od : Option Addr) (kV doc pm : Value) (an : Option Addr) (ct : Value) (osl : Array (Option Value)),
    fd = PySem.W.fnOf x qual (defArgs st) (defBody st) (defScope st) .none kV doc pm an (.ref c) ct ∧ K.lookup f = some ⟨oc, od, .func fd, osl⟩ ∧ PySem.W.codeIn K (.ref c) qual = true
  kp : PySem.W.keepIn K (.ref f) = true
theorem FunC.toFun {K : PySem.W.Frag} {x qual : Str} {st : Stmt} {f c : Addr} {fd : FuncData} (F : FunC K x qual st f fd c) : L2.Fun K x qual st f fd :=
  let ⟨oc, od, kV, doc, pm, an, ct, osl, e, l, cc⟩ := F.ex
  ⟨⟨oc, od, kV, doc, pm, an, _, ct, osl, e, l, cc⟩, F.kp⟩
section
variable {P : Program} {w : World} {K : PySem.W.Frag} {mg : Str → Option Value} {base : Heap}
theorem FunC.ok {x qual : Str} {st : Stmt} {f c : Addr} {fd : FuncData} {N ps : List Str} {k : Nat} {sp : Sp} (F : FunC K x qual st f fd c) (S : FnScope N ps (defScope st)) (len : ∀ vs H Q E, sp vs H Q E → vs.length = ps.length)
    (body : ∀ (A : Around) (outer : List Env) (s : Shared) (H : Hp) (vs : List V) (Q : VK) (E : XK), Room k (A.deeper (envOfC qual (defScope st) s.heap.objs.size f (.ref c))) → sp vs H Q E →
      ∃ t, PSs (cxOf L2.CX0 P w K mg base N qual (defScope st) f (.ref c) A outer s H E).nox (defBody st) t ∧ t { nx := fun _ H' => Q .non H', rt := Q } (L2.start N vs) H) : FnOk P w K mg base L2.CX0 (k + 1) f fd ps sp := by
  obtain ⟨oc, od, kV, doc, pm, an, ct, osl, rfl, l, cc⟩ := F.ex
  exact fn_of l cc S len fun A outer s H vs Q E hr h => (body A outer s H vs Q E hr h).imp fun t ht => ⟨ht.1.nox, ht.2⟩
end
end K1
namespace LamX
open PySem L2 K1
/-! what is kept when a lambda is made -/
theorem ExtN.tup {H H' : Hp} (e : ExtN H H') {a : Addr} {xs : List V} (h : H a = some (.tup xs)) : H' a = some (.tup xs) := e _ _ h fun ps => by intro z; cases z
theorem ExtN.lst {H H' : Hp} (e : ExtN H H') {a : Addr} {xs : List V} (h : H a = some (.lst xs)) : H' a = some (.lst xs) := e _ _ h fun ps => by intro z; cases z
theorem ExtN.ins {H H' : Hp} (e : ExtN H H') {a C dx : Addr} {fs : List (Str × V)} (h : H a = some (.ins C dx fs)) : H' a = some (.ins C dx fs) := e _ _ h fun ps => by intro z; cases z
theorem ExtN.dk {H H' : Hp} (e : ExtN H H') {a : Addr} {kv : List (Key × V)} (h : H a = some (.dK kv)) : H' a = some (.dK kv) := e _ _ h fun ps => by intro z; cases z
theorem ExtN.seqT {K : PySem.W.Frag} {H H' : Hp} {a : Addr} {xs : List V} (e : ExtN H H') (h : SqT K H a xs) : SqT K H' a xs := by
  rcases h with (h | ⟨o, h⟩) | h
  · exact .inl (.inl (e.tup h))
  · exact .inl (.inr ⟨o, e _ _ h fun ps => by intro z; cases z⟩)
  · exact .inr h
theorem ExtN.seqL {K : PySem.W.Frag} {H H' : Hp} {a : Addr} {xs : List V} (e : ExtN H H') (h : SqL K H a xs) : SqL K H' a xs := by
  rcases h with (h | ⟨o, h⟩) | h
  · exact .inl (.inl (e.lst h))
  · exact .inl (.inr ⟨o, e _ _ h fun ps => by intro z; cases z⟩)
  · exact .inr h
theorem ExtN.pen {H H' : Hp} (e : ExtN H H') {d c : Addr} {n : Nat} (h : PenAt H d c n) : PenAt H' d c n := by
  obtain ⟨ns, a, l, h1, h2, h3⟩ := h
  exact ⟨ns, a, l, e.dk h1, e.lst h2, h3⟩
end LamX
namespace K1
open PySem PySem.Spec PyProof.Rows L2 LamX
/-- all but d and the tables is kept -/
def KeptN (d : Addr) (H H' : Hp) : Prop := ∀ b o, H b = some o → b ≠ d → (∀ ps, o ≠ .tbl ps) → H' b = some o
theorem KeptN.refl (d : Addr) (H : Hp) : KeptN d H H := fun _ _ e _ _ => e
theorem KeptN.trans {d : Addr} {H H1 H2 : Hp} (a : KeptN d H H1) (b : KeptN d H1 H2) : KeptN d H H2 := fun c o e n m => b c o (a c o e n m) n m
theorem KeptN.seqL {K : PySem.W.Frag} {d : Addr} {H H' : Hp} {a : Addr} {xs : List V} (e : KeptN d H H') (n : a ≠ d) (h : SqL K H a xs) : SqL K H' a xs := by
  rcases h with (h | ⟨o, h⟩) | h
  · exact .inl (.inl (e _ _ h n fun ps => by intro z; cases z))
  · exact .inl (.inr ⟨o, e _ _ h n fun ps => by intro z; cases z⟩)
  · exact .inr h
theorem KeptN.seqT {K : PySem.W.Frag} {d : Addr} {H H' : Hp} {a : Addr} {xs : List V} (e : KeptN d H H') (n : a ≠ d) (h : SqT K H a xs) : SqT K H' a xs := by
  rcases h with (h | ⟨o, h⟩) | h
  · exact .inl (.inl (e _ _ h n fun ps => by intro z; cases z))
  · exact .inl (.inr ⟨o, e _ _ h n fun ps => by intro z; cases z⟩)
  · exact .inr h
theorem KeptN.upd {d D : Addr} {H0 H : Hp} {o : HO} (k : KeptN d H0 H) (h : H0 D = none) : KeptN d H0 (upd H D o) := fun b u e nb m => by
  rw [upd_ne (ne_of_none e h)]; exact k b u e nb m
theorem KeptN.tup {d : Addr} {H H' : Hp} {a : Addr} {xs : List V} (e : KeptN d H H') (n : a ≠ d) (h : H a = some (.tup xs)) : H' a = some (.tup xs) := e _ _ h n fun ps => by intro z; cases z
theorem KeptN.lst {d : Addr} {H H' : Hp} {a : Addr} {xs : List V} (e : KeptN d H H') (n : a ≠ d) (h : H a = some (.lst xs)) : H' a = some (.lst xs) := e _ _ h n fun ps => by intro z; cases z
theorem KeptN.ins {d : Addr} {H H' : Hp} {a C dx : Addr} {fs : List (Str × V)} (e : KeptN d H H') (n : a ≠ d) (h : H a = some (.ins C dx fs)) : H' a = some (.ins C dx fs) := e _ _ h n fun ps => by intro z; cases z
theorem Kept.n {d : Addr} {H H' : Hp} (k : Kept d H H') : KeptN d H H' := fun b o e n _ => k b o e n
end K1
namespace LamX
open PySem L2 K1
theorem ExtN.n {d : Addr} {H H' : Hp} (k : ExtN H H') : KeptN d H H' := fun b o e _ m => k b o e m
theorem Tabs.kept {T : List (Addr × Str)} {d : Addr} {kv : List (Key × V)} {H H' : Hp} (t : Tabs T H) (hd : H d = some (.dK kv)) (k : Kept d H H') : Tabs T H' := fun p hp => by
  obtain ⟨ps, h1, h2, h3⟩ := t p hp
  refine ⟨ps, k _ _ h1 (ne_of h1 hd (by intro z; cases z)), h2, fun pos cv hc => ?_⟩
  obtain ⟨c, e1, e2⟩ := h3 pos cv hc
  exact ⟨c, e1, k _ _ e2 (ne_of e2 hd (by unfold CodeO; intro z; cases z))⟩
theorem Tabs.same {T : List (Addr × Str)} {H H' : Hp} (t : Tabs T H) (s : L2.Same H H') : Tabs T H' := t.ext s
theorem Tabs.updL {T : List (Addr × Str)} {H : Hp} {L : Addr} {xs ys : List V} (t : Tabs T H) (h : H L = some (.lst xs)) : Tabs T (upd H L (.lst ys)) := fun p hp => by
  obtain ⟨ps, h1, h2, h3⟩ := t p hp
  refine ⟨ps, by rw [upd_ne (ne_of h1 h (by intro z; cases z))]; exact h1, h2, fun pos cv hc => ?_⟩
  obtain ⟨c, e1, e2⟩ := h3 pos cv hc
  exact ⟨c, e1, by rw [upd_ne (ne_of e2 h (by unfold CodeO; intro z; cases z))]; exact e2⟩
theorem Tabs.pen {T : List (Addr × Str)} {d c : Addr} {n : Nat} {H H' : Hp} (t : Tabs T H) (p : PenAt H d c n) (k : Kept d H H') : Tabs T H' := by
  obtain ⟨ns, x, l, hd, _⟩ := p
  exact t.kept hd k
end LamX
namespace K1
open PySem PySem.Spec PyProof.Rows L2 LamX
section
variable {X : Cx} {pins : List (Addr × Obj)} {σ : L2.St} {H : Hp} {s : Shared}
/-- the call of the handed lambda; what it raises is taken at the slots as they are -/
theorem pe_actS {GX : CXT} {GE : XK} {GN : List Str} {gq : Str} {gs : Scope} {g f c' : Addr} {gcd pm ctv : Value} {params : Arguments} {body : Expr} {scope : Scope} {k i : Nat} {a : Str} {pn : List (Addr × Obj)} {xe : Value → Shared → Prop} {W : WX} {tb : XK → TE} {p1 p2 : Pos}
    (I : Inv X pins σ H s) (L : LamS X.env.scope scope) (hf : s.heap.get? f = some (PySem.W.kla_obj "<lambda>" (X.env.qual ++ "<lambda>") params body scope (cloFrom X.env.cells scope.names []) pm c' ctv)) (hfn : H f = none) (hfr : f ∉ frs X.stack)
    (bind0 : bindArgs (PySem.W.kla_fn "<lambda>" (X.env.qual ++ "<lambda>") params body scope (cloFrom X.env.cells scope.names []) pm (.ref c') ctv) ⟨[], []⟩ = pure [])
    (tk : Takes ((cxOf GX X.prog X.w X.K X.mg X.base GN gq gs g gcd X.A X.stack s H GE).tr pn xe) W) (hr : Room (k + 1) (X.A.deeper (envOfC gq gs s.heap.objs.size g gcd)))
    (inner : ∀ (A : Around) (outer : List Env) (s2 : Shared) (H2 : Hp) (E : XK), Room k (A.deeper (lamEnv X scope s2.heap.objs.size f c')) → PE (lamCx X A outer s2 H2 E scope f c') body (tb E))
    (hN : GN[i]? = some a) (hv : Vis gs a) (hd : (a == ("__debug__" : Str)) = false := by decide) (hcd : (a == ("__classdict__" : Str)) = false := by decide) :
    PE ((cxOf GX X.prog X.w X.K X.mg X.base GN gq gs g gcd X.A X.stack s H GE).tr pn xe) (.Call (.Name a p1) [] [] p2)
      (fun τ G Q => τ[i]? = some (some (.ref f)) ∧ G c' = some (CodeO c' (X.env.qual ++ "<lambda>")) ∧ tb (fun cls dd G' => W cls dd τ G') σ G Q) := by
  constructor
  intro pz sz τ G Q J ⟨at_, co, go⟩
  refine wpAny_Call_Name_kw (thn ((pe_var (pos := p1) (i := i) hN hv hd hcd).run pz sz τ G (fun v G1 => v = .ref f ∧ G1 = G) J ⟨.ref f, at_, rfl, rfl⟩) ?_)
  rintro u s1 ⟨v, G1, J1, rel, rfl, rfl⟩
  cases (show u = Value.ref f from rel)
  have held : s1.heap.get? f = some (PySem.W.kla_obj "<lambda>" (X.env.qual ++ "<lambda>") params body scope (cloFrom X.env.cells scope.names []) pm c' ctv) :=
    J1.base.keep f _ hf hfn hfr fun z => absurd (show f ∈ ([] : List Addr) from z) (by simp)
  refine PySem.W.callWith_F0 ⟨_, _, _, _, held⟩ ?_
  have base : Un (frs X.stack) [] H G1 s.heap s1.heap := J1.base
  obtain ⟨⟨oc, vs, t, k1, k2, k3⟩, -, -⟩ := J1.hok c' _ co
  have ran : codeAny (model X.prog X.w) (X.A.deeper (envOfC gq gs s.heap.objs.size g gcd)) (.call (.ref f) ⟨[], []⟩)
      (CR (L2.CX X.prog X.w) (envOfC gq gs s.heap.objs.size g gcd :: X.stack) X.prog X.w G1 s1 Q (fun cls dd G' => W cls dd τ G')) s1 := by
    refine PySem.W.kla_callFunE hr.depth held rfl L.co L.gen rfl ⟨c', oc, vs, t, rfl, k1, k2, k3⟩ ?_
    rw [bind0]
    refine wpAny_pure (wpAny_newFunctionEnv (fun y hy => (L.own y hy).2) (fun y hy => absurd hy (by simp)) (fun h₁ ns bt => ?_) L.kind)
    have up : ∀ b o, s1.heap.get? b = some o → h₁.get? b = some o := fun b o e =>
      bt.extBut b o (Nat.ne_of_lt (Heap.lt_size e)) (Heap.get?_push_of_some _ e)
    refine ⟨J1.nolimit.fresh _ bt, PySem.W.kla_codeExpr ?_⟩
    have start : Inv (lamCx X (X.A.deeper (envOfC gq gs s.heap.objs.size g gcd)) (envOfC gq gs s.heap.objs.size g gcd :: X.stack) s1 G1 (fun cls dd G' => W cls dd τ G') scope f c') [] σ G1
        { s1 with heap := h₁, toks := s1.toks + ([] : List (Str × Value)).length } := lam_start2 I L J1.env0 hr.hd base ns up
    refine wpAny_mono ((inner _ _ s1 G1 _ (hr.deeper _)).run [] _ _ G1 Q start go) ?_ fun e s' q => q
    rintro v s' ⟨w', G2, J2, rv, q⟩
    exact ⟨w', G2, J2.os, J2.bare, J2.base, J2.hok, rv, q⟩
  refine wpAny_call (codeAny_mono ran fun r s' q => ?_)
  match r, q with
  | .error e, q => exact passAt tk τ pz G1 s1 e s' J1 q
  | .ok (.ret u), q => exact J1.after q
end
/-- what the def g, which calls what it got, makes of the lambda's reading -/
def Gives (X : Cx) (GN : List Str) (x : Str) (gs : Scope) (g : Addr) (gcd : Value) (gb : List Stmt) (a q : Str) (TT : (XK → Hp → VK → Prop) → Hp → VK → Prop) : Prop :=
  ∀ (f c' : Addr) (s : Shared) (H : Hp) (Q : VK) (tl : XK → Hp → VK → Prop),
    (∀ (W : WX) (pn : List (Addr × Obj)) (xe : Value → Shared → Prop) (p1 p2 : Pos), Takes ((cxOf L2.CX0 X.prog X.w X.K X.mg X.base GN x gs g gcd X.A X.stack s H L2.E0).tr pn xe) W →
      PE ((cxOf L2.CX0 X.prog X.w X.K X.mg X.base GN x gs g gcd X.A X.stack s H L2.E0).tr pn xe) (.Call (.Name a p1) [] [] p2) (fun τ G Q => τ[0]? = some (some (.ref f)) ∧ G c' = some (CodeO c' q) ∧ tl (fun cls dd G' => W cls dd τ G') G Q)) →
    H c' = some (CodeO c' q) → TT tl H Q → ∃ t, PSs (cxOf L2.CX0 X.prog X.w X.K X.mg X.base GN x gs g gcd X.A X.stack s H L2.E0).nox gb t ∧ t { nx := fun _ G => Q .non G, rt := Q } (L2.start GN [.ref f]) H
section
variable {X : Cx}
/-- g(lambda: body) -/
theorem pe_lamS {T : List (Addr × Str)} {TT : (XK → Hp → VK → Prop) → Hp → VK → Prop} {x a : Str} {g c P : Addr} {k : Nat} {st : Stmt} {fd : FuncData} {GN : List Str} {params : Arguments} {body : Expr} {scope : Scope} {t : XK → TE} {p lp pos : Pos}
    (D : Df X.K X.mg x st [a] g fd) (S : FnScope GN [a] (defScope st)) (at0 : GN[0]? = some a) (va : Vis (defScope st) a) (gl : Gl X x)
    (gives : ∀ gcd, Gives X GN x (defScope st) g gcd (defBody st) a (X.env.qual ++ "<lambda>") TT) (B : TabB X.base X.mg c P) (code : X.env.code = .ref c) (mem : (P, X.env.qual ++ "<lambda>") ∈ T) (uni : ∀ p ∈ T, p.1 = P → p.2 = X.env.qual ++ "<lambda>")
    (hr : Room (k + 2) X.A) (L : LamS X.env.scope scope) (inner : ∀ (A : Around) (outer : List Env) (s2 : Shared) (H2 : Hp) (E : XK) (f c' : Addr), Room k (A.deeper (lamEnv X scope s2.heap.objs.size f c')) → PE (lamCx X A outer s2 H2 E scope f c') body (t E))
    (d0 : defaultsOf params X.env = ([], []) := by rfl) (bind0 : ∀ (q : Str) (cl : List (Str × Addr)) (pm cv ctv : Value), bindArgs (PySem.W.kla_fn "<lambda>" q params body scope cl pm cv ctv) ⟨[], []⟩ = pure [] := by intros; rfl)
    (hdb : (x == ("__debug__" : Str)) = false := by decide) (hd : (a == ("__debug__" : Str)) = false := by decide) (hcd : (a == ("__classdict__" : Str)) = false := by decide) :
    PE X (.Call (.Name x p) [.Lambda params body scope lp] [] pos) (tLam T TT t) := by
  obtain ⟨oc, od, kV, doc, pm, an, gcd, ct, osl, rfl, lk, cg⟩ := D.F.ex
  constructor
  intro pins s σ H Q I ⟨hT, h⟩
  refine wpAny_Call_Name_kw (ld_glob I gl D.g ?_ hdb)
  refine PySem.W.callWith_K (h₀ := X.base) I.ok.mod.kin D.F.kp ?_ (by rfl) (by rfl)
  show wpAny _ _ (spliced ((false, eval (.Lambda params body scope lp) X.env) :: backTo pos (starEach [] X.env))) _ _ s
  refine Calls.spliced_cons (lam_make2 I B code mem uni hT d0 (L.has I.ok) ?_)
  intro f c' pm' ctv H1 s' I1 eN T1 hf hfn hfr hco
  refine Calls.spliced_nil ⟨I1.kIn, wpAny_call (codeAny_mono ?_ fun r s2 (q : CR L2.CX0 X.stack X.prog X.w H1 s' Q L2.E0 r s2) => ?_)⟩
  · refine run_ofS (N := GN) (ps := [a]) (us := [.ref f]) (vs := [.ref f]) lk cg S hr I1.env0 (D.b s' [.ref f] I1.kIn rfl) (.cons rfl .nil) rfl fun hr' => ?_
    obtain ⟨t', ht', hq'⟩ := gives gcd f c' s' H1 Q (fun E G Q' => t E σ G Q')
      (fun W pn xe p1 p2 tk => pe_actS (i := 0) I1 L hf hfn hfr (bind0 _ _ _ _ _) tk hr' (fun A outer s2 H2 E hr2 => inner A outer s2 H2 E f c' hr2) at0 va hd hcd) hco (h H1 eN T1)
    exact ⟨t', ht'.nox, hq'⟩
  · match r, q with
    | .ok (.ret u), q => exact I1.after q
end
/-- try: a() / except C as e: .. / .. ; return None -/
def TTf (K : PySem.W.Frag) (i : Nat) (l : List (Value × (Addr → Value → Option Addr → TS))) : (XK → Hp → VK → Prop) → Hp → VK → Prop := fun tl H Q =>
  ∀ f : Addr, tl (fun cls dd G => wAsAll K i (fun _ _ _ _ => False) { nx := fun _ G' => Q .non G', rt := Q } l cls dd [some (.ref f), none] G) H fun _ G => Q .non G
theorem fault_gives {X : Cx} {a n x q : Str} {gs : Scope} {g : Addr} {gcd : Value} {h0 : ExceptHandler} {hds : List ExceptHandler} {l : List (Value × (Addr → Value → Option Addr → TS))} {j : Nat} {p1 p2 p3 p4 p5 p6 : Pos} (nd : [a, n].Nodup) (hln : gs.names.lookup n = some .local)
    (hh : ∀ (s : Shared) (H : Hp), AsOk (cxOf L2.CX0 X.prog X.w X.K X.mg X.base [a, n] x gs g gcd X.A X.stack s H L2.E0).nox n (h0 :: hds) l) :
    Gives X [a, n] x gs g gcd [.Try [.Expr (.Call (.Name a p1) [] [] p2) p3] (h0 :: hds) [] [] p4, .Return (some (.Constant .none j p5)) p6] a q (TTf X.K 1 l) := by
  intro f c' s H Q tl act hc h
  refine ⟨_, pss_cons (ps_try_asAll (X := (cxOf L2.CX0 X.prog X.w X.K X.mg X.base [a, n] x gs g gcd X.A X.stack s H L2.E0).nox) (i := 1)
    (tb := fun W D τ G => τ[0]? = some (some (.ref f)) ∧ G c' = some (CodeO c' q) ∧ tl (fun cls dd G' => W cls dd τ G') G fun _ G' => D.nx τ G') rfl rfl nd rfl hln LamX.takes0 (fun W pn xe tk _ => ?_) (hh s H)) (pss_one (ps_ret pe_non)), ?_⟩
  · constructor
    intro pins s' τ G D I go
    exact (pss_one (ps_expr (act W pn xe p1 p2 tk))).run pins s' τ G D I go
  · exact ⟨rfl, hc, h f⟩
end K1
set_option Elab.async false
set_option linter.all false
set_option maxRecDepth 100000
/-! a clause's suite that tells a tag and the error's fields -/
namespace K1
open PySem L2
def Has (gs : List (Str × V)) : List Str → List V → Prop
  | [], [] => True
  | f :: r, v :: vs => gs.lookup f = some v ∧ Has gs r vs
  | _, _ => False
def tFs (i : Nat) (C a : Addr) (cl : Value) (dd : Option Addr) : List Str → TA
  | [] => tNil
  | f :: r => tCons (tXf a cl dd C f (tVar i)) (tFs i C a cl dd r)
/-- return (tag, e.f, ..) -/
def suiteT (i : Nat) (C : Addr) (tag : Str) (fs : List Str) : Addr → Value → Option Addr → TS := fun a cl dd => tRet (tTup (tCons (tC (.str tag)) (tFs i C a cl dd fs)))
theorem tFs_read {i : Nat} {C a d : Addr} {gs : List (Str × V)} {σ : St} {G : Hp} (hσ : σ[i]? = some (some (.ref a))) (hd : G d = some (.xd gs)) : ∀ (fs : List Str) (vs : List V), Has gs fs vs → ∀ {Q : List V → Hp → Prop}, Q vs G → tFs i C a (.ref C) (some d) fs σ G Q
  | [], [], _, _, k => k
  | [], _ :: _, h, _, _ => h.elim
  | _ :: _, [], h, _, _ => h.elim
  | f :: r, v :: vs, h, Q, k => by
    obtain ⟨h1, h2⟩ := h
    exact ⟨_, hσ, rfl, rfl, d, gs, v, rfl, hd, h1, tFs_read hσ hd r vs h2 k⟩
theorem suiteT_read {i : Nat} {C a d : Addr} {tag : Str} {fs : List Str} {vs : List V} {gs : List (Str × V)} {D : Ends} {σ : St} {G : Hp} (hσ : σ[i]? = some (some (.ref a))) (hd : G d = some (.xd gs)) (h : Has gs fs vs) (hl : vs.length ≤ 10)
    (k : ∀ p, G p = none → D.rt (.ref p) (upd G p (.tup (.str tag :: vs)))) : suiteT i C tag fs a (.ref C) (some d) D σ G :=
  tFs_read hσ hd fs vs h ⟨by simp; exact Nat.le_of_lt (small1000 (by omega)), k⟩
end K1
set_option Elab.async false
set_option linter.all false
set_option maxRecDepth 100000
namespace L2
open PySem PySem.Spec PyProof.Rows
variable {X : Cx}
/-- x in t, of data, where t is a tuple -/
def rInT (K : PySem.W.Frag) (neg : Bool) : R2 := fun x y H Q => ∃ d ds, Dp K H x d ∧ Dp K H y (.tuple ds) ∧ SeqAt.shaped d = true ∧ SeqAt.shaped (.tuple ds) = true ∧ Q (.bl (if neg then !(ds.any fun z => PyData.eqv z d) else ds.any fun z => PyData.eqv z d)) H
theorem canLay_tup {ds : List PyData} (h : SeqAt.shaped (.tuple ds) = true) : PyData.canLayAll0 ds = true := by
  unfold SeqAt.shaped at h
  rw [PyData.canLay0] at h
  exact (Bool.and_eq_true_iff.mp h).1
theorem op_inT (hu : X.A.units + 65 < cLine) : OpR X (compareOp .In) (rInT X.K false) := by
  intro pins s σ H x y v u Q I rx ry h
  obtain ⟨d, ds, hd, he, sd, se, q⟩ := h
  obtain ⟨as, r1⟩ := Dp.reads I d x v hd rx
  obtain ⟨bs, r2⟩ := Dp.reads I (.tuple ds) y u he ry
  exact SeqAt.in_tuple_reads r2 r1 (canLay_tup se) (SeqAt.canLay_of_shaped sd) (room_in_shaped sd hu) ⟨.bl _, H, I, rfl, q⟩
theorem op_notInT (hu : X.A.units + 65 < cLine) : OpR X (compareOp .NotIn) (rInT X.K true) := by
  intro pins s σ H x y v u Q I rx ry h
  obtain ⟨d, ds, hd, he, sd, se, q⟩ := h
  obtain ⟨as, r1⟩ := Dp.reads I d x v hd rx
  obtain ⟨bs, r2⟩ := Dp.reads I (.tuple ds) y u he ry
  exact SeqAt.notIn_tuple_reads r2 r1 (canLay_tup se) (SeqAt.canLay_of_shaped sd) (room_in_shaped sd hu) ⟨.bl _, H, I, rfl, q⟩
end L2
namespace K1
open PySem L2
section
variable {P : Program} {w : World} {K : PySem.W.Frag} {mg : Str → Option Value} {base : Heap}
abbrev sBadState : Stmt := inClass (top 8) 0
theorem scBadState : FnScope ["self", "state"] ["self", "state"] (defScope sBadState) := ⟨rfl, rfl, rfl, by decide +kernel, rfl, by decide +kernel, by decide +kernel⟩
abbrev OBadState (K : PySem.W.Frag) (mg : Str → Option Value) (C fI : Addr) (fd : FuncData) : Prop := Oer K mg "BadState" ["state"] C fI fd "BadState.__init__" sBadState
theorem ini_BadState {C fI : Addr} {fd : FuncData} (O : OBadState K mg C fI fd) : FnOk P w K mg base CX0 1 fI fd ["self", "state"] (spIni C ["state"]) := by
  refine O.F.ok scBadState (fun vs H Q E h => ?_) (fun cdv A outer s H vs Q E hr h => ?_)
  · obtain ⟨a, ys, rfl, e, _⟩ := h
    show ys.length + 1 = _
    rw [e]; rfl
  · obtain ⟨a, ys, rfl, e, ha, k⟩ := h
    obtain ⟨y0, rfl⟩ : ∃ y0, ys = [y0] := by
      match ys, e with
      | [y0], _ => exact ⟨y0, rfl⟩
    refine ⟨_, pss_one (ps_ost (f := "state") (pv 0) (pv 1)), ?_⟩
    refine ⟨_, rfl, _, rfl, a, C, rfl, O.T, O.no _ (List.mem_cons_self ..), .inl ⟨ha, fun dx hdx ne => ?_⟩⟩
    refine k dx hdx ne _ (fun b o eb nb => ?_) ?_ ?_
    · rw [upd_ne nb, upd_ne (ne_of_none eb hdx)]; exact eb
    · exact upd_same
    · rw [upd_ne ne]; exact upd_same
abbrev sNoDeed : Stmt := inClass (top 9) 0
theorem scNoDeed : FnScope ["self", "index"] ["self", "index"] (defScope sNoDeed) := ⟨rfl, rfl, rfl, by decide +kernel, rfl, by decide +kernel, by decide +kernel⟩
abbrev ONoDeed (K : PySem.W.Frag) (mg : Str → Option Value) (C fI : Addr) (fd : FuncData) : Prop := Oer K mg "NoDeed" ["index"] C fI fd "NoDeed.__init__" sNoDeed
theorem ini_NoDeed {C fI : Addr} {fd : FuncData} (O : ONoDeed K mg C fI fd) : FnOk P w K mg base CX0 1 fI fd ["self", "index"] (spIni C ["index"]) := by
  refine O.F.ok scNoDeed (fun vs H Q E h => ?_) (fun cdv A outer s H vs Q E hr h => ?_)
  · obtain ⟨a, ys, rfl, e, _⟩ := h
    show ys.length + 1 = _
    rw [e]; rfl
  · obtain ⟨a, ys, rfl, e, ha, k⟩ := h
    obtain ⟨y0, rfl⟩ : ∃ y0, ys = [y0] := by
      match ys, e with
      | [y0], _ => exact ⟨y0, rfl⟩
    refine ⟨_, pss_one (ps_ost (f := "index") (pv 0) (pv 1)), ?_⟩
    refine ⟨_, rfl, _, rfl, a, C, rfl, O.T, O.no _ (List.mem_cons_self ..), .inl ⟨ha, fun dx hdx ne => ?_⟩⟩
    refine k dx hdx ne _ (fun b o eb nb => ?_) ?_ ?_
    · rw [upd_ne nb, upd_ne (ne_of_none eb hdx)]; exact eb
    · exact upd_same
    · rw [upd_ne ne]; exact upd_same
end
def Rs (C : Addr) (fs : List Str) (vs : List V) (H : Hp) (E : XK) : Prop := ∀ d G, Same H G → H d = none → G d = some (.xd (fs.zip vs).reverse) → E (.ref C) (some d) G
theorem Rs.same {C : Addr} {fs : List Str} {vs : List V} {H H' : Hp} {E : XK} (r : Rs C fs vs H E) (s : Same H H') : Rs C fs vs H' E := fun d G sG hd e => r d G (s.trans sG) (s.free hd) e
end K1
set_option Elab.async false
set_option linter.all false
set_option maxRecDepth 100000
namespace K1
open PySem L2
theorem eqv_strs : ∀ ws ws2 : List Str, PyData.eqvAll (ws.map PyData.str) (ws2.map PyData.str) = decide (ws = ws2)
  | [], [] => by simp [PyData.eqvAll]
  | [], _ :: _ => by simp [PyData.eqvAll]
  | _ :: _, [] => by simp [PyData.eqvAll]
  | a :: r, b :: q => by
    simp only [List.map_cons, PyData.eqvAll, eqv_strs r q, PyData.eqv]
    by_cases e : a = b
    · subst e; simp
    · simp [e]
theorem eqv_ints : ∀ ws ws2 : List Int, PyData.eqvAll (ws.map PyData.int) (ws2.map PyData.int) = decide (ws = ws2)
  | [], [] => by simp [PyData.eqvAll]
  | [], _ :: _ => by simp [PyData.eqvAll]
  | _ :: _, [] => by simp [PyData.eqvAll]
  | a :: r, b :: q => by
    simp only [List.map_cons, PyData.eqvAll, eqv_ints r q, PyData.eqv]
    by_cases e : a = b
    · subst e; simp
    · simp [e]
def OkS (ws : List Str) : Prop := ∀ z ∈ ws, PyData.strOk z = true
theorem TL_lt : ∀ c ∈ TL', c < 0x110000 := by decide +kernel
theorem ok_chars {z : Str} (h : ∀ c ∈ z.cps.toList, c ∈ TL') : PyData.strOk z = true := by
  unfold PyData.strOk
  rw [Array.all_eq_true']
  intro c hc
  exact decide_eq_true (TL_lt c (h c (by simpa using hc)))
theorem Wd.chars {z : Str} (h : Wd z) : ∀ c ∈ z.cps.toList, c ∈ AL := by
  obtain ⟨c, r, ez, hc, hr, _⟩ := h
  intro x hx
  rw [ez] at hx
  rcases List.mem_cons.mp hx with rfl | hx
  · exact LE_AL hc
  · exact hr x hx
theorem ok_wd {ws : List Str} (h : ∀ z ∈ ws, Wd z) : OkS ws := fun z hz => ok_chars fun c hc => List.mem_append_left _ ((h z hz).chars c hc)
theorem canLay_strs : ∀ ws : List Str, OkS ws → PyData.canLayAll0 (ws.map PyData.str) = true
  | [], _ => rfl
  | n :: r, h => by simp [PyData.canLayAll0, PyData.canLay0, canLay_strs r (fun z hz => h z (List.mem_cons_of_mem _ hz)), h n (List.mem_cons_self ..)]
theorem depth_ints : ∀ ns : List Int, PyData.depthAll (ns.map PyData.int) ≤ 1
  | [] => by decide
  | n :: r => by have := depth_ints r; simp only [List.map_cons, PyData.depthAll, PyData.depth]; omega
theorem depth_strs : ∀ ns : List Str, PyData.depthAll (ns.map PyData.str) ≤ 1
  | [] => by decide
  | n :: r => by have := depth_strs r; simp only [List.map_cons, PyData.depthAll, PyData.depth]; omega
theorem shaped_of {d : PyData} (h : d.canLay0 = true) (e : d.depth ≤ 64) : SeqAt.shaped d = true := by
  unfold SeqAt.shaped
  rw [h]
  simp [e]
theorem shaped_strs {ws : List Str} (h : OkS ws) : SeqAt.shaped (.tuple (ws.map PyData.str)) = true := shaped_of (by rw [PyData.canLay0, canLay_strs _ h]) (by rw [PyData.depth]; have := depth_strs ws; omega)
theorem dp_strs {K : PySem.W.Frag} {H : Hp} : ∀ ws : List Str, DpAll K H (ws.map V.str) (ws.map PyData.str)
  | [] => .nil
  | n :: r => .cons (.str n) (dp_strs r)

/-- None or a number, as data -/
def mD : V → PyData
  | .int i => .int i
  | _ => .none
def mOk (m : V) : Prop := m = .non ∨ ∃ i, m = .int i
theorem mOk.dp {K : PySem.W.Frag} {H : Hp} {m : V} (h : mOk m) : Dp K H m (mD m) := by
  rcases h with rfl | ⟨i, rfl⟩
  · exact .non
  · exact .int i
theorem mOk.sh {m : V} (h : mOk m) : SeqAt.shaped (mD m) = true := by
  rcases h with rfl | ⟨i, rfl⟩
  · exact shaped_of rfl (by decide)
  · exact shaped_of rfl (Nat.zero_le _)
theorem mOk.eqv {m n : V} (h : mOk m) (h' : mOk n) : PyData.eqv (mD m) (mD n) = decide (m = n) := by
  rcases h with rfl | ⟨i, rfl⟩ <;> rcases h' with rfl | ⟨j, rfl⟩ <;> simp [mD, PyData.eqv]
  by_cases e : i = j <;> simp [e]
end K1
set_option Elab.async false
set_option linter.all false
set_option maxRecDepth 100000
/-! where a row leads -/
namespace K1
open PySem L2
abbrev sMPath : Stmt := inClass (top 41) 4
abbrev sMAfter : Stmt := inClass (top 41) 5
abbrev sMTold : Stmt := inClass (top 41) 6
def forBody : Stmt → List Stmt
  | .For _ _ b _ _ => b
  | _ => []
theorem room65 {k : Nat} {A : Around} (r : Room k A) : A.units + 65 < cLine := by have := r.un; omega
/-- one step -/
def stp (rs : List (List Int)) (s k : Int) : Int := (rs.getD s.toNat []).getD k.toNat 0
def led (rs : List (List Int)) (ks : List Int) (s : Int) : Int := ks.foldl (stp rs) s
def wayN (rs : List (List Int)) (ks : List Int) (s : Int) (n : Nat) : List Int := (List.range n).map fun j => led rs (ks.take j) s
/-- all states on the way -/
def way (rs : List (List Int)) (ks : List Int) (s : Int) : List Int := wayN rs ks s (ks.length + 1)
/-- the deeds of a row of numbers -/
def nm (ws : List Str) (ks : List Int) : List Str := ks.map fun k => ws.getD k.toNat ""
def Ix (w : Nat) (ks : List Int) : Prop := ∀ k ∈ ks, 0 ≤ k ∧ k < (w : Int)
theorem nm_len (ws : List Str) (ks : List Int) : (nm ws ks).length = ks.length := by simp [nm]
theorem wayN_succ (rs : List (List Int)) (ks : List Int) (s : Int) (n : Nat) : wayN rs ks s (n + 1) = wayN rs ks s n ++ [led rs (ks.take n) s] := by
  simp [wayN, List.range_succ]
theorem wayN_len (rs : List (List Int)) (ks : List Int) (s : Int) (n : Nat) : (wayN rs ks s n).length = n := by simp [wayN]
theorem way_eq (rs : List (List Int)) (ks : List Int) (s : Int) : way rs ks s = wayN rs ks s ks.length ++ [led rs ks s] := by
  rw [way, wayN_succ, List.take_length]
theorem led_snoc (rs : List (List Int)) (ks : List Int) (s k : Int) : led rs (ks ++ [k]) s = stp rs (led rs ks s) k := by simp [led]
theorem at_last {xs : List Int} {y : Int} : atI ((xs ++ [y]).map V.int) (-1) = some (.int y) := by
  rw [List.map_append]; exact atI_last _ _
theorem at_deed {ws : List Str} {k : Int} (h0 : 0 ≤ k) (h1 : k < (ws.length : Int)) : atI (ws.map V.str) k = some (.str (ws.getD k.toNat "")) := by
  have hl : k.toNat < ws.length := by omega
  have e : k = ((k.toNat : Nat) : Int) := by omega
  rw [e]
  refine atI_nat ?_
  rw [Int.toNat_natCast, List.getElem?_map, List.getElem?_eq_getElem hl, List.getD_eq_getElem?_getD, List.getElem?_eq_getElem hl]
  rfl
theorem at_int {r : List Int} {k : Int} (h0 : 0 ≤ k) (h1 : k < (r.length : Int)) : atI (r.map V.int) k = some (.int (r.getD k.toNat 0)) := by
  have hl : k.toNat < r.length := by omega
  have e : k = ((k.toNat : Nat) : Int) := by omega
  rw [e]
  refine atI_nat ?_
  rw [Int.toNat_natCast, List.getElem?_map, List.getElem?_eq_getElem hl, List.getD_eq_getElem?_getD, List.getElem?_eq_getElem hl]
  rfl
theorem at_ref {as : List Addr} {k : Int} (h0 : 0 ≤ k) (h1 : k < (as.length : Int)) : ∃ a, as[k.toNat]? = some a ∧ atI (as.map V.ref) k = some (.ref a) := by
  obtain ⟨m, rfl⟩ : ∃ m : Nat, k = (m : Int) := ⟨k.toNat, by omega⟩
  have hl : m < as.length := by omega
  refine ⟨as[m], by rw [Int.toNat_natCast]; exact List.getElem?_eq_getElem hl, atI_nat ?_⟩
  rw [List.getElem?_map, List.getElem?_eq_getElem hl]
  rfl
theorem getD_get {α : Type} {xs : List α} {n : Nat} (d : α) (h : n < xs.length) : xs[n]? = some (xs.getD n d) := by
  rw [List.getD_eq_getElem?_getD, List.getElem?_eq_getElem h]; rfl
section
variable {ws : List Str} {rs : List (List Int)} {ss : List Str} {st : Int}
theorem Parts.stp (pt : Parts ws rs ss st) {s k : Int} (s0 : 0 ≤ s) (s1 : s < (rs.length : Int)) (k0 : 0 ≤ k) (k1 : k < (ws.length : Int)) :
    ∃ r, rs[s.toNat]? = some r ∧ r.length = ws.length ∧ K1.stp rs s k = r.getD k.toNat 0 ∧ 0 ≤ K1.stp rs s k ∧ K1.stp rs s k < (rs.length : Int) := by
  have hs : s.toNat < rs.length := by omega
  have er := getD_get (xs := rs) [] hs
  obtain ⟨hl, hx⟩ := pt.row _ (List.mem_of_getElem? er)
  have hk : k.toNat < (rs.getD s.toNat []).length := by omega
  have hm := hx _ (List.mem_of_getElem? (getD_get 0 hk))
  exact ⟨_, er, hl, rfl, hm⟩
theorem Parts.led (pt : Parts ws rs ss st) : ∀ {ks : List Int} {s : Int}, Ix ws.length ks → 0 ≤ s → s < (rs.length : Int) → 0 ≤ K1.led rs ks s ∧ K1.led rs ks s < (rs.length : Int)
  | [], s, _, h0, h1 => ⟨h0, h1⟩
  | k :: ks, s, hk, h0, h1 => by
    obtain ⟨k0, k1⟩ := hk k (List.mem_cons_self ..)
    obtain ⟨r, _, _, _, a, b⟩ := pt.stp h0 h1 k0 k1
    exact Parts.led pt (ks := ks) (fun j hj => hk j (List.mem_cons_of_mem _ hj)) a b
end
theorem Ix.take {w : Nat} {ks : List Int} (h : Ix w ks) (n : Nat) : Ix w (ks.take n) := fun k hk => h k (List.mem_of_mem_take hk)
theorem first_at {ws : List Str} (nd : ws.Nodup) {j : Nat} (hj : j < ws.length) : ∀ m, m < j → ws[m]? ≠ some (ws.getD j "") := by
  intro m hm e
  have hm' : m < ws.length := by omega
  rw [List.getElem?_eq_getElem hm', List.getD_eq_getElem?_getD, List.getElem?_eq_getElem hj] at e
  have e2 : ws[m] = ws[j] := by simpa using e
  exact List.pairwise_iff_getElem.mp nd m j hm' hj hm e2
theorem eqv_str (a b : Str) : PyData.eqv (.str a) (.str b) = decide (a = b) := by
  simp [PyData.eqv]
  by_cases e : a = b <;> simp [e]
theorem shaped_str {ws : List Str} (h : OkS ws) {z : Str} (hz : z ∈ ws) : SeqAt.shaped (.str z) = true := shaped_of (by rw [PyData.canLay0]; exact h z hz) (by rw [PyData.depth]; decide)
/-- what a row is: deeds, and behind them nothing, or something that is no deed -/
def Row (K : PySem.W.Frag) (C CB CN : Addr) (H : Hp) (E : XK) (x r : Addr) (v : V) (done : List Str → List (List Int) → List Int → Int → Prop) : Prop := ∃ (ws : List Str) (rs : List (List Int)) (ss : List Str) (st : Int) (ks : List Int) (tl : List V), MachAt K C H x ws rs ss st ∧ Parts ws rs ss st ∧
  Sq K H r ((nm ws ks).map V.str ++ tl) ∧ Ix ws.length ks ∧ ks.length ≤ 100 ∧
  ((∃ ty, Th K H v ty ∧ v ≠ .non ∧ ixB v rs.length = false ∧ Rs CB ["state"] [v] H E) ∨
   (∃ s0 : Int, 0 ≤ s0 ∧ s0 < (rs.length : Int) ∧ ((v = .non ∧ s0 = st) ∨ v = .int s0) ∧
     ((tl = [] ∧ done ss rs ks s0) ∨
      (∃ y d rest, tl = y :: rest ∧ (∀ G, Same H G → Dp K G y d) ∧ SeqAt.shaped d = true ∧ (∀ z ∈ ws, PyData.eqv (.str z) d = false) ∧ Rs CN ["index"] [.int (ks.length : Nat)] H E))))
def spPath (K : PySem.W.Frag) (C CB CN : Addr) : Sp := fun vs H Q E => ∃ (x r : Addr) (v : V), vs = [.ref x, .ref r, v] ∧ Row K C CB CN H E x r v fun _ rs ks s0 => ∀ l H', H l = none → Same H H' → H' l = some (.lst ((way rs ks s0).map V.int)) → Q (.ref l) H'
theorem ix_of {s m : Int} (h0 : 0 ≤ s) (h1 : s < m) : ixB (.int s) m = true := by
  unfold ixB
  simp [h0, h1]
section
variable {P : Program} {w : World} {K : PySem.W.Frag} {mg : Str → Option Value} {base : Heap}
abbrev pPath : List Str := ["self", "row", "state"]
abbrev nPath : List Str := ["self", "row", "state", "first", "states", "index", "deed"]
theorem scMPath : FnScope nPath pPath (defScope sMPath) := ⟨rfl, rfl, rfl, by decide +kernel, rfl, by decide +kernel, by decide +kernel⟩
abbrev MP (K : PySem.W.Frag) (f : Addr) (fd : FuncData) : Prop := FunD K "path" "Machine.path" (defArgs sMPath) (defBody sMPath) (defScope sMPath) [.non] [] f fd
theorem ok_path {C CB CN f fX fI fB fN : Addr} {fd fdX fdI fdB fdN : FuncData} (F : MP K f fd) (M : Tm K mg C) (T : Bt2 mg) (DX : Df K mg "is_index" sIsIndex ["value", "many"] fX fdX) (DI : Df K mg "is_integer" sIsInt ["value"] fI fdI)
    (OB : OBadState K mg CB fB fdB) (ON : ONoDeed K mg CN fN fdN) : FnOk P w K mg base (L2.CX P w) 3 f fd pPath (spPath K C CB CN) := by
  have GX : FnOk P w K mg base CX0 2 fX fdX ["value", "many"] (spIx K) := g_isindex DX DI T
  refine F.ok scMPath (fun vs H Q E h => ?_) (fun cdv A outer s H vs Q E hr h => ?_)
  · obtain ⟨x, r, v, rfl, _⟩ := h
    rfl
  · obtain ⟨x, r, v, rfl, ws, rs, ss, st, ks, tl, hM, pt, hR, hix, hkl, kk⟩ := h
    obtain ⟨dx, tA, rA, lA, as, hx, htA, hrA, hRT, hlA⟩ := id hM
    have hws : OkS ws := ok_wd pt.gd.wd
    -- the loop's body
    obtain ⟨tb, htb, hqb⟩ : ∃ tb, PSs (cxOf (L2.CX P w) P w K mg base nPath "Machine.path" (defScope sMPath) f cdv A outer s H E) (forBody (stOf sMPath 3)) tb ∧ ∀ (D : Ends) (G : Hp) (dA : Addr) (fs : V) (i : Nat) (y : V) (s0 : Int), 0 ≤ s0 → s0 < (rs.length : Int) → Same H G → H dA = none →
        G dA = some (.lst ((wayN rs ks s0 (i + 1)).map V.int)) → ((∃ k, ks[i]? = some k ∧ y = .str (ws.getD k.toNat "") ∧ ∀ G', Same H G' → G' dA = some (.lst ((wayN rs ks s0 (i + 2)).map V.int)) → D.nx [some (.ref x), some (.ref r), some v, some fs, some (.ref dA), some (.int (i : Nat)), some y] G') ∨
          (∃ d, (∀ G, Same H G → Dp K G y d) ∧ SeqAt.shaped d = true ∧ (∀ z ∈ ws, PyData.eqv (.str z) d = false) ∧ Rs CN ["index"] [.int (i : Nat)] H E)) → tb D [some (.ref x), some (.ref r), some v, some fs, some (.ref dA), some (.int (i : Nat)), some y] G := by
      refine ⟨_, pss_cons (ps_if (pt_cmpR (op_notInT (room65 hr)) (pv 6) (pe_fld (pv 0) rfl) (by rfl))
          (pss_one (ps_raise rfl (takes_of rfl rfl rfl rfl) (pmk_oex ON.T ON.ini ON.tI (ini_NoDeed ON) hr ON.b .nil pass0 rfl ON.g (pa_cons (pv 5) pa_nil)))) pss_nil)
        (pss_one (ps_expr (pe_bm PySem.F.plainAttrs_list PySem.F.slot_list_append PySem.F.type_list_append mt_append (pv 4) (pa_cons
          (pe_ix ix_tup (pe_ix ix_tup (pe_fld (pv 0) rfl) (pe_ix ix_list (pv 4) (pe_un un_neg pe_int) (fun _ _ => rfl)) (fun _ _ => rfl))
            (pe_bmF PySem.F.slot_tuple_index PySem.F.type_tuple_index mt_tup_index (pe_fld (pv 0) rfl) (pa_cons (pv 6) pa_nil)) (fun _ _ => rfl)) pa_nil)))), ?_⟩
      intro D G dA fs i y s0 h0 h1 sG zD hD kk
      have hxG := sG _ _ hx
      have htG := htA.same sG
      rcases kk with ⟨k, ek, rfl, done⟩ | ⟨d, hd, sd, nd, kr⟩
      · obtain ⟨k0, k1⟩ := hix k (List.mem_of_getElem? ek)
        have hkl' : k.toNat < ws.length := by omega
        have hz : ws.getD k.toNat "" ∈ ws := List.mem_of_getElem? (getD_get ("" : Str) hkl')
        refine ⟨_, rfl, _, rfl, x, C, dx, _, _, rfl, hxG, M.cl, M.nD, mf_deeds _ _ _ _, .str (ws.getD k.toNat ""), _, .str _, .tup htG.sq (dp_strs ws), shaped_str hws hz, shaped_strs hws, _, rfl, ?_⟩
        have e1 : ((ws.map PyData.str).any fun q => PyData.eqv q (.str (ws.getD k.toNat ""))) = true := by
          rw [List.any_eq_true]
          exact ⟨_, List.mem_map_of_mem hz, by rw [eqv_str]; simp⟩
        rw [if_pos rfl, e1]
        refine iteF ?_
        have hl0 := pt.led (hix.take i) h0 h1
        obtain ⟨q, eq, hql, hst, hb0, hb1⟩ := pt.stp hl0.1 hl0.2 k0 k1
        have hlen : as.length = rs.length := hRT.1
        obtain ⟨ra, era, eat⟩ := at_ref (as := as) hl0.1 (by rw [hlen]; exact hl0.2)
        have hra := sG _ _ (hRT.2 _ _ _ era eq)
        refine ⟨_, rfl, .inl ⟨rfl, _, SqL.of hD⟩, _, rfl, x, C, dx, _, _, rfl, hxG, M.cl, M.nR, mf_rows _ _ _ _, _, rfl, 1, rfl, dA, _, _, _, rfl, rfl, SqL.of hD, (by rw [wayN_succ]; exact at_last), ?_⟩
        refine ⟨rA, _, _, _, rfl, rfl, SqT.of (sG _ _ hrA), eat, _, rfl, x, C, dx, _, _, rfl, hxG, M.cl, M.nD, mf_deeds _ _ _ _, ⟨tA, _, rfl, htG⟩, _, rfl, tA, ws, _, k.toNat, rfl, rfl, htG.sq, getD_get ("" : Str) hkl', first_at pt.gd.nd hkl', ?_⟩
        refine ⟨ra, _, _, _, rfl, rfl, SqT.of hra, (by have := at_int (r := q) k0 (by omega); rw [← Int.toNat_of_nonneg k0] at this; exact this), ?_⟩
        refine ⟨dA, _, _, rfl, rfl, hD, ?_, ?_⟩
        · rw [List.length_map, wayN_len]; exact small1000 (by have := (List.getElem?_eq_some_iff.mp ek).1; omega)
        · refine done _ (fun b o e => by rw [upd_ne (ne_of_none e zD)]; exact sG _ _ e) ?_
          have et : ks.take (i + 1) = ks.take i ++ [k] := by rw [List.take_add_one, ek]; rfl
          rw [upd_same, wayN_succ rs ks s0 (i + 1), List.map_append, et, led_snoc, hst]
          rfl
      · refine ⟨_, rfl, _, rfl, x, C, dx, _, _, rfl, hxG, M.cl, M.nD, mf_deeds _ _ _ _, d, _, hd G sG, .tup htG.sq (dp_strs ws), sd, shaped_strs hws, _, rfl, ?_⟩
        have e1 : ((ws.map PyData.str).any fun q => PyData.eqv q d) = false := by
          rw [List.any_eq_false]
          intro q hq
          obtain ⟨z, hz, rfl⟩ := List.mem_map.mp hq
          rw [nd z hz]; simp
        rw [if_pos rfl, e1]
        refine iteT ?_
        refine ⟨_, rfl, ?_⟩
        exact err_read (fs := ["index"]) (by decide) rfl (kr.same sG)
    have hxl : ((nm ws ks).map V.str ++ tl).length = ks.length + tl.length := by rw [List.length_append, List.length_map, nm_len]
    have pick : ∀ (s0 : Int), ((tl = [] ∧ ∀ l H', H l = none → Same H H' → H' l = some (.lst ((way rs ks s0).map V.int)) → Q (.ref l) H') ∨
      (∃ y d rest, tl = y :: rest ∧ (∀ G, Same H G → Dp K G y d) ∧ SeqAt.shaped d = true ∧ (∀ z ∈ ws, PyData.eqv (.str z) d = false) ∧ Rs CN ["index"] [.int (ks.length : Nat)] H E)) → ∀ (i : Nat) (y : V), ((nm ws ks).map V.str ++ tl)[i]? = some y → i ≤ ks.length →
        (i < ks.length ∧ ∃ k, ks[i]? = some k ∧ y = .str (ws.getD k.toNat "")) ∨ (∃ d, (∀ G, Same H G → Dp K G y d) ∧ SeqAt.shaped d = true ∧ (∀ z ∈ ws, PyData.eqv (.str z) d = false) ∧ Rs CN ["index"] [.int (i : Nat)] H E) := by
      intro s0 fin i y e hi
      by_cases h : i < ks.length
      · rw [List.getElem?_append_left (by rw [List.length_map, nm_len]; exact h), List.getElem?_map, nm, List.getElem?_map, List.getElem?_eq_getElem h] at e
        cases e
        exact .inl ⟨h, _, List.getElem?_eq_getElem h, rfl⟩
      · have ei : i = ks.length := by omega
        subst ei
        rw [List.getElem?_append_right (by rw [List.length_map, nm_len]; exact Nat.le_refl _), List.length_map, nm_len, Nat.sub_self] at e
        rcases fin with ⟨rfl, _⟩ | ⟨y', d, rest, rfl, h1, h2, h3, h4⟩
        · cases e
        · cases e
          exact .inr ⟨d, h1, h2, h3, h4⟩
    obtain ⟨t2, ht2, hq2⟩ : ∃ t2, PSs (cxOf (L2.CX P w) P w K mg base nPath "Machine.path" (defScope sMPath) f cdv A outer s H E) ((defBody sMPath).drop 3) t2 ∧ ∀ (s0 : Int) (fs : V) (dA : Addr) (G : Hp), 0 ≤ s0 → s0 < (rs.length : Int) →
        ((tl = [] ∧ ∀ l H', H l = none → Same H H' → H' l = some (.lst ((way rs ks s0).map V.int)) → Q (.ref l) H') ∨
          (∃ y d rest, tl = y :: rest ∧ (∀ G, Same H G → Dp K G y d) ∧ SeqAt.shaped d = true ∧ (∀ z ∈ ws, PyData.eqv (.str z) d = false) ∧ Rs CN ["index"] [.int (ks.length : Nat)] H E)) →
        H dA = none → Same H G → G dA = some (.lst [.int s0]) → t2 { nx := fun _ H' => Q .non H', rt := Q } [some (.ref x), some (.ref r), some v, some fs, some (.ref dA), none, none] G := by
      rcases hR with hR | hR
      · refine ⟨_, pss_cons (ps_for (passes_of rfl) rfl (pi_enum (by rfl) T.enumerate (pa_cons (pv 1) pa_nil)) (pg_tup (by rfl) (pgs_cons (pg_name (i := 5) scMPath.nd rfl (Or.inl rfl)) (pgs_cons (pg_name (i := 6) scMPath.nd rfl (Or.inl rfl)) pgs_nil))) htb)
          (pss_one (ps_ret (pv 4))), ?_⟩
        intro s0 fs dA G h0 h1 fin zD sG hD
        refine ⟨_, rfl, r, _, rfl, sG.seq hR, for_it (walk_enum (K := K) (a := r) (xs := (nm ws ks).map V.str ++ tl)) (fun i σ H' => i ≤ ks.length ∧ Same H H' ∧ H' dA = some (.lst ((wayN rs ks s0 (i + 1)).map V.int)) ∧ ∃ v5 v6, σ = [some (.ref x), some (.ref r), some v, some fs, some (.ref dA), v5, v6])
          ⟨Nat.zero_le _, sG, hD, none, none, rfl⟩ (fun i σ H' _ p => p.2.1.seq hR) ?_ ?_⟩
        · rintro i y σ H1 H2 hi ⟨hik, sm, hD1, v5, v6, rfl⟩ ⟨t, x1, x2, rfl, ht, rfl, e1, e2⟩
          cases e1
          have st2 := same_upd (o := .tup [V.int (i : Nat), x2]) ht
          refine ⟨t, _, rfl, SqT.of upd_same, rfl, _, _, rfl, _, _, rfl, rfl, ?_⟩
          refine hqb _ _ dA fs i x2 s0 h0 h1 (sm.trans st2) zD (st2 _ _ hD1) ?_
          rcases pick s0 fin i x2 e2 hik with ⟨hlt, k, ek, ey⟩ | hb
          · exact .inl ⟨k, ek, ey, fun G' s' e' => ⟨hlt, s', e', _, _, rfl⟩⟩
          · exact .inr hb
        · rintro σ H1 ⟨hik, sm, hD1, v5, v6, rfl⟩
          rw [hxl] at hik hD1
          rcases fin with ⟨rfl, done⟩ | ⟨y', d, rest, rfl, _⟩
          · exact ⟨_, rfl, done dA H1 zD sm hD1⟩
          · exact absurd hik (by simp)
      · refine ⟨_, pss_cons (ps_for (passes_of rfl) rfl (pi_enumT (by rfl) T.enumerate (pa_cons (pv 1) pa_nil)) (pg_tup (by rfl) (pgs_cons (pg_name (i := 5) scMPath.nd rfl (Or.inl rfl)) (pgs_cons (pg_name (i := 6) scMPath.nd rfl (Or.inl rfl)) pgs_nil))) htb)
          (pss_one (ps_ret (pv 4))), ?_⟩
        intro s0 fs dA G h0 h1 fin zD sG hD
        refine ⟨_, rfl, r, _, rfl, hR.ext sG, for_it (walk_enumT (K := K) (a := r) (xs := (nm ws ks).map V.str ++ tl)) (fun i σ H' => i ≤ ks.length ∧ Same H H' ∧ H' dA = some (.lst ((wayN rs ks s0 (i + 1)).map V.int)) ∧ ∃ v5 v6, σ = [some (.ref x), some (.ref r), some v, some fs, some (.ref dA), v5, v6])
          ⟨Nat.zero_le _, sG, hD, none, none, rfl⟩ (fun i σ H' _ p => hR.ext p.2.1) ?_ ?_⟩
        · rintro i y σ H1 H2 hi ⟨hik, sm, hD1, v5, v6, rfl⟩ ⟨t, x1, x2, rfl, ht, rfl, e1, e2⟩
          cases e1
          have st2 := same_upd (o := .tup [V.int (i : Nat), x2]) ht
          refine ⟨t, _, rfl, SqT.of upd_same, rfl, _, _, rfl, _, _, rfl, rfl, ?_⟩
          refine hqb _ _ dA fs i x2 s0 h0 h1 (sm.trans st2) zD (st2 _ _ hD1) ?_
          rcases pick s0 fin i x2 e2 hik with ⟨hlt, k, ek, ey⟩ | hb
          · exact .inl ⟨k, ek, ey, fun G' s' e' => ⟨hlt, s', e', _, _, rfl⟩⟩
          · exact .inr hb
        · rintro σ H1 ⟨hik, sm, hD1, v5, v6, rfl⟩
          rw [hxl] at hik hD1
          rcases fin with ⟨rfl, done⟩ | ⟨y', d, rest, rfl, _⟩
          · exact ⟨_, rfl, done dA H1 zD sm hD1⟩
          · exact absurd hik (by simp)
    refine ⟨_, pss_cons (ps_set (i := 3) scMPath.nd rfl (Or.inl rfl) (pe_ifExp (pt_cmpR op_isN (pv 2) pe_non (by rfl)) (pe_fld (pv 0) rfl) (pv 2)))
      (pss_cons (ps_if (pt_not (pt_val (pe_call GX hr rfl DX.g DX.F.kp DX.b .nil pass0 (pa_cons (pv 3) (pa_cons (pe_callB call_len (by rfl) T.len PySem.boot_len (pa_cons (pe_fld (pv 0) rfl) pa_nil)) pa_nil)))))
        (pss_one (ps_raise rfl (takes_of rfl rfl rfl rfl) (pmk_oex OB.T OB.ini OB.tI (ini_BadState OB) hr OB.b .nil pass0 rfl OB.g (pa_cons (pv 2) pa_nil)))) pss_nil)
      (pss_cons (ps_set (i := 4) scMPath.nd rfl (Or.inl rfl) (pe_lst (pa_cons (pv 3) pa_nil))) ht2)), ?_⟩
    have lenR : LenV K (.ref rA) H rs.length := .inr ⟨_, SqT.of hrA, by rw [List.length_map]; exact hRT.1.symm⟩
    refine ⟨_, rfl, rfl, _, rfl, ?_⟩
    rcases kk with ⟨ty, th, hn, hb, kr⟩ | ⟨s0, h0, h1, hv, fin⟩
    · rw [decide_eq_false hn]
      refine iteF ?_
      refine ⟨_, rfl, ?_⟩
      refine ⟨_, rfl, _, rfl, x, C, dx, _, _, rfl, hx, M.cl, M.nR, mf_rows _ _ _ _, _, _, rfl, lenR, v, ty, _, rfl, th, ?_⟩
      rw [hb]
      refine ⟨false, rfl, iteT ?_⟩
      refine ⟨_, rfl, ?_⟩
      exact err_read (fs := ["state"]) (by decide) rfl kr
    · rcases hv with ⟨rfl, rfl⟩ | rfl
      · refine iteT ?_
        refine ⟨_, rfl, x, C, dx, _, _, rfl, hx, M.cl, M.nS, mf_start _ _ _ _, ?_⟩
        refine ⟨_, rfl, _, rfl, x, C, dx, _, _, rfl, hx, M.cl, M.nR, mf_rows _ _ _ _, _, _, rfl, lenR, .int s0, "int", _, rfl, .int s0, ?_⟩
        rw [ix_of h0 h1]
        refine ⟨true, rfl, iteF ?_⟩
        exact ⟨_, rfl, Nat.le_of_ble_eq_true rfl, fun dA hdA => hq2 s0 _ dA _ h0 h1 fin hdA (same_upd hdA) upd_same⟩
      · rw [decide_eq_false (by intro z; cases z)]
        refine iteF ?_
        refine ⟨_, rfl, ?_⟩
        refine ⟨_, rfl, _, rfl, x, C, dx, _, _, rfl, hx, M.cl, M.nR, mf_rows _ _ _ _, _, _, rfl, lenR, .int s0, "int", _, rfl, .int s0, ?_⟩
        rw [ix_of h0 h1]
        refine ⟨true, rfl, iteF ?_⟩
        exact ⟨_, rfl, Nat.le_of_ble_eq_true rfl, fun dA hdA => hq2 s0 _ dA _ h0 h1 fin hdA (same_upd hdA) upd_same⟩
end
end K1
set_option Elab.async false
set_option linter.all false
set_option maxRecDepth 100000
/-! the state behind a row, and its tell -/
namespace K1
open PySem L2
def spAfter (K : PySem.W.Frag) (C CB CN : Addr) : Sp := fun vs H Q E => ∃ (x r : Addr) (v : V), vs = [.ref x, .ref r, v] ∧ Row K C CB CN H E x r v fun _ rs ks s0 => ∀ H', Same H H' → Q (.int (led rs ks s0)) H'
def spTold (K : PySem.W.Frag) (C CB CN : Addr) : Sp := fun vs H Q E => ∃ (x r : Addr), vs = [.ref x, .ref r] ∧ Row K C CB CN H E x r .non fun ss rs ks s0 => ∀ H', Same H H' → Q (.str (ss.getD (led rs ks s0).toNat "")) H'
theorem mf_path (t r l : Addr) (st : Int) : (mf t r l st).lookup ("path" : Str) = none := mf_no _ _ _ _ (by decide +kernel) (by decide +kernel) (by decide +kernel) (by decide +kernel)
theorem mf_after (t r l : Addr) (st : Int) : (mf t r l st).lookup ("after" : Str) = none := mf_no _ _ _ _ (by decide +kernel) (by decide +kernel) (by decide +kernel) (by decide +kernel)
theorem mf_told (t r l : Addr) (st : Int) : (mf t r l st).lookup ("told" : Str) = none := mf_no _ _ _ _ (by decide +kernel) (by decide +kernel) (by decide +kernel) (by decide +kernel)
section
variable {P : Program} {w : World} {K : PySem.W.Frag} {mg : Str → Option Value} {base : Heap}
theorem scMAfter : FnScope pPath pPath (defScope sMAfter) := ⟨rfl, rfl, rfl, by decide +kernel, rfl, by decide +kernel, by decide +kernel⟩
abbrev MAf (K : PySem.W.Frag) (f : Addr) (fd : FuncData) : Prop := FunD K "after" "Machine.after" (defArgs sMAfter) (defBody sMAfter) (defScope sMAfter) [.non] [] f fd
theorem ok_after {C CB CN f fP : Addr} {fd fdP : FuncData} (F : MAf K f fd) (M : Tm K mg C) (MT : Meth K C "path" fP) (bP : Binds K fdP pPath []) (GP : FnOk P w K mg base (L2.CX P w) 3 fP fdP pPath (spPath K C CB CN)) :
    FnOk P w K mg base (L2.CX P w) 4 f fd pPath (spAfter K C CB CN) := by
  refine F.ok scMAfter (fun vs H Q E h => ?_) (fun cdv A outer s H vs Q E hr h => ?_)
  · obtain ⟨x, r, v, rfl, _⟩ := h
    rfl
  · obtain ⟨x, r, v, rfl, ws, rs, ss, st, ks, tl, hM, pt, hR, hix, hkl, kk⟩ := h
    obtain ⟨dx, tA, rA, lA, as, hx, _⟩ := id hM
    refine ⟨_, pss_one (ps_ret (pe_ix ix_list (pe_meth (pv 0) M.cl MT GP hr bP .nil (passes_call (takes_of rfl rfl rfl rfl) fun _ _ _ _ h => h) (pa_cons (pv 1) (pa_cons (pv 2) pa_nil))) (pe_un un_neg pe_int) (fun _ _ => rfl))), ?_⟩
    refine ⟨_, rfl, x, dx, _, rfl, hx, mf_path _ _ _ _, _, rfl, _, rfl, x, r, v, rfl, ws, rs, ss, st, ks, tl, hM, pt, hR, hix, hkl, ?_⟩
    rcases kk with kk | ⟨s0, h0, h1, hv, fin⟩
    · exact .inl kk
    · refine .inr ⟨s0, h0, h1, hv, ?_⟩
      rcases fin with ⟨e, done⟩ | kk
      · refine .inl ⟨e, fun l H' hl sm eH => ?_⟩
        exact ⟨1, rfl, l, _, _, _, rfl, rfl, SqL.of eH, (by rw [way_eq]; exact at_last), done H' sm⟩
      · exact .inr kk
end
end K1
set_option Elab.async false
set_option linter.all false
set_option maxRecDepth 100000
/-! the law's own way -/
namespace K1
open PySem L2
theorem PlainAt.same {H H' : Hp} {p : Addr} {ws : List Str} {rs : List (List Int)} {ss : List Str} {st : Int} (h : PlainAt H p ws rs ss st) (s : Same H H') : PlainAt H' p ws rs ss st := by
  obtain ⟨t, r, l, as, h1, h2, h3, h4, h5⟩ := h.ex
  exact ⟨t, r, l, as, s _ _ h1, h2.same s, s _ _ h3, s _ _ h4, h5.same s⟩
end K1
set_option Elab.async false
set_option linter.all false
set_option maxRecDepth 100000
/-! own objects walked by an __iter__ that gives iter(self.x); own [] -/
namespace OwnT
open PySem PySem.Spec PyProof.Rows L2 ItX
/-- a tuple's iterator, not yet drawn from -/
def ItT (t it : Addr) : HO := .ext fun h => h.IsTupleIter it t 0
def rIterT (K : PySem.W.Frag) (n : Nat) : List V → Hp → VK → Prop := fun vs H Q => ∃ t zs, vs = [.ref t] ∧ SqT K H t zs ∧ ∀ it, H it = none → n ≤ it → Q (.ref it) (L2.upd H it (ItT t it))
section
variable {X : Cx}
theorem call_iterT : CallR X (.builtin "iter") (rIterT X.K X.s_0.heap.objs.size) := by
  intro pins s σ H vs us Q I r ⟨t, zs, ev, ht, k⟩
  subst ev
  obtain rfl := Vals.ref1 r
  obtain ⟨its, rv, p, _⟩ := I.tuple ht
  refine Calls.call_function_entry (by decide +kernel) (by decide +kernel) PySem.W.kdk_entry_iter (PySem.W.kdk_args_iter _) ?_
  unfold Builtin.«iter»
  refine wpAny_bind (m := someArgs "iter" 1 2 _) (wpAny_of_eq (a := [Value.ref t]) (by first | rfl | kernel_rfl!) ?_)
  refine wpAny_bind (wpAny_pyIter_tuple p ?_)
  have new : ∀ h' : Heap, h'.get? s.heap.objs.size = some { cls := .type "tuple_iterator", data := .fields #[.ref t, .int 0 0] } → ObjOk X.prog X.w (L2.upd H s.heap.objs.size (ItT t s.heap.objs.size)) h' s.heap.objs.size (ItT t s.heap.objs.size) := fun h' e =>
    ⟨⟨_, e, rfl, rfl⟩, ⟨_, e⟩, fun h1 h2 q1 keep => q1.at keep⟩
  exact wpAny_pure ⟨_, rfl, .ref s.heap.objs.size, _, I.laid (t' := s.toks) (fun b o e => Heap.get?_push_of_some _ e) (Nat.le_refl _) (new _ (Heap.get?_push_size _ rfl)), rfl, k _ (I.hok.fresh (Nat.le_refl _)) I.sz⟩
/-- for .. in o, where o's class says: def __iter__(self): return iter(self.F) -/
def iOwnT (K : PySem.W.Frag) (C : Addr) (F : Str) (te : TE) : TI := fun σ H R => te σ H fun x H1 => ∃ a dx fs t xs, x = .ref a ∧ H1 a = some (.ins C dx fs) ∧ fs.lookup F = some (.ref t) ∧ SqT K H1 t xs ∧ R (Itt K t) H1
/-- the class's own __iter__, its body read once for all -/
structure OwnI (P : Program) (w : World) (K : PySem.W.Frag) (mg : Str → Option Value) (base : Heap) (C f : Addr) (F qual : Str) (st : Stmt) (fd : FuncData) : Prop where
  it : PySem.W.findIn K (.ref C) "__iter__" = some (some (.ref f))
  fn : PySem.W.isFn K (.ref f) = true
  df : L2.Fun K "__iter__" qual st f fd
  bi : Binds K fd ["self"] []
  sc : FnScope ["self"] ["self"] (defScope st)
  bd : ∀ (cdv : Value) (A : Around) (outer : List Env) (s : Shared) (H : Hp), ∃ t, PSs (cxOf CX0 P w K mg base ["self"] qual (defScope st) f cdv A outer s H E0) (defBody st) t ∧
    ∀ (a dx t0 : Addr) (xs : List V) (fs : List (Str × V)) (Q : VK), H a = some (.ins C dx fs) → fs.lookup F = some (.ref t0) → SqT K H t0 xs → (∀ it, H it = none → s.heap.objs.size ≤ it → Q (.ref it) (L2.upd H it (ItT t0 it))) → t { nx := fun _ H' => Q .non H', rt := Q } (L2.start ["self"] [.ref a]) H
theorem pi_ownT {C f : Addr} {F qual : Str} {st : Stmt} {fd : FuncData} {e tg : Expr} {te : TE} (he : PE X e te) (O : OwnI X.prog X.w X.K X.mg X.base C f F qual st fd) (hr : Room 1 X.A) : PI X tg e (iOwnT X.K C F te) := by
  obtain ⟨oc, od', kV, doc, pm, an, cdv, ct, osl, rfl, lk, cg⟩ := O.df.ex
  refine ⟨fun pins s σ H R I h => thn (he.run pins s σ H _ I h) ?_⟩
  rintro u s1 ⟨x, H1, I1, rx, a, dx, fs, t0, xs, rfl, ha, hl, ht, q⟩
  obtain rfl : u = Value.ref a := rx
  obtain ⟨mA, J0, _⟩ := ins_get I1.hok ha
  obtain ⟨od, J, _⟩ := J0.look
  obtain ⟨m0, hF⟩ := I1.fr
  refine PySem.W.owit_iter hF I1.ok.mod.kin J O.it O.fn ?_
  have bnd : BindsTo s1 (PySem.W.fnOf "__iter__" qual (defArgs st) (defBody st) (defScope st) .none kV doc pm an cdv ct) ⟨[.ref a], []⟩ ((["self"] : List Str).zip [Value.ref a]) := by
    have := O.bi s1 [.ref a] I1.kIn rfl
    simpa using this
  have ran : codeAny (model X.prog X.w) X.A (.call (.ref f) ⟨[.ref a], []⟩) (CR CX0 X.stack X.prog X.w H1 s1 (fun v H' => ∃ it, v = .ref it ∧ H1 it = none ∧ s1.heap.objs.size ≤ it ∧ H' = L2.upd H1 it (ItT t0 it)) E0) s1 :=
    LamX.run_ofS (N := ["self"]) (ps := ["self"]) (vs := [.ref a]) lk cg O.sc hr I1.env0 bnd (.cons rfl .nil) rfl fun _ => by
      obtain ⟨t, ht', hq'⟩ := O.bd cdv X.A X.stack s1 H1
      exact ⟨t, ht', hq' a dx t0 xs fs (fun v H' => ∃ it, v = .ref it ∧ H1 it = none ∧ s1.heap.objs.size ≤ it ∧ H' = L2.upd H1 it (ItT t0 it)) ha hl ht fun it hn hs => ⟨it, rfl, hn, hs, rfl⟩⟩
  refine wpAny_call (codeAny_mono ran fun r s2 hq => ?_)
  match r, hq with
  | .ok (.ret u), hq =>
    obtain ⟨v, H', I2, rv, it, rfl, hn, hs, rfl⟩ := I1.after hq
    cases rv
    have hit : s2.heap.IsTupleIter it t0 0 := (I2.hok it _ upd_same).1
    show PySem.W.OwitIt _ _ _ _ _ _
    unfold PySem.W.OwitIt
    refine wpAny_specialOf hit.typeIs PySem.F.slot_tuple_iterator_next.lookup ?_
    have I3 := inv_drop I2 (a := it) upd_same
    have fp := inv_fp I2 (a := it) upd_same (Nat.le_trans I1.sz hs)
    rw [dropH_upd hn] at I3 fp
    refine ⟨it, [it], _, _, H1, rfl, I3, turn_tuple t0 it, hit, fun b hb => ?_, q⟩
    obtain rfl : b = it := by simpa using hb
    exact fp
/-- o[i] by the class's own __getitem__ -/
def rIxOwn (C : Addr) (sp : Sp) (E : XK) : R2 := fun x y H Q => ∃ a dx fs, x = .ref a ∧ H a = some (.ins C dx fs) ∧ sp [.ref a, y] H Q E
theorem pe_ixOwn {CX : CXT} {n : Nat} {C f : Addr} {fd : FuncData} {ps : List Str} {sp : Sp} {E : XK} {o k : Expr} {to tk : TE} {pos : Pos} (ho : PE X o to) (hk : PE X k tk) (gi : PySem.W.findIn X.K (.ref C) "__getitem__" = some (some (.ref f))) (fi : PySem.W.fnIn X.K f = true) (fn : PySem.W.isFn X.K (.ref f) = true)
    (F : FnOk X.prog X.w X.K X.mg X.base CX n f fd ps sp) (hr : Room (n + 1) X.A) (hb : Binds X.K fd ps []) (hx : Passes CX X E)
    (hs : ∀ x i, subscripted k true (.ref x) i = runValue (.builtin "lifetime.subscript" ⟨[.ref x, i], []⟩) := by intros; with_unfolding_all rfl) : PE X (.Subscript o k pos) (tOp (rIxOwn C sp E) to tk) := by
  refine ⟨fun pins s σ H Q I h => Subscript_ (binT ho hk I h ?_)⟩
  rintro v u s2 x y H2 I2 rx ry ⟨a, dx, fs, rfl, ha, q⟩
  obtain rfl : v = Value.ref a := rx
  obtain ⟨mA, J0, _⟩ := ins_get I2.hok ha
  obtain ⟨od, J, _⟩ := J0.look
  obtain ⟨m0, hF⟩ := I2.fr
  exact PySem.W.sub_K hF I2.ok.mod.kin J gi fi fn (wpAny_mono (own_call (vs := [.ref a, y]) F hb hx hr.in1 rfl I2 (.cons rfl (.cons ry .nil)) q) (fun w s' z => let ⟨v', H', I', r', q'⟩ := z; ⟨v', H', I', r', q'⟩) fun _ _ z => z) (hs _ _)
end
end OwnT
set_option Elab.async false
set_option linter.all false
set_option maxRecDepth 100000
namespace K1
open PySem L2 LamX
theorem len_word {z : Str} (h : wordB (.str z) = true) : z.length ≤ 12 := by
  have h' : wordL z.cps.toList = true := h
  rw [len_tl]
  cases e : z.cps.toList with
  | nil => simp
  | cons c r =>
    rw [e] at h'
    unfold wordL at h'
    exact of_decide_eq_true (Bool.and_eq_true_iff.mp h').1
theorem Wd.word {z : Str} (h : Wd z) : wordB (.str z) = true := by
  obtain ⟨c, r, e, h1, h2, h3⟩ := h
  show wordL z.cps.toList = true
  rw [e]
  unfold wordL
  simp only [Bool.and_eq_true, decide_eq_true_eq, List.all_eq_true]
  refine ⟨by simp; omega, h1, fun x hx => ?_⟩
  rcases List.mem_cons.mp hx with rfl | h
  · exact LE_AL h1
  · exact h2 x h
theorem Wd.short {z : Str} (h : Wd z) : z.length ≤ 1000 := by have := len_word h.word; omega
theorem made_same {H G : Hp} {x dx C : Addr} (hx : H x = none) (hd : H dx = none) (k : Kept x (upd (upd H dx (.own x)) x (.ins C dx [])) G) : Same H G := fun b o e => by
  have n1 : b ≠ x := ne_of_none e hx
  have n2 : b ≠ dx := ne_of_none e hd
  exact k b o (by rw [upd_ne n1, upd_ne n2]; exact e) n1
theorem made_pre {H : Hp} {x dx C : Addr} (hx : H x = none) (hd : H dx = none) : Same H (upd (upd H dx (.own x)) x (.ins C dx [])) := fun b o e => by
  rw [upd_ne (ne_of_none e hx), upd_ne (ne_of_none e hd)]; exact e
abbrev sNamed : Stmt := top 51
theorem nm_mem {ws : List Str} {ks : List Int} (h : Ix ws.length ks) : ∀ z ∈ nm ws ks, z ∈ ws := fun z hz => by
  obtain ⟨k, hk, rfl⟩ := List.mem_map.mp hz
  obtain ⟨h0, h1⟩ := h k hk
  have hl : k.toNat < ws.length := by omega
  rw [List.getD_eq_getElem?_getD, List.getElem?_eq_getElem hl]
  exact List.getElem_mem hl
def spNamed (K : PySem.W.Frag) : Sp := fun vs H Q _ => ∃ (a r : Addr) (ws : List Str) (ks : List Int), vs = [.ref a, .ref r] ∧ SqL K H a (ws.map V.str) ∧ SqT K H r (ks.map V.int) ∧ Ix ws.length ks ∧ ks.length ≤ 100 ∧
  ∀ (p : Addr) (H' : Hp), H p = none → Same H H' → H' p = some (.tup ((nm ws ks).map V.str)) → Q (.ref p) H'
section
variable {P : Program} {w : World} {K : PySem.W.Frag} {mg : Str → Option Value} {base : Heap}
abbrev pNamed : List Str := ["_law_deeds", "_law_row"]
abbrev nNamed : List Str := ["_law_deeds", "_law_row", "_law_k"]
theorem scNamed : FnScope nNamed pNamed (defScope sNamed) := ⟨rfl, rfl, rfl, by decide +kernel, rfl, by decide +kernel, by decide +kernel⟩
theorem ok_named {f : Addr} {fd : FuncData} (D : Df K mg "_law_named" sNamed pNamed f fd) (T : Bt mg) : FnOk P w K mg base CX0 1 f fd pNamed (spNamed K) := by
  refine D.F.ok scNamed (fun vs H Q E h => ?_) (fun cdv A outer s H vs Q E hr h => ?_)
  · obtain ⟨a, r, ws, ks, rfl, _⟩ := h
    rfl
  · obtain ⟨a, r, ws, ks, rfl, ha, hR, hk, hl, k⟩ := h
    refine ⟨_, pss_one (ps_ret (pe_callTy (r := rTu K) call_tuple_of (by rfl) T.tuple PyProof.Rows.boot_tuple (pa_cons (pe_lc (own := [("_law_k", 2)]) (g := gName 2) (by rfl) scNamed.nd (pi_tup (pv 1))
        (blkOk_by (own := [("_law_k", 2)]) (N := nNamed) (sc := defScope sNamed) (by decide +kernel)) (fun _ _ _ _ _ => pg_name (i := 2) scNamed.nd rfl (Or.inl rfl)) (fun _ _ _ _ _ => pts_nil)
        (fun _ _ _ _ _ => pe_ix (r := rIxL K) ix_list (pv 0) (pv 2) (fun _ _ => rfl))) pa_nil))), ?_⟩
    refine ⟨_, rfl, r, rfl, ⟨_, hR⟩, fun D1 hD1 => ?_⟩
    refine lc_tup (K := K) (a := r) (xs := ks.map V.int) (fun i H' => Same H H' ∧ H' D1 = some (.lst ((nm ws (ks.take i)).map V.str))) ?_ ?_ ?_ ?_
    · exact ⟨same_upd hD1, upd_same⟩
    · exact fun i H' _ q => hR.ext q.1
    · rintro i y H1 hi ⟨sm, hD⟩
      rw [List.getElem?_map] at hi
      obtain ⟨j, ej, rfl⟩ := Option.map_eq_some_iff.mp hi
      obtain ⟨j0, j1⟩ := hk j (List.mem_of_getElem? ej)
      have hil : i < ks.length := (List.getElem?_eq_some_iff.mp ej).1
      refine ⟨rfl, _, rfl, _, rfl, a, _, j, _, rfl, rfl, sm.seq ha, at_deed j0 j1, _, hD, ?_, ?_, ?_⟩
      · rw [List.length_map, nm, List.length_map, List.length_take]; exact small1000 (by omega)
      · exact fun b u e => by rw [upd_ne (ne_of_none e hD1)]; exact sm b u e
      · have e : ks.take (i + 1) = ks.take i ++ [j] := by rw [List.take_add_one, ej]; rfl
        rw [upd_same, e, nm, nm, List.map_append, List.map_append]; rfl
    · rintro H1 ⟨sm, hD⟩
      rw [List.length_map, List.take_length] at hD
      refine ⟨D1, _, rfl, .inl ⟨SqL.of hD, fun p hp => ?_⟩⟩
      exact k p _ (sm.free hp) (sm.trans (same_upd hp)) upd_same
end
abbrev sLed : Stmt := top 54
section
variable {P : Program} {w : World} {K : PySem.W.Frag} {mg : Str → Option Value} {base : Heap}
def spLed (K : PySem.W.Frag) : Sp := fun vs H Q _ => ∃ (p q : Addr) (s0 : Int) (ws : List Str) (rs : List (List Int)) (ss : List Str) (st : Int) (ks : List Int), vs = [.ref p, .ref q, .int s0] ∧ PlainAt H p ws rs ss st ∧ Parts ws rs ss st ∧ SqT K H q (ks.map V.int) ∧ Ix ws.length ks ∧ 0 ≤ s0 ∧ s0 < (rs.length : Int) ∧
  ∀ H', Same H H' → Q (.int (led rs ks s0)) H'
abbrev pLed : List Str := ["_law_plain_here", "_law_row", "_law_spot"]
abbrev nLed : List Str := ["_law_plain_here", "_law_row", "_law_spot", "_law_k"]
theorem scLed : FnScope nLed pLed (defScope sLed) := ⟨rfl, rfl, rfl, by decide +kernel, rfl, by decide +kernel, by decide +kernel⟩
theorem ok_led {f : Addr} {fd : FuncData} (D : Df K mg "_law_led" sLed pLed f fd) : FnOk P w K mg base CX0 1 f fd pLed (spLed K) := by
  refine D.F.ok scLed (fun vs H Q E h => ?_) (fun cdv A outer s H vs Q E hr h => ?_)
  · obtain ⟨p, q, s0, ws, rs, ss, st, ks, rfl, _⟩ := h
    rfl
  · obtain ⟨p, q, s0, ws, rs, ss, st, ks, rfl, hp, pt, hq, hix, h0, h1, k⟩ := h
    have hu := hu_of hr
    refine ⟨_, pss_cons (ps_for PassesOwn.never rfl (pi_tup (pv 1)) (pg_name (i := 3) scLed.nd rfl (Or.inl rfl))
        (pss_one (ps_set (i := 2) scLed.nd rfl (Or.inl rfl) (pe_ix ix_list (pe_ix ix_list (pe_dget hu (pv 0) pe_str (fun _ _ => rfl)) (pv 2) (fun _ _ => rfl)) (pv 3) (fun _ _ => rfl)))))
      (pss_one (ps_ret (pv 2))), ?_⟩
    obtain ⟨t, r, l, as, ep, et, er, el, hR⟩ := hp.ex
    refine ⟨_, rfl, q, rfl, ⟨_, hq⟩, for_tup (K := K) (a := q) (xs := ks.map V.int) (fun i σ H' => Same H H' ∧ ∃ v3, σ = [some (.ref p), some (.ref q), some (.int (led rs (ks.take i) s0)), v3]) ⟨Same.refl H, none, rfl⟩ (fun i σ H' _ p => hq.ext p.1) ?_ ?_⟩
    · rintro i y σ H1 hi ⟨sm, v3, rfl⟩
      rw [List.getElem?_map] at hi
      obtain ⟨j, ej, rfl⟩ := Option.map_eq_some_iff.mp hi
      obtain ⟨j0, j1⟩ := hix j (List.mem_of_getElem? ej)
      have hl0 := pt.led (hix.take i) h0 h1
      obtain ⟨row, eq, hql, hst, hb0, hb1⟩ := pt.stp hl0.1 hl0.2 j0 j1
      have hlen : as.length = rs.length := hR.1
      obtain ⟨ra, era, eat⟩ := at_ref (as := as) hl0.1 (by rw [hlen]; exact hl0.2)
      have hra := sm _ _ (hR.2 _ _ _ era eq)
      refine ⟨_, rfl, p, _, rfl, gRows (sm _ _ ep), _, rfl, r, _, _, _, rfl, rfl, SqL.of (sm _ _ er), eat, _, rfl, ra, _, _, _, rfl, rfl, SqL.of hra, at_int j0 (by omega), sm, some (.int j), ?_⟩
      have e : ks.take (i + 1) = ks.take i ++ [j] := by rw [List.take_add_one, ej]; rfl
      rw [e, led_snoc, hst]
      rfl
    · rintro σ H1 ⟨sm, v3, rfl⟩
      rw [List.length_map, List.take_length]
      exact ⟨_, rfl, k H1 sm⟩
end
end K1
set_option Elab.async false
set_option linter.all false
set_option maxRecDepth 100000
/-! marks and lots made -/
namespace K1
open PySem L2 LamX
abbrev sKInit : Stmt := inClass (top 28) 0
abbrev sLInit : Stmt := inClass (top 29) 0
abbrev sLGet : Stmt := inClass (top 29) 4
abbrev sLAfter : Stmt := inClass (top 29) 5
abbrev sLLook : Stmt := inClass (top 29) 6
abbrev sLRead : Stmt := inClass (top 29) 7
abbrev sChkV : Stmt := top 30
/-- a mark's parts: a machine over the deeds, a rule -/
structure Pm where
  rs : List (List Int)
  ss : List Str
  st : Int
  ru : Str
def rules : List Str := ["kept", "cleared"]
structure PmOk (ws : List Str) (m : Pm) : Prop where
  pt : Parts ws m.rs m.ss m.st
  ru : m.ru ∈ rules
def kf (x : Addr) (ru : Str) : List (Str × V) := putF "rule" (.str ru) (putF "machine" (.ref x) [])
def lf (q b : Addr) : List (Str × V) := putF "begin" (.ref b) (putF "marks" (.ref q) [])
theorem kf_m (x : Addr) (ru : Str) : (kf x ru).lookup ("machine" : Str) = some (.ref x) := by
  unfold kf; rw [lookup_putF, if_neg (by decide +kernel), lookup_putF, if_pos rfl]
theorem kf_r (x : Addr) (ru : Str) : (kf x ru).lookup ("rule" : Str) = some (.str ru) := by
  unfold kf; rw [lookup_putF, if_pos rfl]
theorem lf_m (q b : Addr) : (lf q b).lookup ("marks" : Str) = some (.ref q) := by
  unfold lf; rw [lookup_putF, if_neg (by decide +kernel), lookup_putF, if_pos rfl]
theorem lf_b (q b : Addr) : (lf q b).lookup ("begin" : Str) = some (.ref b) := by
  unfold lf; rw [lookup_putF, if_pos rfl]
theorem lf_no (q b : Addr) {f : Str} (h1 : f ≠ "begin") (h2 : f ≠ "marks") : (lf q b).lookup f = none := by
  unfold lf; rw [lookup_putF, if_neg h1, lookup_putF, if_neg h2]; rfl
/-- what the classes bring -/
structure Tk (K : PySem.W.Frag) (mg : Str → Option Value) (C : Addr) : Prop where
  cl : Cls K C
  nM : NoAttr K C "machine"
  nR : NoAttr K C "rule"
  mgC : mg "Mark" = some (.ref C)
structure Tl2 (K : PySem.W.Frag) (mg : Str → Option Value) (C : Addr) : Prop where
  cl : Cls K C
  nM : NoAttr K C "marks"
  nB : NoAttr K C "begin"
  mgC : mg "Lot" = some (.ref C)
def MarkAt (K : PySem.W.Frag) (C CM : Addr) (H : Hp) (a : Addr) (ws : List Str) (m : Pm) : Prop := ∃ dx x, H a = some (.ins CM dx (kf x m.ru)) ∧ MachAt K C H x ws m.rs m.ss m.st
theorem MachAt.same {K : PySem.W.Frag} {C : Addr} {H H' : Hp} {x : Addr} {ws : List Str} {rs : List (List Int)} {ss : List Str} {st : Int} (h : MachAt K C H x ws rs ss st) (s : Same H H') : MachAt K C H' x ws rs ss st := by
  obtain ⟨dx, t, r, l, as, h1, h2, h3, h4, h5⟩ := h
  exact ⟨dx, t, r, l, as, s _ _ h1, h2.same s, s _ _ h3, h4.same s, s _ _ h5⟩
theorem MarkAt.same {K : PySem.W.Frag} {C CM : Addr} {H H' : Hp} {a : Addr} {ws : List Str} {m : Pm} (h : MarkAt K C CM H a ws m) (s : Same H H') : MarkAt K C CM H' a ws m := by
  obtain ⟨dx, x, h1, h2⟩ := h
  exact ⟨dx, x, s _ _ h1, h2.same s⟩
/-- kept but for x, an instance without fields: nothing of a machine is lost -/
theorem MachAt.kept {K : PySem.W.Frag} {C z Cz dz : Addr} {H H' : Hp} {x : Addr} {ws : List Str} {rs : List (List Int)} {ss : List Str} {st : Int} {fs : List (Str × V)} (h : MachAt K C H x ws rs ss st) (hz : H z = some (.ins Cz dz fs)) (hf : fs.lookup ("deeds" : Str) = none) (k : Kept z H H') : MachAt K C H' x ws rs ss st := by
  obtain ⟨dx, t, r, l, as, h1, h2, h3, h4, h5⟩ := h
  refine ⟨dx, t, r, l, as, k _ _ h1 (fun e => ?_), k.seqF hz (fun o ys e => by cases e) h2, k _ _ h3 (ne_of h3 hz (by intro z; cases z)), ⟨h4.1, fun i a r e1 e2 => k _ _ (h4.2 i a r e1 e2) (ne_of (h4.2 i a r e1 e2) hz (by intro z; cases z))⟩, k _ _ h5 (ne_of h5 hz (by intro z; cases z))⟩
  rw [e, hz] at h1
  cases h1
  rw [mf_deeds] at hf
  cases hf
theorem MarkAt.kept {K : PySem.W.Frag} {C CM z Cz dz : Addr} {H H' : Hp} {a : Addr} {ws : List Str} {m : Pm} {fs : List (Str × V)} (h : MarkAt K C CM H a ws m) (hz : H z = some (.ins Cz dz fs)) (hf : fs.lookup ("deeds" : Str) = none) (hf2 : fs.lookup ("rule" : Str) = none) (k : Kept z H H') : MarkAt K C CM H' a ws m := by
  obtain ⟨dx, x, h1, h2⟩ := h
  refine ⟨dx, x, k _ _ h1 (fun e => ?_), h2.kept hz hf k⟩
  rw [e, hz] at h1
  cases h1
  rw [kf_r] at hf2
  cases hf2
def MarksAt (K : PySem.W.Frag) (C CM : Addr) (H : Hp) (as : List Addr) (ws : List Str) (ms : List Pm) : Prop := as.length = ms.length ∧ ∀ (i : Nat) (a : Addr) (m : Pm), as[i]? = some a → ms[i]? = some m → MarkAt K C CM H a ws m
theorem MarksAt.same {K : PySem.W.Frag} {C CM : Addr} {H H' : Hp} {as : List Addr} {ws : List Str} {ms : List Pm} (h : MarksAt K C CM H as ws ms) (s : Same H H') : MarksAt K C CM H' as ws ms := ⟨h.1, fun i a m e1 e2 => (h.2 i a m e1 e2).same s⟩
theorem MarksAt.kept {K : PySem.W.Frag} {C CM z Cz dz : Addr} {H H' : Hp} {as : List Addr} {ws : List Str} {ms : List Pm} {fs : List (Str × V)} (h : MarksAt K C CM H as ws ms) (hz : H z = some (.ins Cz dz fs)) (hf : fs.lookup ("deeds" : Str) = none) (hf2 : fs.lookup ("rule" : Str) = none) (k : Kept z H H') : MarksAt K C CM H' as ws ms :=
  ⟨h.1, fun i a m e1 e2 => (h.2 i a m e1 e2).kept hz hf hf2 k⟩
theorem MarksAt.get {K : PySem.W.Frag} {C CM : Addr} {H : Hp} {as : List Addr} {ws : List Str} {ms : List Pm} (h : MarksAt K C CM H as ws ms) {i : Nat} (hi : i < ms.length) : ∃ a, as[i]? = some a ∧ ms[i]? = some ms[i] ∧ MarkAt K C CM H a ws ms[i] := by
  have hi' : i < as.length := by rw [h.1]; exact hi
  exact ⟨as[i], List.getElem?_eq_getElem hi', List.getElem?_eq_getElem hi, h.2 i _ _ (List.getElem?_eq_getElem hi') (List.getElem?_eq_getElem hi)⟩
def LotAt (K : PySem.W.Frag) (C CM CL : Addr) (H : Hp) (x : Addr) (ws : List Str) (ms : List Pm) : Prop := ∃ dx q b as, H x = some (.ins CL dx (lf q b)) ∧ SqT K H q (as.map V.ref) ∧ SqT K H b ((ms.map Pm.st).map V.int) ∧ MarksAt K C CM H as ws ms
theorem LotAt.same {K : PySem.W.Frag} {C CM CL : Addr} {H H' : Hp} {x : Addr} {ws : List Str} {ms : List Pm} (h : LotAt K C CM CL H x ws ms) (s : Same H H') : LotAt K C CM CL H' x ws ms := by
  obtain ⟨dx, q, b, as, h1, h2, h3, h4⟩ := h
  exact ⟨dx, q, b, as, s _ _ h1, h2.ext s, h3.ext s, h4.same s⟩
def spKInit (K : PySem.W.Frag) (CM : Addr) : Sp := fun vs H Q _ => ∃ (a dx x : Addr) (ru : Str), vs = [.ref a, .ref x, .str ru] ∧ H a = some (.ins CM dx []) ∧ ru ∈ rules ∧ ∀ H', H' a = some (.ins CM dx (kf x ru)) → Kept a H H' → Q .non H'
def spLInit (K : PySem.W.Frag) (C CM CL : Addr) : Sp := fun vs H Q _ => ∃ (x dx l : Addr) (as : List Addr) (ws : List Str) (ms : List Pm), vs = [.ref x, .ref l] ∧ H x = some (.ins CL dx []) ∧ SqL K H l (as.map V.ref) ∧ MarksAt K C CM H as ws ms ∧ ms.length ≤ 6 ∧ OkS ws ∧ ∀ H', LotAt K C CM CL H' x ws ms → Kept x H H' → Q .non H'
theorem rules_sh : SeqAt.shaped (.tuple (rules.map PyData.str)) = true := shaped_strs (fun z hz => (by decide +kernel : ∀ z ∈ rules, PyData.strOk z = true) z hz)
theorem rule_ok {z : Str} (h : z ∈ rules) : PyData.strOk z = true := (by decide +kernel : ∀ z ∈ rules, PyData.strOk z = true) z h
section
variable {P : Program} {w : World} {K : PySem.W.Frag} {mg : Str → Option Value} {base : Heap}
/-- the module's own constants -/
structure Bk (K : PySem.W.Frag) (mg : Str → Option Value) : Prop where
  RU : ∃ p, mg "RULES" = some (.ref p) ∧ ∀ H : Hp, SqT K H p (rules.map V.str)
  MM : ∃ t, mg "MOST_MARKS" = some (.int 6 t)
abbrev pKI : List Str := ["self", "machine", "rule"]
theorem scKI : FnScope pKI pKI (defScope sKInit) := ⟨rfl, rfl, rfl, by decide +kernel, rfl, by decide +kernel, by decide +kernel⟩
theorem ok_kinit {CM f : Addr} {fd : FuncData} (F : Fun K "__init__" "Mark.__init__" sKInit f fd) (M : Tk K mg CM) (B : Bk K mg) : FnOk P w K mg base CX0 1 f fd pKI (spKInit K CM) := by
  refine F.ok scKI (fun vs H Q E h => ?_) (fun cdv A outer s H vs Q E hr h => ?_)
  · obtain ⟨a, dx, x, ru, rfl, _⟩ := h
    rfl
  · obtain ⟨a, dx, x, ru, rfl, ha, hru, k⟩ := h
    obtain ⟨pR, gR, qR⟩ := B.RU
    refine ⟨_, pss_cons (ps_if (pt_cmpR (op_notInT (room65 hr)) (pv 2) (pe_glob (v := .ref pR) rfl gR rfl) (by rfl)) pss_never pss_nil)
      (pss_cons (ps_fld (pv 0) (pv 1) rfl) (pss_one (ps_fld (pv 0) (pv 2) rfl))), ?_⟩
    refine ⟨_, rfl, .str ru, _, .str _, .tup (qR H) (dp_strs rules), shaped_of (by rw [PyData.canLay0]; exact rule_ok hru) (Nat.zero_le _), rules_sh, _, rfl, ?_⟩
    have e1 : ((rules.map PyData.str).any fun q => PyData.eqv q (.str ru)) = true := by
      rw [List.any_eq_true]
      exact ⟨_, List.mem_map_of_mem hru, by rw [eqv_str]; simp⟩
    rw [if_pos rfl, e1]
    refine iteF ?_
    refine ⟨_, rfl, _, rfl, a, CM, dx, _, rfl, ha, M.cl, M.nM, by simp, ?_⟩
    refine ⟨_, rfl, _, rfl, a, CM, dx, _, rfl, upd_same, M.cl, M.nR, (by show 1 < 1000; decide), ?_⟩
    refine k _ upd_same fun b u e n => ?_
    rw [upd_ne n, upd_ne n]; exact e
def argOf : Expr → Expr
  | .Call _ (a :: _) _ _ => a
  | e => e
abbrev eLI : Expr := argOf (valOf (stOf sLInit 3))
abbrev scLo : Scope := compScope eLI
abbrev pLI : List Str := ["self", "marks"]
abbrev nLI : List Str := ["self", "marks", "mark"]
theorem scLI : FnScope nLI pLI (defScope sLInit) := ⟨rfl, rfl, rfl, by decide +kernel, rfl, by decide +kernel, by decide +kernel⟩
theorem ok_linit {C CM CL f : Addr} {fd : FuncData} (F : Fun K "__init__" "Lot.__init__" sLInit f fd) (M : Tm K mg C) (MK : Tk K mg CM) (ML : Tl2 K mg CL) (T : Bt2 mg) (B : Bk K mg) : FnOk P w K mg base CX0 1 f fd pLI (spLInit K C CM CL) := by
  refine F.ok scLI (fun vs H Q E h => ?_) (fun cdv A outer s H vs Q E hr h => ?_)
  · obtain ⟨x, dx, l, as, ws, ms, rfl, _⟩ := h
    rfl
  · obtain ⟨x, dx, l, as, ws, ms, rfl, hx, hl, hM, h6, ok, k⟩ := h
    obtain ⟨tM, gM⟩ := B.MM
    have hin : ∀ (s' : Shared) (H' : Hp) (C' : Addr) (cl' : List (Str × Addr)) (fp' : List Addr), PE (Cx.blk (cxOf CX0 P w K mg base nLI "Lot.__init__" (defScope sLInit) f cdv A outer s H E) s' H' scLo (compEnvC scLo cl' C' (cxOf CX0 P w K mg base nLI "Lot.__init__" (defScope sLInit) f cdv A outer s H E).env) fp')
        (eltOf eLI) (tFld K (tFld K (tVar 2) "machine") "start") := fun s' H' C' cl' fp' => pe_fld (pe_fld (pv 2) rfl) rfl
    refine ⟨_, pss_cons (ps_if (pt_cmpR op_gt (pe_callB call_len (by rfl) T.len PySem.boot_len (pa_cons (pv 1) pa_nil)) (pe_glob (v := .int 6) rfl gM ⟨_, rfl⟩) (nomark _)) pss_never pss_nil)
      (pss_cons (ps_for PassesOwn.never rfl (pi_list (pv 1)) (pg_name (i := 2) scLI.nd rfl (Or.inl rfl))
        (pss_one (ps_if (pt_cmpR (op_neD hr.units) (pe_fld (pe_fld (pv 2) rfl) rfl) (pe_fld (pe_fld (pe_ix ix_list (pv 1) pe_int (fun _ _ => rfl)) rfl) rfl) (nomark _)) pss_never pss_nil)))
      (pss_cons (ps_fld (pv 0) (pe_callTy (r := rTu K) call_tuple_of (by rfl) T.tuple PyProof.Rows.boot_tuple (pa_cons (pv 1) pa_nil)) rfl)
      (pss_one (ps_fld (pv 0) (pe_callTy (r := rTu K) call_tuple_of (by rfl) T.tuple PyProof.Rows.boot_tuple (pa_cons (pe_lc (own := [("mark", 2)]) (g := gName 2) (by rfl) scLI.nd (pi_list (pv 1))
          (blkOk_by (own := [("mark", 2)]) (N := nLI) (sc := defScope sLInit) (by decide +kernel)) (fun _ _ _ _ _ => pg_name (i := 2) scLI.nd rfl (Or.inl rfl)) (fun _ _ _ _ _ => pts_nil)
          hin) pa_nil)) rfl)))), ?_⟩
    have hln : (as.map V.ref).length = ms.length := by rw [List.length_map, hM.1]
    refine ⟨_, rfl, _, ms.length, rfl, .inl ⟨_, hl, hln.symm⟩, _, _, rfl, rfl, _, rfl, ?_⟩
    refine ite2 (fun h => absurd (of_decide_eq_true h) (by omega)) (fun _ => ?_)
    refine ⟨_, rfl, l, rfl, ⟨_, hl⟩, for_list (K := K) (a := l) (xs := as.map V.ref) (fun i σ H' => H' = H ∧ ∃ v2, σ = [some (.ref x), some (.ref l), v2]) ⟨rfl, none, rfl⟩ (fun i σ H' _ p => by rw [p.1]; exact hl) ?_ ?_⟩
    · rintro i y σ H1 hi ⟨rfl, v2, rfl⟩
      rw [List.getElem?_map] at hi
      obtain ⟨a, ea, rfl⟩ := Option.map_eq_some_iff.mp hi
      have hil : i < ms.length := by rw [← hM.1]; exact (List.getElem?_eq_some_iff.mp ea).1
      obtain ⟨a', ea', em, dk, xk, hk, mk⟩ := hM.get hil
      rw [ea] at ea'; cases ea'
      obtain ⟨a0, ea0, em0, dk0, xk0, hk0, mk0⟩ := hM.get (i := 0) (by omega)
      obtain ⟨dm, t, r, lt, bs, hm, htm, _⟩ := id mk
      obtain ⟨dm0, t0, r0, lt0, bs0, hm0, htm0, _⟩ := id mk0
      refine ⟨_, rfl, a, CM, dk, _, _, rfl, hk, MK.cl, MK.nM, kf_m _ _, xk, C, dm, _, _, rfl, hm, M.cl, M.nD, mf_deeds _ _ _ _, ?_⟩
      refine ⟨_, rfl, l, _, 0, _, rfl, rfl, hl, ?_, a0, CM, dk0, _, _, rfl, hk0, MK.cl, MK.nM, kf_m _ _, xk0, C, dm0, _, _, rfl, hm0, M.cl, M.nD, mf_deeds _ _ _ _, _, _, .tup htm.sq (dp_strs ws), .tup htm0.sq (dp_strs ws), shaped_strs ok, shaped_strs ok, _, rfl, ?_⟩
      · refine atI_nat (j := 0) ?_
        rw [List.getElem?_map, ea0]; rfl
      rw [PyData.eqv, eqv_strs]
      refine ite2 (fun h => absurd h (by simp)) (fun _ => ?_)
      exact ⟨rfl, _, rfl⟩
    · rintro σ H1 ⟨rfl, v2, rfl⟩
      refine ⟨_, rfl, l, _, rfl, .inl ⟨hl, fun q hq => ?_⟩⟩
      have s1 := same_upd (o := .tup (as.map V.ref)) hq
      have hx1 := s1 _ _ hx
      refine ⟨_, rfl, x, CL, dx, _, rfl, hx1, ML.cl, ML.nM, by simp, ?_⟩
      have nxq : q ≠ x := (ne_of_none hx hq).symm
      have k2 : Kept x H1 (upd (upd H1 q (.tup (as.map V.ref))) x (.ins CL dx (putF "marks" (.ref q) []))) := fun b u e n => by rw [upd_ne n]; exact s1 _ _ e
      have hx2 : upd (upd H1 q (.tup (as.map V.ref))) x (.ins CL dx (putF "marks" (.ref q) [])) x = some (.ins CL dx (putF "marks" (.ref q) [])) := upd_same
      have hq2 : upd (upd H1 q (.tup (as.map V.ref))) x (.ins CL dx (putF "marks" (.ref q) [])) q = some (.tup (as.map V.ref)) := by rw [upd_ne nxq]; exact upd_same
      have hM2 := hM.kept hx rfl rfl k2
      have hl2 : SqL K (upd (upd H1 q (.tup (as.map V.ref))) x (.ins CL dx (putF "marks" (.ref q) []))) l (as.map V.ref) := k2.seqI hx hl
      generalize upd (upd H1 q (.tup (as.map V.ref))) x (.ins CL dx (putF "marks" (.ref q) [])) = H2 at k2 hx2 hq2 hM2 hl2 ⊢
      refine ⟨_, rfl, l, rfl, ⟨_, hl2⟩, fun D hD => ?_⟩
      refine lc_list (K := K) (a := l) (xs := as.map V.ref) (fun i H' => Same H2 H' ∧ H' D = some (.lst ((ms.take i).map Pm.st |>.map V.int))) ?_ ?_ ?_ ?_
      · exact ⟨same_upd hD, upd_same⟩
      · exact fun i H' _ p => p.1.seq hl2
      · rintro i y H3 hi ⟨s3, hD3⟩
        rw [List.getElem?_map] at hi
        obtain ⟨a, ea, rfl⟩ := Option.map_eq_some_iff.mp hi
        have hil : i < ms.length := by rw [← hM.1]; exact (List.getElem?_eq_some_iff.mp ea).1
        obtain ⟨a', ea', em, dk, xk, hk, mk⟩ := (hM2.same s3).get hil
        rw [ea] at ea'; cases ea'
        obtain ⟨dm, t, r, lt, bs, hm, htm, _⟩ := id mk
        refine ⟨rfl, _, rfl, a, CM, dk, _, _, rfl, hk, MK.cl, MK.nM, kf_m _ _, xk, C, dm, _, _, rfl, hm, M.cl, M.nS, mf_start _ _ _ _, _, hD3, ?_, ?_, ?_⟩
        · rw [List.length_map, List.length_map, List.length_take]; exact small1000 (by omega)
        · exact fun b u e => by rw [upd_ne (ne_of_none e hD)]; exact s3 b u e
        · have e : ms.take (i + 1) = ms.take i ++ [ms[i]] := by rw [List.take_add_one, em]; rfl
          rw [upd_same, e, List.map_append, List.map_append]; rfl
      · rintro H3 ⟨s3, hD3⟩
        rw [List.length_map, hM.1, List.take_length] at hD3
        refine ⟨D, _, rfl, .inl ⟨SqL.of hD3, fun b hb => ?_⟩⟩
        have s4 := s3.trans (same_upd (o := .tup ((ms.map Pm.st).map V.int)) hb)
        have hx4 := s4 _ _ hx2
        refine ⟨_, rfl, x, CL, dx, _, rfl, hx4, ML.cl, ML.nB, (by show 1 < 1000; decide), ?_⟩
        have nxb : b ≠ x := (ne_of_none (s3 _ _ hx2) hb).symm
        have k5 : Kept x (upd H3 b (.tup ((ms.map Pm.st).map V.int))) (upd (upd H3 b (.tup ((ms.map Pm.st).map V.int))) x (.ins CL dx (lf q b))) := Kept.self
        refine k _ ⟨dx, q, b, as, upd_same, SqT.of (k5 _ _ (s4 _ _ hq2) nxq), SqT.of (by rw [upd_ne nxb]; exact upd_same), (hM2.same s4).kept hx4 rfl rfl k5⟩ ((k2.trans (Kept.same s4)).trans k5)
end
end K1
set_option Elab.async false
set_option linter.all false
set_option maxRecDepth 100000
/-! lots: len of machines, values checked, rows done -/
namespace L2
open PySem PySem.Spec PyProof.Rows
/-- len of an instance by its own __len__ -/
structure OwnL (K : PySem.W.Frag) (C f : Addr) : Prop where
  len : PySem.W.findIn K (.ref C) "__len__" = some (some (.ref f))
  fn : PySem.W.isFn K (.ref f) = true
def rLenOwn (C : Addr) (sp : Sp) (E : XK) : List V → Hp → VK → Prop := fun xs H Q => ∃ a dx fs, xs = [.ref a] ∧ H a = some (.ins C dx fs) ∧ sp [.ref a] H (fun v H' => ∃ n : Nat, v = .int (n : Int) ∧ n ≤ sizeLine ∧ Q (.int (n : Int)) H') E
theorem call_lenOwn {X : Cx} {n : Nat} {CX : CXT} {C f : Addr} {fd : FuncData} {ps : List Str} {sp : Sp} {E : XK} (O : OwnL X.K C f) (F : FnOk X.prog X.w X.K X.mg X.base CX n f fd ps sp) (hr : Room (n + 1) X.A) (hb : Binds X.K fd ps []) (hx : Passes CX X E) :
    CallR X (.builtin "len") (rLenOwn C sp E) := by
  intro pins s σ H xs us Q I r h
  obtain ⟨a, dx, fs, rfl, ha, hs⟩ := h
  obtain ⟨u, rfl, rx⟩ := vals1 r
  cases rx
  obtain ⟨mA, J, _⟩ := ins_get I.hok ha
  obtain ⟨od, J, _⟩ := J.look
  obtain ⟨m, hF⟩ := I.fr
  refine PySem.W.len_K hF I.ok.mod.kin J O.len O.fn ?_
  refine wpAny_mono (own_call (vs := [V.ref a]) F hb hx hr.in1 rfl I (.cons rfl .nil) hs) (fun u s' q => ?_) fun _ _ e => e
  obtain ⟨z, H', I', rz, n, rfl, hn, q⟩ := q
  obtain ⟨t, rfl⟩ := rz
  have hl := line63
  have : (sizeLine : Nat) = 16777216 := sizeLine_eq
  exact ⟨⟨by omega, by omega⟩, ⟨.int (n : Int), H', I'.tok _, ⟨_, rfl⟩, q⟩⟩
/-- zip of two tuples, walked -/
theorem walk_zipT {K : PySem.W.Frag} {a b : Addr} {xs ys : List V} {n : Nat} (hn : n = min xs.length ys.length) : Walk (RZ.ItzT K a b) n (fun H => SqT K H a xs ∧ SqT K H b ys) (YPair (fun i => xs[i]?) (fun i => ys[i]?)) := by
  refine ⟨fun i H hi h => ?_, fun H h => ⟨xs, ys, h.1, h.2, by omega⟩, fun i H x H' hi h y => ?_⟩
  · have h1 : i < xs.length := by omega
    have h2 : i < ys.length := by omega
    exact ⟨xs, ys, _, _, h.1, h.2, List.getElem?_eq_getElem h1, List.getElem?_eq_getElem h2⟩
  · obtain ⟨T, x', y', e, hT, e2, f1, f2⟩ := y
    exact ⟨T, x', y', e, hT, e2, f1 xs h.1, f2 ys h.2⟩
end L2
namespace K1
open PySem L2 LamX
def spMLen (K : PySem.W.Frag) (C : Addr) : Sp := fun vs H Q _ => ∃ (x : Addr) (ws : List Str) (rs : List (List Int)) (ss : List Str) (st : Int), vs = [.ref x] ∧ MachAt K C H x ws rs ss st ∧ Q (.int (rs.length : Int)) H
/-- values of a lot's marks -/
def VOk (ms : List Pm) (vals : List Int) : Prop := vals.length = ms.length ∧ ∀ (i : Nat) (m : Pm) (v : Int), ms[i]? = some m → vals[i]? = some v → 0 ≤ v ∧ v < (m.rs.length : Int)
def ledL (ms : List Pm) (ks vals : List Int) : List Int := List.zipWith (fun m v => led m.rs ks v) ms vals
def seenL (ms : List Pm) (vals : List Int) : List Str := List.zipWith (fun m v => m.ss.getD v.toNat "") ms vals
def leftL (ms : List Pm) (vals : List Int) : List Int := List.zipWith (fun m v => if m.ru = ("cleared" : Str) then m.st else v) ms vals
theorem zw_get {α β γ : Type} {f : α → β → γ} {xs : List α} {ys : List β} {i : Nat} {x : α} {y : β} (h1 : xs[i]? = some x) (h2 : ys[i]? = some y) : (List.zipWith f xs ys)[i]? = some (f x y) := by
  rw [List.getElem?_zipWith, h1, h2]
theorem zw_inv {α β γ : Type} {f : α → β → γ} {xs : List α} {ys : List β} {i : Nat} {z : γ} (h : (List.zipWith f xs ys)[i]? = some z) : ∃ x y, xs[i]? = some x ∧ ys[i]? = some y ∧ z = f x y := by
  rw [List.getElem?_zipWith] at h
  cases hx : xs[i]? with
  | none => rw [hx] at h; simp at h
  | some x =>
    cases hy : ys[i]? with
    | none => rw [hx, hy] at h; simp at h
    | some y => rw [hx, hy] at h; exact ⟨x, y, rfl, rfl, by simpa using h.symm⟩
theorem VOk.len {ms : List Pm} {vals : List Int} (h : VOk ms vals) {γ : Type} (f : Pm → Int → γ) : (List.zipWith f ms vals).length = ms.length := by rw [List.length_zipWith, h.1]; simp
theorem VOk.led {ws : List Str} {ms : List Pm} {vals ks : List Int} (h : VOk ms vals) (ok : ∀ m ∈ ms, PmOk ws m) (ix : Ix ws.length ks) : VOk ms (ledL ms ks vals) := by
  refine ⟨h.len _, fun i m v em ev => ?_⟩
  obtain ⟨m', v', e1, e2, rfl⟩ := zw_inv ev
  rw [em] at e1; cases e1
  have hv := h.2 i m v' em e2
  exact (ok m (List.mem_of_getElem? em)).pt.led ix hv.1 hv.2
theorem VOk.left {ws : List Str} {ms : List Pm} {vals : List Int} (h : VOk ms vals) (ok : ∀ m ∈ ms, PmOk ws m) : VOk ms (leftL ms vals) := by
  refine ⟨h.len _, fun i m v em ev => ?_⟩
  obtain ⟨m', v', e1, e2, rfl⟩ := zw_inv ev
  rw [em] at e1; cases e1
  have hv := h.2 i m v' em e2
  have hs := (ok m (List.mem_of_getElem? em)).pt.st
  by_cases hc : m.ru = ("cleared" : Str)
  · rw [if_pos hc]; exact hs
  · rw [if_neg hc]; exact hv
theorem VOk.begin {ws : List Str} {ms : List Pm} (ok : ∀ m ∈ ms, PmOk ws m) : VOk ms (ms.map Pm.st) := by
  refine ⟨List.length_map _, fun i m v em ev => ?_⟩
  rw [List.getElem?_map, em] at ev
  cases ev
  exact (ok m (List.mem_of_getElem? em)).pt.st
/-- a row of the marks' deeds, or any row where there is no mark -/
def RowL (ws : List Str) (ms : List Pm) (row : List Str) (ks : List Int) : Prop := ms = [] ∨ (row = nm ws ks ∧ Ix ws.length ks ∧ ks.length ≤ 100)
def spChk (K : PySem.W.Frag) (C CM : Addr) : Sp := fun vs H Q _ => ∃ (q v : Addr) (as : List Addr) (ws : List Str) (ms : List Pm) (vals : List Int), vs = [.ref q, .ref v] ∧ SqT K H q (as.map V.ref) ∧ MarksAt K C CM H as ws ms ∧ SqT K H v (vals.map V.int) ∧ VOk ms vals ∧ ms.length ≤ 6 ∧ (∀ m ∈ ms, PmOk ws m) ∧ ∀ H', Same H H' → Q .non H'
def spLGet (K : PySem.W.Frag) (C CM CL : Addr) : Sp := fun vs H Q _ => ∃ (x : Addr) (i : Nat) (ws : List Str) (ms : List Pm) (m : Pm), vs = [.ref x, .int (i : Int)] ∧ LotAt K C CM CL H x ws ms ∧ ms[i]? = some m ∧ ∀ a, MarkAt K C CM H a ws m → Q (.ref a) H
def spLAfter (K : PySem.W.Frag) (C CM CL : Addr) : Sp := fun vs H Q _ => ∃ (x v r : Addr) (ws : List Str) (ms : List Pm) (vals ks : List Int) (row : List Str), vs = [.ref x, .ref v, .ref r] ∧ LotAt K C CM CL H x ws ms ∧ SqT K H v (vals.map V.int) ∧ VOk ms vals ∧ SqT K H r (row.map V.str) ∧ RowL ws ms row ks ∧ ms.length ≤ 6 ∧ (∀ m ∈ ms, PmOk ws m) ∧
  ∀ (p : Addr) (H' : Hp), H p = none → Same H H' → H' p = some (.tup ((ledL ms ks vals).map V.int)) → Q (.ref p) H'
def spLLook (K : PySem.W.Frag) (C CM CL : Addr) : Sp := fun vs H Q _ => ∃ (x v : Addr) (ws : List Str) (ms : List Pm) (vals : List Int), vs = [.ref x, .ref v] ∧ LotAt K C CM CL H x ws ms ∧ SqT K H v (vals.map V.int) ∧ VOk ms vals ∧ ms.length ≤ 6 ∧ (∀ m ∈ ms, PmOk ws m) ∧
  ∀ (p a b : Addr) (H' : Hp), H p = none → Same H H' → H' p = some (.tup [.ref a, .ref b]) → H' a = some (.tup ((seenL ms vals).map V.str)) → H' b = some (.tup ((leftL ms vals).map V.int)) → Q (.ref p) H'
section
variable {P : Program} {w : World} {K : PySem.W.Frag} {mg : Str → Option Value} {base : Heap}
theorem scMLen : FnScope ["self"] ["self"] (defScope sMLen) := ⟨rfl, rfl, rfl, by decide +kernel, rfl, by decide +kernel, by decide +kernel⟩
theorem ok_mlen {C f : Addr} {fd : FuncData} (F : Fun K "__len__" "Machine.__len__" sMLen f fd) (M : Tm K mg C) (T : Bt2 mg) : FnOk P w K mg base CX0 1 f fd ["self"] (spMLen K C) := by
  refine F.ok scMLen (fun vs H Q E h => ?_) (fun cdv A outer s H vs Q E hr h => ?_)
  · obtain ⟨x, ws, rs, ss, st, rfl, _⟩ := h
    rfl
  · obtain ⟨x, ws, rs, ss, st, rfl, ⟨dx, t, r, l, as, hx, ht, hr', hR, hl⟩, k⟩ := h
    refine ⟨_, pss_one (ps_ret (pe_callB call_len (by rfl) T.len PySem.boot_len (pa_cons (pe_fld (pv 0) rfl) pa_nil))), ?_⟩
    exact ⟨_, rfl, x, C, dx, _, _, rfl, hx, M.cl, M.nR, mf_rows _ _ _ _, _, rs.length, rfl, .inr ⟨_, SqT.of hr', by rw [List.length_map, hR.1]⟩, k⟩
theorem scLGet : FnScope ["self", "at"] ["self", "at"] (defScope sLGet) := ⟨rfl, rfl, rfl, by decide +kernel, rfl, by decide +kernel, by decide +kernel⟩
theorem ok_lget {C CM CL f : Addr} {fd : FuncData} (F : Fun K "__getitem__" "Lot.__getitem__" sLGet f fd) (ML : Tl2 K mg CL) : FnOk P w K mg base CX0 1 f fd ["self", "at"] (spLGet K C CM CL) := by
  refine F.ok scLGet (fun vs H Q E h => ?_) (fun cdv A outer s H vs Q E hr h => ?_)
  · obtain ⟨x, i, ws, ms, m, rfl, _⟩ := h
    rfl
  · obtain ⟨x, i, ws, ms, m, rfl, ⟨dx, q, b, as, hx, hq, hb, hM⟩, em, k⟩ := h
    have hi : i < ms.length := (List.getElem?_eq_some_iff.mp em).1
    obtain ⟨a, ea, em', mk⟩ := hM.get hi
    rw [em] at em'; cases em'
    refine ⟨_, pss_one (ps_ret (pe_ix ix_tup (pe_fld (pv 0) rfl) (pv 1) (fun _ _ => rfl))), ?_⟩
    refine ⟨_, rfl, x, CL, dx, _, _, rfl, hx, ML.cl, ML.nM, lf_m _ _, _, rfl, q, _, (i : Int), _, rfl, rfl, hq, atI_nat (j := i) (v := V.ref a) ?_, ?_⟩
    · rw [List.getElem?_map, ea]; rfl
    · exact k a mk
abbrev nChk : List Str := ["marks", "values", "index", "mark"]
theorem scChk : FnScope nChk ["marks", "values"] (defScope sChkV) := ⟨rfl, rfl, rfl, by decide +kernel, rfl, by decide +kernel, by decide +kernel⟩
theorem ok_chk {C CM f fX fI fL : Addr} {fd fdX fdI fdL : FuncData} (D : Df K mg "check_values" sChkV ["marks", "values"] f fd) (DX : Df K mg "is_index" sIsIndex ["value", "many"] fX fdX) (DI : Df K mg "is_integer" sIsInt ["value"] fI fdI) (M : Tm K mg C) (MK : Tk K mg CM) (T : Bt2 mg)
    (FL : Fun K "__len__" "Machine.__len__" sMLen fL fdL) (bL : Binds K fdL ["self"] []) (OL : OwnL K C fL) : FnOk P w K mg base CX0 3 f fd ["marks", "values"] (spChk K C CM) := by
  have GX : FnOk P w K mg base CX0 2 fX fdX ["value", "many"] spIsIndex := ok_isindex DX DI T
  have GL : FnOk P w K mg base CX0 1 fL fdL ["self"] (spMLen K C) := ok_mlen FL M T
  refine D.F.ok scChk (fun vs H Q E h => ?_) (fun cdv A outer s H vs Q E hr h => ?_)
  · obtain ⟨q, v, as, ws, ms, vals, rfl, _⟩ := h
    rfl
  · obtain ⟨q, v, as, ws, ms, vals, rfl, hq, hM, hv, ok, h6, hp, k⟩ := h
    have hr2 : Room 2 _ := hr.mono (by decide)
    refine ⟨_, pss_one (ps_for PassesOwn.never rfl (pi_enumT (by rfl) T.enumerate (pa_cons (pv 0) pa_nil)) (pg_tup (by rfl) (pgs_cons (pg_name (i := 2) scChk.nd rfl (Or.inl rfl)) (pgs_cons (pg_name (i := 3) scChk.nd rfl (Or.inl rfl)) pgs_nil)))
      (pss_one (ps_if (pt_not (pt_val (pe_call GX hr rfl DX.g DX.F.kp DX.b .nil pass0 (pa_cons (pe_ix ix_tup (pv 1) (pv 2) (fun _ _ => rfl)) (pa_cons (pe_callB (call_lenOwn OL GL hr2 bL pass0) (by rfl) T.len PySem.boot_len (pa_cons (pe_fld (pv 3) rfl) pa_nil)) pa_nil))))) pss_never pss_nil))), ?_⟩
    refine ⟨_, rfl, q, _, rfl, hq, for_it (walk_enumT (K := K) (a := q) (xs := as.map V.ref)) (fun i σ H' => Same H H' ∧ ∃ v2 v3, σ = [some (.ref q), some (.ref v), v2, v3]) ⟨Same.refl H, none, none, rfl⟩ (fun i σ H' _ p => hq.ext p.1) ?_ ?_⟩
    · rintro i y σ H1 H2 hi ⟨sm, v2, v3, rfl⟩ ⟨t, x1, x2, rfl, ht, rfl, e1, e2⟩
      cases e1
      replace e2 : (as.map V.ref)[i]? = some x2 := e2
      rw [List.getElem?_map] at e2
      obtain ⟨a, ea, rfl⟩ := Option.map_eq_some_iff.mp e2
      have hil : i < ms.length := by rw [← hM.1]; exact (List.getElem?_eq_some_iff.mp ea).1
      have sm2 := sm.trans (same_upd (o := .tup [V.int (i : Nat), V.ref a]) ht)
      obtain ⟨a', ea', em, dk, xk, hk, mk⟩ := (hM.same sm2).get hil
      rw [ea] at ea'; cases ea'
      obtain ⟨dm, t', r', lt, bs, hm, htm, _⟩ := id mk
      have hiv : i < vals.length := by rw [ok.1]; exact hil
      have ev := List.getElem?_eq_getElem hiv
      obtain ⟨v0, v1⟩ := ok.2 i _ _ em ev
      have hpt := (hp _ (List.getElem_mem hil)).pt.many.2
      refine ⟨t, _, rfl, SqT.of upd_same, rfl, _, _, rfl, _, _, rfl, rfl, ?_⟩
      refine ⟨_, rfl, _, rfl, v, _, (i : Int), _, rfl, rfl, hv.ext sm2, atI_nat (j := i) (v := V.int vals[i]) ?_, _, rfl, a, CM, dk, _, _, rfl, hk, MK.cl, MK.nM, kf_m _ _, xk, dm, _, rfl, hm, xk, ws, _, _, _, rfl, mk, _, rfl, ?_, vals[i], _, rfl, v0, v1, true, rfl, ?_⟩
      · rw [List.getElem?_map, ev]; rfl
      · exact Nat.le_trans hpt (by decide)
      · refine iteF ?_
        exact ⟨sm2, _, _, rfl⟩
    · rintro σ H1 ⟨sm, v2, v3, rfl⟩
      exact k H1 sm
end
end K1
set_option Elab.async false
set_option linter.all false
set_option maxRecDepth 100000
/-! zip of a tuple and a list -/
namespace L2
open PySem PySem.Spec PyProof.Rows
/-- the tuple at a and the list at b as they stand at each turn, the items in new pairs -/
def ItzM (K : PySem.W.Frag) (a b : Addr) : It :=
  ⟨fun i H => ∃ (xs ys : List V) (x y : V), SqT K H a xs ∧ SqL K H b ys ∧ xs[i]? = some x ∧ ys[i]? = some y,
    fun i H v H' => ∃ T x y, v = .ref T ∧ H T = none ∧ H' = upd H T (.tup [x, y]) ∧ (∀ xs, SqT K H a xs → xs[i]? = some x) ∧ ∀ ys, SqL K H b ys → ys[i]? = some y,
    fun i H => ∃ xs ys : List V, SqT K H a xs ∧ SqL K H b ys ∧ i = min xs.length ys.length⟩
theorem turn_zipM {P : Program} {w : World} {K : PySem.W.Frag} {elts : List Expr} {kk : Nat} {tpos : Pos} {a b z TI TO i1 i2 : Addr} (S : ZipSep2 z TI TO i1 i2 [i1, a] [i2, b]) (na : a ≠ i1) (nb : b ≠ i2) :
    Turn P w K (.Tuple elts kk tpos) (ItzM K a b) [z, TI, TO, i1, i2] z (fun i h => IsZip h z TI TO .none ∧ IsTupOf2 h TI (.ref i1) (.ref i2) ∧ (∃ x y, IsTupOf2 h TO x y) ∧ h.IsTupleIter i1 a i ∧ h.IsListIter i2 b i) where
  mem := by simp
  obj := fun i h st c hc => by
    obtain ⟨hz, hTI, ⟨x, y, hTO⟩, ⟨o1, e1, _, d1⟩, ⟨o2, e2, _, d2⟩⟩ := st
    have e' : c = z ∨ c = TI ∨ c = TO ∨ c = i1 ∨ c = i2 := by simpa using hc
    rcases e' with q | q | q | q | q
    · rw [q]; exact ⟨_, hz, fun v q => nomatch q⟩
    · rw [q]; exact ⟨_, hTI, fun v q => nomatch q⟩
    · rw [q]; exact ⟨_, hTO, fun v q => nomatch q⟩
    · rw [q]; exact ⟨o1, e1, fun v q => by rw [d1] at q; cases q⟩
    · rw [q]; exact ⟨o2, e2, fun v q => by rw [d2] at q; cases q⟩
  keep := fun i h h' st k => by
    obtain ⟨hz, hTI, ⟨x, y, hTO⟩, h1, h2⟩ := st
    exact ⟨k z (by simp) _ hz, k TI (by simp) _ hTI, ⟨x, y, k TO (by simp) _ hTO⟩, h1.at fun o q => k i1 (by simp) o q, h2.at fun o q => k i2 (by simp) o q⟩
  item := by
    intro X hP hw hK hc i pins s σ H E I hf st hg
    subst hP hw hK
    obtain ⟨hz, hTI, hTO, h1, h2⟩ := id st
    obtain ⟨xs, ys, x, y, hqx, hqy, hx, hy⟩ := hg
    obtain ⟨its, rv, p, _⟩ := I.tuple hqx
    obtain ⟨its2, rv2, p2, _⟩ := I.list hqy
    obtain ⟨u, hu, ru⟩ := rv.get hx
    obtain ⟨u2, hu2, ru2⟩ := rv2.get hy
    have hh : X.A.in1.handled = none := I.ok.hd hc
    have D1 := Draws.tuple (prog := X.prog) (w := X.w) hh i1 a na its.toArray
    have D2 := Draws.list (prog := X.prog) (w := X.w) hh i2 b nb its2.toArray
    have hl1 : i < its.length := (List.getElem?_eq_some_iff.mp hu).1
    have hl2 : i < its2.length := (List.getElem?_eq_some_iff.mp hu2).1
    refine (GoesN.zip2 (elts := elts) (x1 := kk) (pos := tpos) S D1 D2).goes i s (fun v s2 => ∃ x H', Inv X pins σ H' s2 ∧ RelV x v ∧ (ItzM X.K a b).yld i H x H' ∧ (IsZip s2.heap z TI TO .none ∧ IsTupOf2 s2.heap TI (.ref i1) (.ref i2) ∧ (∃ x y, IsTupOf2 s2.heap TO x y) ∧ s2.heap.IsTupleIter i1 a (i + 1) ∧ s2.heap.IsListIter i2 b (i + 1)) ∧ ∀ c ∈ [z, TI, TO, i1, i2], H' c = none) E (by simp; omega) ⟨hz, hTI, hTO, ⟨h1, p⟩, ⟨h2, p2.isList⟩⟩ ?_
    rintro v h' tk ⟨T, x', y', rfl, hn, hx', hy', hT⟩ ⟨z', TI', TO', ⟨h1', _⟩, ⟨h2', _⟩⟩ hk htk
    have ex : x' = u := by
      have e : its[i]? = some x' := by simpa using hx'
      rw [hu] at e; exact (Option.some.inj e).symm
    have ey : y' = u2 := by
      have e : its2[i]? = some y' := by simpa using hy'
      rw [hu2] at e; exact (Option.some.inj e).symm
    subst ex ey
    have new : ObjOk X.prog X.w (upd H T (.tup [x, y])) h' T (.tup [x, y]) := ⟨by show 2 ≤ sizeLine; decide, [x', y'], .cons ru (.cons ru2 .nil), hT⟩
    have I1 : Inv X pins σ (upd H T (.tup [x, y])) { s with heap := h', toks := tk } :=
      I.turnedNew (t' := tk) (ch := [z, TI, TO, i1, i2]) (fun c o hb q => hk c o (fun hm => hb (by
        have e' : c = z ∨ c = TO ∨ c = i1 ∨ c = i2 := by simpa using hm
        rcases e' with q | q | q | q <;> simp [q])) q) hf hn new
    refine ⟨.ref T, _, I1, rfl, ⟨T, x, y, rfl, I.hok.fresh hn, rfl, fun l hl => by rw [I.tuple_inj hl hqx]; exact hx, fun l hl => by rw [I.list_inj hl hqy]; exact hy⟩, ⟨z', TI', TO', h1', h2'⟩, fun c hcm => ?_⟩
    obtain ⟨oc, hoc, _⟩ : ∃ o, s.heap.get? c = some o ∧ True := by
      obtain ⟨x0, y0, hTO'⟩ := hTO
      obtain ⟨o1, e1, _⟩ := h1
      obtain ⟨o2, e2, _⟩ := h2
      have e' : c = z ∨ c = TI ∨ c = TO ∨ c = i1 ∨ c = i2 := by simpa using hcm
      rcases e' with q | q | q | q | q
      · rw [q]; exact ⟨_, hz, trivial⟩
      · rw [q]; exact ⟨_, hTI, trivial⟩
      · rw [q]; exact ⟨_, hTO', trivial⟩
      · rw [q]; exact ⟨_, e1, trivial⟩
      · rw [q]; exact ⟨_, e2, trivial⟩
    have hlt : c < T := Nat.lt_of_lt_of_le (Heap.lt_size hoc) hn
    rw [upd_ne (Nat.ne_of_lt hlt)]
    exact (hf c hcm).1
  done := by
    intro X hP hw hK hc i pins s σ H E I hf st hg
    subst hP hw hK
    obtain ⟨hz, hTI, hTO, h1, h2⟩ := st
    obtain ⟨xs, ys, hqx, hqy, hend⟩ := hg
    obtain ⟨its, rv, p, _⟩ := I.tuple hqx
    obtain ⟨its2, rv2, p2, _⟩ := I.list hqy
    have l1 := rv.length
    have l2 := rv2.length
    have hh : X.A.in1.handled = none := I.ok.hd hc
    have D1 := Draws.tuple (prog := X.prog) (w := X.w) hh i1 a na its.toArray
    have D2 := Draws.list (prog := X.prog) (w := X.w) hh i2 b nb its2.toArray
    have en : i = min its.toArray.size its2.toArray.size := by rw [List.size_toArray, List.size_toArray, ← l1, ← l2]; exact hend
    subst en
    refine (GoesN.zip2 (elts := elts) (x1 := kk) (pos := tpos) S D1 D2).stops s _ E ⟨hz, hTI, hTO, ⟨h1, p⟩, ⟨h2, p2.isList⟩⟩ fun h' tk hk htk => ?_
    exact I.turnedL (t' := tk) (ch := [z, TI, TO, i1, i2]) (fun c o hb q => hk c o (fun hm => hb (by
        have e' : c = z ∨ c = TO ∨ c = i1 ∨ c = i2 := by simpa using hm
        rcases e' with q | q | q | q <;> simp [q])) q) hf
  self := fun A i s Q E st h => wpAny_pyIter_zip st.1 h
def iZipM (K : PySem.W.Frag) (ta : TA) : TI := fun σ H R => ta σ H fun vs H1 => ∃ a b xs ys, vs = [.ref a, .ref b] ∧ SqT K H1 a xs ∧ SqL K H1 b ys ∧ R (ItzM K a b) H1
theorem pi_zipM {X : Cx} {e e2 : Expr} {ta : TA} {p pos tpos : Pos} {elts : List Expr} {kk : Nat} (hg : Gl X "zip") (hm : X.mg "zip" = none) (ha : PA X [e, e2] ta)
    (hs : starEach [e, e2] X.env = (false, eval e X.env) :: starEach [e2] X.env := by rfl) (hpl : (backTo pos (starEach [e2] X.env)).any (·.1) = false := by rfl) :
    PI X (.Tuple elts kk tpos) (.Call (.Name "zip" p) [e, e2] [] pos) (iZipM X.K ta) := by
  refine ⟨fun pins s σ H R I h => ?_⟩
  refine Call_ (ld_blt I hg hm PyProof.Rows.boot_zip (PyProof.Rows.callWith_type1 (thn (ha.run pos pins s σ H _ I h) fun us s1 ⟨vs, H1, I1, r1, q1⟩ => ?_) hs hpl))
  obtain ⟨a, b, xs, ys, ex, hqx, hqy, q⟩ := q1
  subst ex
  cases r1 with
  | cons r rr =>
    cases rr with
    | cons r' rr =>
      cases rr
      cases r
      cases r'
      obtain ⟨its, rv, p1, _⟩ := I1.tuple hqx
      obtain ⟨its2, rv2, p2, _⟩ := I1.list hqy
      obtain ⟨o1, ho1, _⟩ := id p1
      have la : a < s1.heap.objs.size := Heap.lt_size ho1
      have lb : b < s1.heap.objs.size := p2.lt
      refine zip_begins2 (begins_tuple a its.toArray) (begins_list b its2.toArray) p1 p2.isList fun h' hz hTI hTO h1 h2 hsz hk => wpAny_pyIter_zip hz ?_
      have I2 : Inv X pins σ H1 { s1 with heap := h' } := I1.kept (t' := s1.toks) hk
      refine ⟨s1.heap.objs.size + 4, [s1.heap.objs.size + 4, s1.heap.objs.size + 2, s1.heap.objs.size + 3, s1.heap.objs.size, s1.heap.objs.size + 1], _, _, H1, rfl, I2,
        turn_zipM (zip_sep2 (fp1 := [a]) (fp2 := [b]) (fun c hc => by rw [List.mem_singleton.mp hc]; exact la) (fun c hc => by rw [List.mem_singleton.mp hc]; exact lb)) (Nat.ne_of_lt la) (Nat.ne_of_lt (Nat.lt_succ_of_lt lb)), ⟨hz, hTI, ⟨_, _, hTO⟩, ⟨_, h1, rfl, rfl⟩, ⟨_, h2, rfl, rfl⟩⟩, fun c hcm => ?_, q⟩
      have e' : c = s1.heap.objs.size + 4 ∨ c = s1.heap.objs.size + 2 ∨ c = s1.heap.objs.size + 3 ∨ c = s1.heap.objs.size ∨ c = s1.heap.objs.size + 1 := by simpa using hcm
      have hle : s1.heap.objs.size ≤ c := by
        rcases e' with z | z | z | z | z
        · rw [z]; exact Nat.le_add_right _ _
        · rw [z]; exact Nat.le_add_right _ _
        · rw [z]; exact Nat.le_add_right _ _
        · rw [z]; exact Nat.le_refl _
        · rw [z]; exact Nat.le_add_right _ _
      exact I1.fpOk hle (I1.hok.fresh hle)
/-- zip of a tuple and a list, walked -/
theorem walk_zipM {K : PySem.W.Frag} {a b : Addr} {xs ys : List V} {n : Nat} (hn : n = min xs.length ys.length) : Walk (ItzM K a b) n (fun H => SqT K H a xs ∧ SqL K H b ys) (YPair (fun i => xs[i]?) (fun i => ys[i]?)) := by
  refine ⟨fun i H hi h => ?_, fun H h => ⟨xs, ys, h.1, h.2, hn⟩, fun i H x H' hi h y => ?_⟩
  · have h1 : i < xs.length := by omega
    have h2 : i < ys.length := by omega
    exact ⟨xs, ys, _, _, h.1, h.2, List.getElem?_eq_getElem h1, List.getElem?_eq_getElem h2⟩
  · obtain ⟨T, x', y', e, hT, e2, f1, f2⟩ := y
    exact ⟨T, x', y', e, hT, e2, f1 xs h.1, f2 ys h.2⟩
end L2
set_option Elab.async false
set_option linter.all false
set_option maxRecDepth 100000
set_option maxHeartbeats 2000000
/-! a list comprehension whose items may raise, in a def that lets it out or in a try -/
namespace L2
open PySem PySem.Spec PyProof.Rows
/-- behind the block: its own environment cv is known -/
def afterBlk (M : Model) (A : Around) (E : Value → Shared → Prop) (Q : Value → Shared → Prop) (acc : Value) (cv : Env) (r : Result) (t : Shared) : Prop :=
  match r with
  | .ok _ => ∃ m, t.heap.Ns cv.locals m ∧ ∀ g, Heap.SameBut cv.locals t.heap g → Q acc { t with heap := g }
  | .error u => ∃ m, t.heap.Ns cv.locals m ∧ ∀ g, Heap.SameBut cv.locals t.heap g → wpAny M A (PySem.passOn "comprehension.variables-let-go" u cv : Sem Value) (fun _ _ => False) E { t with heap := g }
theorem blk_free {M : Model} {A : Around} {E : Value → Shared → Prop} {t : Shared} {env : Env} {c : Expr} {sc : Scope} {p : Pos} {mk fst : Sem Value} {cp : Comprehension} {cps : List Comprehension} {cls : List (Str × Addr)} {Q : Value → Shared → Prop}
    (a1 : clausesOf c = cp :: cps) (a2 : ∀ x, foldedSetIterable cp.iter env x = pure x) (a3 : closureFor sc env = pure cls) (a4 : sc.kind = .function) (a5 : ∀ x ∈ sc.names, x.2 = .local → sc.names.lookup x.1 = some .local)
    (go : wpAny M A fst (fun x t1 => wpAny M A (pyIter x) (fun it t2 => wpAny M A mk (fun acc t3 =>
      wpAny M A (newFunctionEnv sc env.globals cls [] env.qual none .none (some env)) (fun cv t4 =>
        codeAny M A (.compStart c 0 it acc { cv with scope := relabel sc env }) (afterBlk M A E Q acc { cv with scope := relabel sc env }) t4) E t3) E t2) E t1) E t) :
    wpAny M A (comprehension c sc env p mk false fst none) Q E t := by
  unfold comprehension
  rw [a3, a1]
  refine wpAny_bind (wpAny_mono go (fun x t1 g1 => wpAny_bind (wpAny_standAt (wpAny_bind (wpAny_of_eq (a2 x) (wpAny_bind (wpAny_holding (wpAny_mono g1 (fun it t2 g2 =>
    wpAny_standIf (wpAny_bind (wpAny_mono g2 (fun acc t3 g3 => wpAny_bind (wpAny_pure (wpAny_bind (wpAny_mono g3 (fun cv t4 g4 => ?_) fun _ _ z => z)))) fun _ _ z => z))) fun _ _ z => z))))))) fun _ _ z => z)
  dsimp only
  have own : ∀ x ∈ (sc.names.filter fun x => (x.2 == .local || x.2 == .cell) && x.1 != (".0" : Str)).reverse, x.2 = .local → Env.kindOf { cv with scope := relabel sc env } x.1 = some .local :=
    fun x hx hl => lookup_relabel_local (a5 x (List.mem_filter.mp (List.mem_reverse.mp hx)).1 hl)
  refine wpAny_holding (wpAny_bind (wpAny_attempt (wpAny_holding (wpAny_run (codeAny_mono g4 fun r t' hr => ?_)))))
  cases r with
  | ok f =>
    obtain ⟨m, hn, hr⟩ := hr
    exact wpAny_bind (wpAny_holding (wpAny_comp_letGo (cenv := { cv with scope := relabel sc env }) a4 _ t' m own hn fun g _ _ hs => wpAny_pure (hr g hs)))
  | error u =>
    obtain ⟨m, hn, hr⟩ := hr
    exact wpAny_bind (wpAny_holding (wpAny_comp_letGo (cenv := { cv with scope := relabel sc env }) a4 _ t' m own hn fun g _ _ hs => wpAny_mono (hr g hs) (fun _ _ f => f.elim) fun _ _ y => y))
theorem note_same {u : Value} {e e' : Env} (h : e.frame = e'.frame) : noteFrame u e = noteFrame u e' := by
  unfold noteFrame PySem.frameOf
  rw [h]
theorem frames_less {h h' B B' : Heap} {C : Addr} {oC : Obj} (hC : B.get? C = some oC) (hh : ∀ b, b ≠ C → h'.get? b = h.get? b) (hB : ∀ b, B.get? b = none → B'.get? b = none) : ∀ {l : List Env}, h.FunFrames B l → h'.FunFrames B' l
  | [], _ => trivial
  | env :: r, ⟨k, ⟨L, o, f1, f2, f3, f4⟩, q⟩ => ⟨k, ⟨L, o, f1, hB L f2, by rw [hh L (fun z => by rw [z, hC] at f2; cases f2)]; exact f3, f4⟩, frames_less hC hh hB q⟩
/-- what an item of the block let out -/
def XBlk (X : Cx) (Xb : Cx) (E : XK) : Value → Shared → Prop := fun u t => ∃ (pb : List (Addr × Obj)) (sb : St) (HM : Hp) (sM : Shared), Inv Xb pb sb HM sM ∧ CX X.prog X.w X.stack HM sM E u t
section
variable {X : Cx} {pins : List (Addr × Obj)} {σ : St} {H3 : Hp} {s3 : Shared} {scope : Scope} {ce : Env} {fp : List Addr} {E : XK} {W : WX}
theorem XBlk.out {Q : Value → Shared → Prop} {acc : Value} (e0 : X.stack = X.env :: X.outer) (e1 : X.env.frame = some X.env.locals) (I3 : Inv X pins σ H3 s3) (hcl : ce.locals = s3.heap.objs.size) (hcf : ce.frame = X.env.frame)
    (f3 : ∀ b ∈ fp, FpOk X pins H3 b) (tk : Takes X W) (hE : ∀ cls d H, E cls d H → W cls d σ H) {u : Value} {t : Shared} (x : XBlk X (X.blk s3 H3 scope ce fp) E u t) :
    notedBy (model X.prog X.w) X.A ce (fun e t' => afterBlk (model X.prog X.w) X.A X.xe Q acc ce (.error e) t') u t := by
  obtain ⟨pb, sb, HM, sM, Ib, a, B, H', cls, d, rfl, fl, hok, ub, na, os, ag, hE'⟩ := x
  generalize hCC : ce.locals = C at hcl
  have new3 : s3.heap.get? C = none := by
    cases e : s3.heap.get? C with
    | none => rfl
    | some o => exact absurd (Heap.lt_size e) (by rw [hcl]; exact Nat.lt_irrefl _)
  have fr : X.A.frames = some (X.env :: X.outer) := by rw [I3.ok.frames, e0]
  have nfr : C ∉ frs X.stack := by
    rw [e0]
    intro hm
    obtain ⟨v, hv, hf⟩ := List.mem_filterMap.mp hm
    rcases List.mem_cons.mp hv with z | z
    · rw [z, e1] at hf
      have : X.env.locals = C := Option.some.inj hf
      have lt := I3.lt
      rw [this, hcl] at lt
      exact absurd lt (Nat.lt_irrefl _)
    · exact I3.nofs (a := C) (by rw [hcl]; exact Nat.le_refl _) (List.mem_filterMap.mpr ⟨v, z, hf⟩)
  have HMC : HM C = none := by
    have z : HM ce.locals = none := Ib.free
    rwa [hCC] at z
  obtain ⟨mB, ns, _⟩ := Ib.loc
  have ns : sM.heap.Ns ce.locals mB := ns
  rw [hCC] at ns
  obtain ⟨oC, es, ep, gC, dC, rC⟩ := ns
  have BC : B.get? C = some oC := ub.keep C oC gC HMC nfr
  have H'C : H' C = none := ub.free C oC gC HMC
  have aB : B.get? a = none := fl.2.1
  have naC : a ≠ C := fun z => by rw [z, BC] at aB; cases aB
  show wpAny _ X.A (noteFrame (.ref a) ce) _ _ t
  rw [note_same hcf]
  refine HandSPX.looks_onZ Zc.steady fr e1 (e0 ▸ fl) fun g1 held up1 => ?_
  obtain ⟨st1, _, ff1, oe, vs, Tt, oT, ts, q1, q2, q3, q4, q5, q6, q7, q8, q9⟩ := held
  refine ⟨mB, ?_, fun g2 sb2 => ?_⟩
  · rw [hCC]; exact ⟨oC, es, ep, st1 _ _ BC, dC, rC⟩
  rw [hCC] at sb2
  -- the ground without the block's names
  obtain ⟨B', r1, r2⟩ := restrict B fun b => decide (b ≠ C)
  have rB : ∀ b, b ≠ C → B'.get? b = B.get? b := fun b hb => r1 b (decide_eq_true hb)
  have rC' : B'.get? C = none := r2 C (decide_eq_false fun z => z rfl)
  have rN : ∀ b, B.get? b = none → B'.get? b = none := fun b hb => by
    by_cases z : b = C
    · rw [z]; exact rC'
    · rw [rB b z]; exact hb
  have rS : ∀ b o, B'.get? b = some o → b ≠ C ∧ B.get? b = some o := fun b o hb => by
    by_cases z : b = C
    · rw [z, rC'] at hb; cases hb
    · rw [rB b z] at hb; exact ⟨z, hb⟩
  have nT : Tt ≠ C := fun z => by rw [z, BC] at q5; cases q5
  have held2 : HandSPX.HeldZ B' X.stack a (Zc cls d) X.env.locals g2 := by
    refine ⟨fun b o hb => ?_, rN a aB, by rw [e0]; exact frames_less BC (fun b hb => sb2.2 b hb) rN ff1, oe, vs, Tt, oT, ts, ?_, q2, q3, q4, rN _ q5, q6, ?_, q8, q9⟩
    · obtain ⟨z, hb'⟩ := rS b o hb
      rw [sb2.2 b z]; exact st1 _ _ hb'
    · rw [sb2.2 a naC]; exact q1
    · rw [sb2.2 Tt nT]; exact q7
  obtain ⟨_, _, _, oe2, vs2, Tt2, oT2, ts2, w1, w2, w3, w4, w5, w6, w7, w8, w9⟩ := id held2
  unfold PySem.passOn
  refine wpAny_bind (wpAny_field w1 w3 w4 ?_)
  rw [if_neg (show ¬ ((Value.ref Tt2 == Value.none) = true) from by simp)]
  rw [hcf, e1]
  refine wpAny_bind (HandSPX.setFlight_onZ held2 fun g3 held3 up3 => ?_)
  refine wpAny_throw (tk _ _ ?_)
  -- the state without the exception
  obtain ⟨G, k1, k2⟩ := restrict t.heap fun b => (B'.get? b).isSome || decide (b ∈ frs X.stack)
  have stT : ∀ b o, B.get? b = some o → t.heap.get? b = some o := fl.1
  have gB : ∀ b o, B'.get? b = some o → G.get? b = some o := fun b o e => by
    rw [k1 b (by simp [e])]
    exact stT b o (rS b o e).2
  have gF : ∀ b, b ∈ frs X.stack → G.get? b = t.heap.get? b := fun b hb => k1 b (by simp [hb])
  have og : ∀ b o, G.get? b = some o → t.heap.get? b = some o ∧ ((B'.get? b).isSome = true ∨ b ∈ frs X.stack) := fun b o e => by
    cases q : ((B'.get? b).isSome || decide (b ∈ frs X.stack)) with
    | false => rw [k2 b q] at e; cases e
    | true => rw [k1 b q] at e; exact ⟨e, by simpa [Bool.or_eq_true] using q⟩
  have base : Un (frs X.stack) fp H3 HM s3.heap sM.heap := Ib.base
  have ne3 : ∀ b o, s3.heap.get? b = some o → b ≠ C := fun b o e z => by rw [z, new3] at e; cases e
  have IX : Inv X pins σ H' { s3 with heap := G, gens := t.gens, drawn := t.drawn, toks := t.toks } := by
    refine I3.call (ch := fp) ⟨fun b o e n hb hx => ?_, fun b o e n hb hx => ?_, fun b o e n hx => ?_, fun b o e hx => ?_, fun b xs e => ub.tups b xs (base.tups b xs e), fun b o v e => ?_, fun b ps e => ?_⟩ ?_ ag fun b hb => ?_
    · have m1 := base.keep b o e n hb hx
      have m2 := ub.keep b o m1 (base.free b o e n hx) hb
      exact gB b o (by rw [rB b (ne3 b o e)]; exact m2)
    · obtain ⟨sl, m1⟩ := base.slot b o e n hb hx
      obtain ⟨sl2, m2⟩ := ub.slot b _ m1 hb
      exact ⟨sl2, by rw [gF b hb]; exact m2⟩
    · obtain ⟨sl, m1⟩ := base.any e n hx
      exact ub.free b _ m1 (base.free b o e n hx)
    · obtain ⟨o1, m1⟩ := base.there b o e hx
      by_cases hb : b ∈ frs X.stack
      · obtain ⟨sl, m2⟩ := ub.slot b o1 m1 hb
        exact ⟨_, by rw [gF b hb]; exact m2⟩
      · obtain ⟨o2, m2⟩ := ub.there b o1 m1 hb
        exact ⟨o2, gB b o2 (by rw [rB b (ne3 b o e)]; exact m2)⟩
    · exact ub.frzs b o v (base.frzs b o v e)
    · obtain ⟨more, m1⟩ := base.tbls b ps e
      obtain ⟨more2, m2⟩ := ub.tbls b _ m1
      exact ⟨more ++ more2, by rw [m2, Array.append_assoc]⟩
    · intro b v e
      refine (hok b v e).stay (fun c v' hc q => ?_) (fun _ q => q) fun _ _ q => q
      have nc : c ≠ C := by
        rcases hc with z | z
        · rw [z]; intro y; rw [y, H'C] at e; cases e
        · intro y; rw [y, H'C] at z; cases z
      exact gB c v' (by rw [rB c nc]; exact q)
    · exact ⟨(f3 b hb).2.2.2.1, (f3 b hb).2.1, (f3 b hb).2.2.2.2.1, (f3 b hb).2.2.2.2.2⟩
  refine ⟨a, B', _, pins, σ, H', cls, d, rfl, IX, fun b o e hb => ?_, ?_, .inr (.inr held3), na, ?_, ag, hE _ _ _ hE'⟩
  · obtain ⟨e', h⟩ := og b o e
    rcases h with h | h
    · obtain ⟨o', q⟩ := Option.isSome_iff_exists.mp h
      have z := stT b o' (rS b o' q).2
      rw [e'] at z; cases z
      exact q
    · exact absurd h hb
  · intro b o e hn
    obtain ⟨e', h⟩ := og b o e
    have nb : b ≠ C := by
      rcases h with h | h
      · obtain ⟨o', q⟩ := Option.isSome_iff_exists.mp h
        exact (rS b o' q).1
      · exact fun z => nfr (z ▸ h)
    obtain ⟨sl, m1⟩ := up1 b o e' hn
    have m2 : g2.get? b = some { o with slots := sl } := by rw [sb2.2 b nb]; exact m1
    obtain ⟨sl3, m3⟩ := up3 b _ m2 hn
    exact ⟨sl3, m3⟩
  · have o1 : sM.os = s3.os := Ib.os
    show t.os = s3.os
    rw [os, o1]
end
end L2
set_option Elab.async false
set_option linter.all false
set_option maxRecDepth 100000
set_option maxHeartbeats 2000000
/-! the rule: [elt for target in iter], elt may raise -/
namespace L2
open PySem PySem.Spec PyProof.Rows
section
variable {X : Cx}
/-- the context of the block's item: E is let out -/
abbrev Cx.blkX (X : Cx) (s : Shared) (H : Hp) (scope : Scope) (cv : Env) (fp : List Addr) (E : XK) : Cx := (X.blk s H scope cv fp).wish (XBlk X (X.blk s H scope cv fp) E)
theorem passBlk {s : Shared} {H : Hp} {scope : Scope} {cv : Env} {fp : List Addr} {E : XK} : Passes (L2.CX X.prog X.w) (X.blkX s H scope cv fp E) E := fun pins σ H s e s' I c => ⟨pins, σ, H, s, I.unwish, c⟩
theorem lc_coreX {pins : List (Addr × Obj)} {s : Shared} {σ : St} {H : Hp} {Q : VK} {elt tg iter : Expr} {ifs : List Expr} {scope : Scope} {own : List (Str × Nat)} {p p' : Pos} {wi : TI} {g : TG} {tt : TT} {te : XK → TE} {Qf : Value → Shared → Prop} {W : WX}
    (hc : X.calm = true) (e0 : X.stack = X.env :: X.outer) (e1 : X.env.frame = some X.env.locals) (tk : Takes X W) (hN : X.N.Nodup) (I : Inv X pins σ H s) (hi : PI X tg iter wi) (ok : BlkOk X.N X.env.scope scope own)
    (hg : ∀ (t : Shared) (G : Hp) (C : Addr) (cl : List (Str × Addr)) (fp : List Addr), PG (X.blk t G scope (compEnvC scope cl C X.env) fp) tg g) (ht : ∀ (t : Shared) (G : Hp) (C : Addr) (cl : List (Str × Addr)) (fp : List Addr), PTs (X.blk t G scope (compEnvC scope cl C X.env) fp) ifs tt)
    (he : ∀ (E : XK) (t : Shared) (G : Hp) (C : Addr) (cl : List (Str × Addr)) (fp : List Addr), PE (X.blkX t G scope (compEnvC scope cl C X.env) fp E) elt (te E)) (hs : ∀ x, foldedSetIterable iter X.env x = pure x)
    (h : tLc wi g tt (te fun cls d G => W cls d σ G) (own.map (·.2)) σ H Q)
    (fin : ∀ D C t m G, Inv X pins σ G t → Q (.ref D) G → t.heap.Ns C m → FpOk X pins G C → ∀ h', Heap.SameBut C t.heap h' → Qf (.ref D) { t with heap := h' }) :
    wpAny (model X.prog X.w) X.A (comprehension (.ListComp elt [⟨tg, iter, ifs, 0⟩] scope p) scope X.env p' (newList []) false (eval iter X.env) none) Qf X.xe s := by
  have fre : ∀ y ∈ scope.names, y.2 = .free → ∃ c, X.env.cells.lookup y.1 = some c := fun y hy e => (ok.free y hy e).elim (fun k => I.ok.has _ (.inl k)) fun k => I.ok.has _ (.inr k)
  refine blk_free rfl hs (closure_ok fre) ok.kind (fun y hy e => by rw [ok.uniq y hy, e]) (thn (hi.run pins s σ H _ I h) fun xv s1 hx => thn hx fun itv s2 h2 => ?_)
  obtain ⟨it, fp, tn, J, H2, e, I2, T, st2, f2, q⟩ := h2
  subst e
  refine wpAny_newObj_type (newEnv_comp ?_) (by show 0 ≤ sizeLine; decide)
  generalize hD : s2.heap.objs.size = D
  have fD : H2 D = none := I2.hok.fresh (Nat.le_of_eq hD)
  obtain ⟨Wt, ⟨m0, w0⟩, turn⟩ := q D fD
  -- the list to be filled
  generalize hs3 : ({ s2 with heap := s2.heap.push { cls := .type "list", data := .seq ([] : List Value).toArray } } : Shared) = s3
  have h3 : s3.heap = s2.heap.push { cls := .type "list", data := .seq ([] : List Value).toArray } := by rw [← hs3]
  have I3 : Inv X pins σ (upd H2 D (.lst [])) s3 := by
    rw [← hs3]
    exact I2.laid (t' := s2.toks) (fun b o z => Heap.get?_push_of_some _ z) (Nat.le_of_eq hD) ⟨Nat.zero_le _, [], 0, .nil, by rw [← hD]; exact Heap.get?_push_size _ rfl⟩
  have below : ∀ b ∈ fp, b < s2.heap.objs.size := fun b hb => (T.obj _ _ st2 b hb).elim fun o z => Heap.lt_size z.1
  have f3 : ∀ b ∈ fp, FpOk X pins (upd H2 D (.lst [])) b ∧ b < s3.heap.objs.size := fun b hb =>
    ⟨⟨by rw [upd_ne (by rw [← hD]; exact Nat.ne_of_lt (below b hb))]; exact (f2 b hb).1, (f2 b hb).2⟩, by rw [h3, Heap.size_push]; exact Nat.lt_succ_of_lt (below b hb)⟩
  have st3 : tn 0 s3.heap := T.keep _ _ _ st2 fun b _ o z => by rw [h3]; exact Heap.get?_push_of_some _ z
  have I4 := block_start I3 ok hN f3
  have pg := hg s3 (upd H2 D (.lst [])) s3.heap.objs.size (cellsFrom (s3.heap.objs.size + 1) scope.names (cloFrom X.env.cells scope.names [])) fp
  have pt := ht s3 (upd H2 D (.lst [])) s3.heap.objs.size (cellsFrom (s3.heap.objs.size + 1) scope.names (cloFrom X.env.cells scope.names [])) fp
  have pe := he (fun cls d G => W cls d σ G) s3 (upd H2 D (.lst [])) s3.heap.objs.size (cellsFrom (s3.heap.objs.size + 1) scope.names (cloFrom X.env.cells scope.names [])) fp
  show codeAny _ _ (.compStart (.ListComp elt [⟨tg, iter, ifs, 0⟩] scope p) 0 (.ref it) (.ref D) (compEnvC scope (cellsFrom (s3.heap.objs.size + 1) scope.names (cloFrom X.env.cells scope.names [])) s3.heap.objs.size X.env))
    (afterBlk (model X.prog X.w) X.A X.xe Qf (.ref D) (compEnvC scope (cellsFrom (s3.heap.objs.size + 1) scope.names (cloFrom X.env.cells scope.names [])) s3.heap.objs.size X.env)) { s3 with heap := pushCells (s3.heap.push { cls := .type "dict", data := .dict #[] }) scope.names }
  have cF : (compEnvC scope (cellsFrom (s3.heap.objs.size + 1) scope.names (cloFrom X.env.cells scope.names [])) s3.heap.objs.size X.env).frame = X.env.frame := rfl
  have cL : (compEnvC scope (cellsFrom (s3.heap.objs.size + 1) scope.names (cloFrom X.env.cells scope.names [])) s3.heap.objs.size X.env).locals = s3.heap.objs.size := rfl
  have nfp : ∀ b ∈ fp, (upd H2 D (.lst [])) b = none := fun b hb => (f3 b hb).1.1
  generalize compEnvC scope (cellsFrom (s3.heap.objs.size + 1) scope.names (cloFrom X.env.cells scope.names [])) s3.heap.objs.size X.env = ce at I4 pg pt pe cF cL ⊢
  generalize upd H2 D (.lst []) = H3 at I3 I4 pg pt pe w0 nfp f3
  generalize hs4 : ({ s3 with heap := pushCells (s3.heap.push { cls := .type "dict", data := .dict #[] }) scope.names } : Shared) = s4 at I4 ⊢
  have st4 : tn 0 s4.heap := T.keep _ _ _ st3 fun b _ o z => by rw [← hs4]; exact pushCells_keeps _ _ _ _ (Heap.get?_push_of_some _ z)
  have stat : ∀ {σ' : St} {G : Hp} {t : Shared}, Inv (X.blk s3 H3 scope ce fp) [] σ' G t → (∀ b ∈ fp, G b = none) → ∀ b ∈ fp, FpOk (X.blk s3 H3 scope ce fp) [] G b := fun {σ' G t} I' hn b hb =>
    ⟨hn b hb, (I'.ok.exf b hb).1, I'.ok.exfs b hb, .inl hb, fun x c z => (I'.ok.exf b hb).2 x c z, fun q hq => absurd (show q ∈ ([] : List (Addr × Obj)) ++ [] from hq) (by simp)⟩
  have loop : codeAny (model X.prog X.w) X.A (.compLoop (.ListComp elt [⟨tg, iter, ifs, 0⟩] scope p) 0 (.ref it) (.ref D) ce) (afterBlk (model X.prog X.w) X.A X.xe Qf (.ref D) ce) s4 := by
    refine compLoop_any (fun n t => ∃ i G, Inv (X.blk s3 H3 scope ce fp) [] (wipe σ (own.map (·.2))) G t ∧ tn i t.heap ∧ (∀ b ∈ fp, G b = none) ∧ Wt i n G) ?_ m0 ⟨0, H3, I4, st4, nfp, w0⟩
    rintro n s5 ⟨i, H5, I5, st5, n5, w5⟩
    rcases turn i n H5 w5 with ⟨stop, qq⟩ | ⟨goes, Nx, hNx, step⟩
    · refine thnF (T.done (X.blk s3 H3 scope ce fp) rfl rfl rfl hc i [] s5 _ H5 (fun _ _ => False) I5 (stat I5 n5) st5 stop) fun r s6 ⟨hr, I6⟩ => ?_
      subst hr
      have I7 : Inv X pins σ H5 s6 := I3.call' (ch := fp) I6.os I6.base I6.hok I6.bare fun b hb => ⟨(f3 b hb).1.2.2.2.1, (f3 b hb).1.2.1, (f3 b hb).1.2.2.2.2.1, (f3 b hb).1.2.2.2.2.2⟩
      have nC : H5 ce.locals = none := I6.free
      obtain ⟨m, hn, _⟩ := I6.loc
      exact ⟨m, hn, fin D ce.locals s6 m H5 I7 qq hn (I3.fpOk (by rw [cL]; exact Nat.le_refl _) nC)⟩
    · refine thnF (T.item (X.blk s3 H3 scope ce fp) rfl rfl rfl hc i [] s5 _ H5 (fun _ _ => False) I5 (stat I5 n5) st5 goes) fun r s6 ⟨u, hr, h6⟩ => ?_
      subst hr
      refine thnF h6 fun _ s7 ⟨x, H7, I7, r7, y7, st7, n7⟩ => ?_
      have I7' := I7.pinned (stat I7 n7) (T.obj _ _ st7)
      refine thnF (pg.run _ s7 _ H7 x u _ I7' r7 (step x H7 y7)) fun _ s8 ⟨σ8, H8, I8, hw8, q8⟩ => ?_
      refine thnF (pt.run _ s8 σ8 H8 _ I8 q8) fun b s9 ⟨H9, I9, q9⟩ => ?_
      have next : ∀ {t : Shared} {G : Hp}, Inv (X.blk s3 H3 scope ce fp) ([] ++ pinsAt fp s7.heap) σ8 G t → Nx G → ∃ m, m < n ∧ ∃ i G, Inv (X.blk s3 H3 scope ce fp) [] (wipe σ (own.map (·.2))) G t ∧ tn i t.heap ∧ (∀ b ∈ fp, G b = none) ∧ Wt i m G := fun {t G} I' nx => by
        obtain ⟨m', hm, w'⟩ := hNx G nx
        have kept : ∀ b ∈ fp, ∀ o, s7.heap.get? b = some o → t.heap.get? b = some o ∧ G b = none := fun b hb o z =>
          let y := I'.pin (b, o) (List.mem_append_right _ (List.mem_append_right _ (mem_pinsAt hb z)))
          ⟨y.1, y.2.1⟩
        refine ⟨m', hm, i + 1, G, (I'.unpinned (pins := [])).weak (by rw [← hw8, wipe_length]) (fun j v z => by rw [← hw8] at z; exact (wipe_some z).1), T.keep _ _ _ st7 fun b hb o z => (kept b hb o z).1, fun b hb => ?_, w'⟩
        obtain ⟨o, z, _⟩ := T.obj _ _ st7 b hb
        exact (kept b hb o z).2
      cases b with
      | false =>
        simp only [Bool.false_eq_true, if_false] at q9 ⊢
        exact next I9 q9
      | true =>
        simp only [if_true] at q9 ⊢
        refine wpAny_mono (pe.run _ s9 σ8 H9 _ (I9.wish _) q9) (fun z s10 ⟨yv, H10, I10, r10, acc, hD10, hz10, nx⟩ => ?_) fun u t x => XBlk.out e0 e1 I3 cL cF (fun b hb => (f3 b hb).1) tk (fun _ _ _ z => z) x
        exact app_ok (X := X.blk s3 H3 scope ce fp) I10.unwish hD10 hz10 r10 fun s11 I11 => next I11 nx
  exact codeAny_compStart_list loop (T.self X.A 0 _ _ _ st4 loop)
/-- as a value; what an item raises is wished for at the slots as they are -/
theorem pe_lcX {elt tg iter : Expr} {ifs : List Expr} {scope : Scope} {own : List (Str × Nat)} {p : Pos} {wi : TI} {g : TG} {tt : TT} {te : XK → TE} {W : WX} (hc : X.calm = true) (e0 : X.stack = X.env :: X.outer) (e1 : X.env.frame = some X.env.locals) (tk : Takes X W) (hN : X.N.Nodup) (hi : PI X tg iter wi) (ok : BlkOk X.N X.env.scope scope own)
    (hg : ∀ (t : Shared) (G : Hp) (C : Addr) (cl : List (Str × Addr)) (fp : List Addr), PG (X.blk t G scope (compEnvC scope cl C X.env) fp) tg g) (ht : ∀ (t : Shared) (G : Hp) (C : Addr) (cl : List (Str × Addr)) (fp : List Addr), PTs (X.blk t G scope (compEnvC scope cl C X.env) fp) ifs tt)
    (he : ∀ (E : XK) (t : Shared) (G : Hp) (C : Addr) (cl : List (Str × Addr)) (fp : List Addr), PE (X.blkX t G scope (compEnvC scope cl C X.env) fp E) elt (te E)) (hs : ∀ x, foldedSetIterable iter X.env x = pure x := by intro _; rfl) :
    PE X (.ListComp elt [⟨tg, iter, ifs, 0⟩] scope p) (fun σ H Q => tLc wi g tt (te fun cls d G => W cls d σ G) (own.map (·.2)) σ H Q) := by
  refine ⟨fun pins s σ H Q I h => ?_⟩
  rw [eval_ListComp]
  refine lc_coreX hc e0 e1 tk hN I hi ok hg ht he hs h fun D C t m G I' q hn f h' sb => ?_
  obtain ⟨f0, f1, f2, f3, f4, f5⟩ := f
  exact ⟨.ref D, G, I'.turned (t' := t.toks) (fun b o hb z => (sb.2 b hb).trans z) f0 f1 f3 f4 f5, rfl, q⟩
end
end L2
set_option Elab.async false
set_option linter.all false
set_option maxRecDepth 100000
/-! check_values of any values -/
namespace K1
open PySem L2 LamX
theorem Sq.ix {X : Cx} {a : Addr} {H : Hp} {xs : List V} {i : Nat} {y : V} {Q : VK} (h : Sq X.K H a xs) (e : xs[i]? = some y) (q : Q y H) : (fun x y H Q => rIxT X.K x y H Q ∨ rIxL X.K x y H Q) (.ref a) (.int (i : Int)) H Q := by
  rcases h with h | h
  · exact .inr ⟨a, xs, i, y, rfl, rfl, h, atI_nat e, q⟩
  · exact .inl ⟨a, xs, i, y, rfl, rfl, h, atI_nat e, q⟩
/-- the values below n are all states of their marks -/
def IxG (ms : List Pm) (vals : List V) (n : Nat) : Prop := ∀ (i : Nat) (m : Pm) (y : V), i < n → ms[i]? = some m → vals[i]? = some y → ixB y m.rs.length = true
def ThAll (K : PySem.W.Frag) (H : Hp) (vals : List V) : Prop := ∀ y ∈ vals, ∃ t, Th K H y t
theorem ThAll.same {K : PySem.W.Frag} {H H' : Hp} {vals : List V} (h : ThAll K H vals) (s : Same H H') : ThAll K H' vals := fun y hy => by
  obtain ⟨t, ht⟩ := h y hy
  exact ⟨t, ht.same s⟩
/-- what comes of the check: all is well, or the n-th is no state -/
def ChkE (CB : Addr) (ms : List Pm) (vals : List V) (H : Hp) (E : XK) (ok : Prop) : Prop := (IxG ms vals ms.length ∧ ok) ∨ ∃ (n : Nat) (m : Pm) (y : V), ms[n]? = some m ∧ vals[n]? = some y ∧ ixB y m.rs.length = false ∧ IxG ms vals n ∧ Rs CB ["state"] [.int (n : Nat)] H E
def spChkX (K : PySem.W.Frag) (C CM CB : Addr) : Sp := fun vs H Q E => ∃ (q v : Addr) (as : List Addr) (ws : List Str) (ms : List Pm) (vals : List V), vs = [.ref q, .ref v] ∧ SqT K H q (as.map V.ref) ∧ MarksAt K C CM H as ws ms ∧ Sq K H v vals ∧ vals.length = ms.length ∧ ThAll K H vals ∧ ms.length ≤ 6 ∧ (∀ m ∈ ms, PmOk ws m) ∧
  ChkE CB ms vals H E (∀ H', Same H H' → Q .non H')
section
variable {P : Program} {w : World} {K : PySem.W.Frag} {mg : Str → Option Value} {base : Heap}
theorem ok_chkX {C CM CB f fX fI fL fB : Addr} {fd fdX fdI fdL fdB : FuncData} (D : Df K mg "check_values" sChkV ["marks", "values"] f fd) (DX : Df K mg "is_index" sIsIndex ["value", "many"] fX fdX) (DI : Df K mg "is_integer" sIsInt ["value"] fI fdI) (M : Tm K mg C) (MK : Tk K mg CM) (T : Bt2 mg)
    (FL : Fun K "__len__" "Machine.__len__" sMLen fL fdL) (bL : Binds K fdL ["self"] []) (OL : OwnL K C fL) (OB : OBadState K mg CB fB fdB) : FnOk P w K mg base (L2.CX P w) 3 f fd ["marks", "values"] (spChkX K C CM CB) := by
  have GX : FnOk P w K mg base CX0 2 fX fdX ["value", "many"] (spIx K) := g_isindex DX DI T
  have GL : FnOk P w K mg base CX0 1 fL fdL ["self"] (spMLen K C) := ok_mlen FL M T
  refine D.F.okX scChk (fun vs H Q E h => ?_) (fun cdv A outer s H vs Q E hr h => ?_)
  · obtain ⟨q, v, as, ws, ms, vals, rfl, _⟩ := h
    rfl
  · obtain ⟨q, v, as, ws, ms, vals, rfl, hq, hM, hv, hlen, hth, h6, hp, k⟩ := h
    have hr2 : Room 2 _ := hr.mono (by decide)
    refine ⟨_, pss_one (ps_for (passes_of rfl) rfl (pi_enumT (by rfl) T.enumerate (pa_cons (pv 0) pa_nil)) (pg_tup (by rfl) (pgs_cons (pg_name (i := 2) scChk.nd rfl (Or.inl rfl)) (pgs_cons (pg_name (i := 3) scChk.nd rfl (Or.inl rfl)) pgs_nil)))
      (pss_one (ps_if (pt_not (pt_val (pe_call GX hr rfl DX.g DX.F.kp DX.b .nil pass0 (pa_cons (pe_ix (ix_tup.or ix_list) (pv 1) (pv 2) (fun _ _ => rfl)) (pa_cons (pe_callB (call_lenOwn OL GL hr2 bL pass0) (by rfl) T.len PySem.boot_len (pa_cons (pe_fld (pv 3) rfl) pa_nil)) pa_nil)))))
        (pss_one (ps_raise rfl (takes_of rfl rfl rfl rfl) (pmk_oex OB.T OB.ini OB.tI (ini_BadState OB) hr OB.b .nil pass0 rfl OB.g (pa_cons (pv 2) pa_nil)))) pss_nil))), ?_⟩
    refine ⟨_, rfl, q, _, rfl, hq, for_it (walk_enumT (K := K) (a := q) (xs := as.map V.ref)) (fun i σ H' => Same H H' ∧ IxG ms vals i ∧ ∃ v2 v3, σ = [some (.ref q), some (.ref v), v2, v3]) ⟨Same.refl H, fun i m y hi => absurd hi (Nat.not_lt_zero _), none, none, rfl⟩ (fun i σ H' _ p => hq.ext p.1) ?_ ?_⟩
    · rintro i y σ H1 H2 hi ⟨sm, hg, v2, v3, rfl⟩ ⟨t, x1, x2, rfl, ht, rfl, e1, e2⟩
      cases e1
      replace e2 : (as.map V.ref)[i]? = some x2 := e2
      rw [List.getElem?_map] at e2
      obtain ⟨a, ea, rfl⟩ := Option.map_eq_some_iff.mp e2
      have hil : i < ms.length := by rw [← hM.1]; exact (List.getElem?_eq_some_iff.mp ea).1
      have sm2 := sm.trans (same_upd (o := .tup [V.int (i : Nat), V.ref a]) ht)
      obtain ⟨a', ea', em, dk, xk, hk, mk⟩ := (hM.same sm2).get hil
      rw [ea] at ea'; cases ea'
      obtain ⟨dm, t', r', lt, bs, hm, htm, _⟩ := id mk
      have hiv : i < vals.length := by rw [hlen]; exact hil
      have ev := List.getElem?_eq_getElem hiv
      obtain ⟨ty, hty⟩ := (hth.same sm2) _ (List.getElem_mem hiv)
      have hpt := (hp _ (List.getElem_mem hil)).pt.many.2
      refine ⟨t, _, rfl, SqT.of upd_same, rfl, _, _, rfl, _, _, rfl, rfl, ?_⟩
      refine ⟨_, rfl, _, rfl, (hv.same sm2).ix ev ?_⟩
      refine ⟨_, rfl, a, CM, dk, _, _, rfl, hk, MK.cl, MK.nM, kf_m _ _, xk, dm, _, rfl, hm, xk, ws, _, _, _, rfl, mk, _, rfl, ?_, vals[i], ty, _, rfl, hty, ixB vals[i] (ms[i]).rs.length, rfl, ?_⟩
      · exact Nat.le_trans hpt (by decide)
      · cases hb : ixB vals[i] (ms[i]).rs.length with
        | true =>
          refine iteF ?_
          refine ⟨sm2, fun j m y hj g1 g2 => ?_, _, _, rfl⟩
          by_cases hji : j < i
          · exact hg j m y hji g1 g2
          · rw [show j = i by omega] at g1 g2
            rw [em] at g1
            rw [ev] at g2
            cases g1
            cases g2
            exact hb
        | false =>
          refine iteT ?_
          rcases k with ⟨kg, _⟩ | ⟨n, m, y, em', ey', hbad, hg', kr⟩
          · have := kg i _ _ hil em ev
            rw [hb] at this; cases this
          · have hn : n = i := by
              have h1 : ¬ n < i := fun h => by
                have := hg n m y h em' ey'
                rw [hbad] at this; cases this
              have h2 : ¬ i < n := fun h => by
                have := hg' i _ _ h em ev
                rw [hb] at this; cases this
              omega
            subst hn
            refine ⟨_, rfl, ?_⟩
            exact err_read (fs := ["state"]) (by decide) rfl (kr.same sm2)
    · rintro σ H1 ⟨sm, hg, v2, v3, rfl⟩
      rw [List.length_map, hM.1] at hg
      rcases k with ⟨_, k⟩ | ⟨n, m, y, em', ey', hbad, _⟩
      · exact k H1 sm
      · have := hg n m y (List.getElem?_eq_some_iff.mp em').1 em' ey'
        rw [hbad] at this; cases this
end
end K1
set_option Elab.async false
set_option linter.all false
set_option maxRecDepth 100000
/-! lots: after, look, of any values and rows -/
namespace K1
open PySem L2 LamX
abbrev pLA : List Str := ["self", "values", "row"]
abbrev nLA : List Str := ["self", "values", "row", "mark", "value"]
abbrev eLA : Expr := argOf (valOf (stOf sLAfter 1))
abbrev scLAo : Scope := compScope eLA
def lcTg : Expr → Expr
  | .ListComp _ (⟨t, _, _, _⟩ :: _) _ _ => t
  | e => e
def lcIt : Expr → Expr
  | .ListComp _ (⟨_, i, _, _⟩ :: _) _ _ => i
  | e => e
theorem scLA : FnScope nLA pLA (defScope sLAfter) := ⟨rfl, rfl, rfl, by decide +kernel, rfl, by decide +kernel, by decide +kernel⟩
theorem VOk.ixG {ms : List Pm} {vals : List Int} (h : VOk ms vals) : IxG ms (vals.map V.int) ms.length := fun i m y hi em ey => by
  rw [List.getElem?_map] at ey
  obtain ⟨z, ez, rfl⟩ := Option.map_eq_some_iff.mp ey
  obtain ⟨h0, h1⟩ := h.2 i m z em ez
  exact ix_of h0 h1
def BadV (CB : Addr) (ms : List Pm) (vals : List V) (H : Hp) (E : XK) : Prop := ∃ (n : Nat) (m : Pm) (y : V), ms[n]? = some m ∧ vals[n]? = some y ∧ ixB y m.rs.length = false ∧ IxG ms vals n ∧ Rs CB ["state"] [.int (n : Nat)] H E
def spLAfterX (K : PySem.W.Frag) (C CM CL CB CN : Addr) : Sp := fun vs H Q E => ∃ (x v r : Addr) (ws : List Str) (ms : List Pm) (vs0 row : List V), vs = [.ref x, .ref v, .ref r] ∧ LotAt K C CM CL H x ws ms ∧ Sq K H v vs0 ∧ vs0.length = ms.length ∧ ThAll K H vs0 ∧ SqT K H r row ∧ ms.length ≤ 6 ∧ (∀ m ∈ ms, PmOk ws m) ∧
  ((∃ (vals ks : List Int), vs0 = vals.map V.int ∧ VOk ms vals ∧
    ((∃ ro : List Str, row = ro.map V.str ∧ RowL ws ms ro ks ∧ ∀ (p : Addr) (H' : Hp), H p = none → Same H H' → H' p = some (.tup ((ledL ms ks vals).map V.int)) → Q (.ref p) H') ∨
     (ms ≠ [] ∧ ∃ (y : V) (d : PyData) (rest : List V), row = (nm ws ks).map V.str ++ y :: rest ∧ Ix ws.length ks ∧ ks.length ≤ 100 ∧ (∀ G, Same H G → Dp K G y d) ∧ SeqAt.shaped d = true ∧ (∀ z ∈ ws, PyData.eqv (.str z) d = false) ∧ Rs CN ["index"] [.int (ks.length : Nat)] H E))) ∨
   BadV CB ms vs0 H E)
def spLLookX (K : PySem.W.Frag) (C CM CL CB : Addr) : Sp := fun vs H Q E => ∃ (x v : Addr) (ws : List Str) (ms : List Pm) (vs0 : List V), vs = [.ref x, .ref v] ∧ LotAt K C CM CL H x ws ms ∧ SqT K H v vs0 ∧ vs0.length = ms.length ∧ ThAll K H vs0 ∧ ms.length ≤ 6 ∧ (∀ m ∈ ms, PmOk ws m) ∧
  ((∃ (vals : List Int), vs0 = vals.map V.int ∧ VOk ms vals ∧ ∀ (p a b : Addr) (H' : Hp), H p = none → Same H H' → H' p = some (.tup [.ref a, .ref b]) → H' a = some (.tup ((seenL ms vals).map V.str)) → H' b = some (.tup ((leftL ms vals).map V.int)) → Q (.ref p) H') ∨
   BadV CB ms vs0 H E)
section
variable {P : Program} {w : World} {K : PySem.W.Frag} {mg : Str → Option Value} {base : Heap}
theorem ok_lafterX {C CM CL CB CN f fC fA : Addr} {fd fdC fdA : FuncData} (F : Fun K "after" "Lot.after" sLAfter f fd) (M : Tm K mg C) (MK : Tk K mg CM) (ML : Tl2 K mg CL) (T : Bt2 mg) (hz : mg "zip" = none)
    (DC : Df K mg "check_values" sChkV ["marks", "values"] fC fdC) (GC : FnOk P w K mg base (L2.CX P w) 3 fC fdC ["marks", "values"] (spChkX K C CM CB)) (MA : Meth K C "after" fA) (bA : Binds K fdA pPath []) (GA : FnOk P w K mg base (L2.CX P w) 4 fA fdA pPath (spAfter K C CB CN)) :
    FnOk P w K mg base (L2.CX P w) 5 f fd pLA (spLAfterX K C CM CL CB CN) := by
  refine F.okX scLA (fun vs H Q E h => ?_) (fun cdv A outer s H vs Q E hr h => ?_)
  · obtain ⟨x, v, r, ws, ms, vs0, row, rfl, _⟩ := h
    rfl
  · obtain ⟨x, v, r, ws, ms, vs0, row, rfl, ⟨dx, q, b, as, hx, hq, hb, hM⟩, hv, hlen, hth, hrw, h6, hp, kk⟩ := h
    have hr3 : Room 3 (cxOf (L2.CX P w) P w K mg base nLA "Lot.after" (defScope sLAfter) f cdv A outer s H E).A := hr.mono (by decide)
    have hin : ∀ (E' : XK) (s' : Shared) (H' : Hp) (C' : Addr) (cl' : List (Str × Addr)) (fp' : List Addr), PE (Cx.blkX (cxOf (L2.CX P w) P w K mg base nLA "Lot.after" (defScope sLAfter) f cdv A outer s H E) s' H' scLAo (compEnvC scLAo cl' C' (cxOf (L2.CX P w) P w K mg base nLA "Lot.after" (defScope sLAfter) f cdv A outer s H E).env) fp' E')
        (eltOf eLA) (tMeth C "after" (spAfter K C CB CN) [] E' (tFld K (tVar 3) "machine") (tCons (tVar 2) (tCons (tVar 4) tNil))) := fun E' s' H' C' cl' fp' => pe_meth (pe_fld (pv 3) rfl) M.cl MA GA hr bA .nil passBlk (pa_cons (pv 2) (pa_cons (pv 4) pa_nil))
    have hln : ms.length = min (as.map V.ref).length vs0.length := by rw [List.length_map, hM.1, hlen]; simp
    obtain ⟨J, wi, hpi, hwi, hwk⟩ : ∃ (J : It) (wi : TI), PI (cxOf (L2.CX P w) P w K mg base nLA "Lot.after" (defScope sLAfter) f cdv A outer s H E) (lcTg eLA) (lcIt eLA) wi ∧ (∀ (σ : L2.St) (H1 : Hp) (R : It → Hp → Prop), σ[0]? = some (some (.ref x)) → σ[1]? = some (some (.ref v)) → Same H H1 → R J H1 → wi σ H1 R) ∧ Walk J ms.length (fun H' => Same H H') (YPair (fun i => (as.map V.ref)[i]?) (fun i => vs0[i]?)) := by
      rcases hv with hv | hv
      · exact ⟨_, _, pi_zipM (by rfl) hz (pa_cons (pe_fld (pv 0) rfl) (pa_cons (pv 1) pa_nil)), fun σ H1 R e0 e1 s1 k => ⟨_, e0, x, CL, dx, _, _, rfl, s1 _ _ hx, ML.cl, ML.nM, lf_m _ _, _, e1, q, v, _, _, rfl, hq.ext s1, s1.seq hv, k⟩, (walk_zipM hln).mono (fun H' s' => ⟨hq.ext s', s'.seq hv⟩) fun _ _ _ _ _ _ y => y⟩
      · exact ⟨_, _, RZ.pi_zipA (by rfl) hz (pa_cons (pe_fld (pv 0) rfl) (pa_cons (pv 1) pa_nil)), fun σ H1 R e0 e1 s1 k => ⟨_, e0, x, CL, dx, _, _, rfl, s1 _ _ hx, ML.cl, ML.nM, lf_m _ _, _, e1, q, v, _, _, rfl, .inr ⟨hq.ext s1, hv.ext s1, k⟩⟩, (walk_zipT hln).mono (fun H' s' => ⟨hq.ext s', hv.ext s'⟩) fun _ _ _ _ _ _ y => y⟩
    refine ⟨_, pss_cons (ps_expr (pe_call GC hr3 rfl DC.g DC.F.kp DC.b .nil (passes_call (takes_of rfl rfl rfl rfl) fun _ _ _ _ h => h) (pa_cons (pe_fld (pv 0) rfl) (pa_cons (pv 1) pa_nil))))
      (pss_one (ps_ret (pe_callTy (r := rTu K) call_tuple_of (by rfl) T.tuple PyProof.Rows.boot_tuple (pa_cons (pe_lcX (own := [("mark", 3), ("value", 4)]) (g := gTup K 2 (gCons (gName 3) (gCons (gName 4) gNil))) rfl rfl rfl (takes_of rfl rfl rfl rfl) scLA.nd hpi
          (blkOk_by (own := [("mark", 3), ("value", 4)]) (N := nLA) (sc := defScope sLAfter) (by decide +kernel)) (fun _ _ _ _ _ => pg_tup (by rfl) (pgs_cons (pg_name (i := 3) scLA.nd rfl (Or.inl rfl)) (pgs_cons (pg_name (i := 4) scLA.nd rfl (Or.inl rfl)) pgs_nil))) (fun _ _ _ _ _ => pts_nil)
          hin) pa_nil)))), ?_⟩
    refine ⟨_, rfl, x, CL, dx, _, _, rfl, hx, ML.cl, ML.nM, lf_m _ _, _, rfl, q, v, as, ws, ms, vs0, rfl, hq, hM, hv, hlen, hth, h6, hp, ?_⟩
    rcases kk with ⟨vals, ks, rfl, ok, kk⟩ | ⟨n, m, y, em, ey, hb, hg, kr⟩
    rotate_left
    · exact .inr ⟨n, m, y, em, ey, hb, hg, kr⟩
    refine .inl ⟨ok.ixG, fun H1 s1 => ?_⟩
    rcases kk with ⟨ro, rfl, rl, k⟩ | ⟨hne, y0, d, rest, rfl, ix, kl, hd, sd, nd, kr⟩
    · refine hwi _ _ _ rfl rfl s1 fun D hD => ?_
      refine lc_it hwk (fun i H' => Same H1 H' ∧ H' D = some (.lst (((ledL ms ks vals).take i).map V.int))) ?_ ?_ ?_ ?_
      · exact ⟨same_upd hD, upd_same⟩
      · exact fun i H' _ p => s1.trans p.1
      · rintro i y H2 H3 hi ⟨s2, hD2⟩ ⟨t, x1, x2, rfl, ht, rfl, e1, e2⟩
        replace e1 : (as.map V.ref)[i]? = some x1 := e1
        replace e2 : (vals.map V.int)[i]? = some x2 := e2
        rw [List.getElem?_map] at e1 e2
        obtain ⟨a, ea, rfl⟩ := Option.map_eq_some_iff.mp e1
        obtain ⟨vi, evi, rfl⟩ := Option.map_eq_some_iff.mp e2
        have s3 := (s1.trans s2).trans (same_upd (o := .tup [V.ref a, V.int vi]) ht)
        obtain ⟨a', ea', em, dk, xk, hk, mk⟩ := (hM.same s3).get hi
        rw [ea] at ea'; cases ea'
        obtain ⟨dm, t', r', lt, bs, hm, _⟩ := id mk
        obtain ⟨v0, v1⟩ := ok.2 i _ _ em evi
        have hD3 := (same_upd (o := .tup [V.ref a, V.int vi]) ht) _ _ hD2
        obtain ⟨erow, ix, kl⟩ : ro = nm ws ks ∧ Ix ws.length ks ∧ ks.length ≤ 100 := by
          rcases rl with e | e
          · rw [e] at hi; exact absurd hi (by simp)
          · exact e
        refine ⟨t, _, rfl, SqT.of upd_same, rfl, _, _, rfl, _, _, rfl, rfl, rfl, _, rfl, a, CM, dk, _, _, rfl, hk, MK.cl, MK.nM, kf_m _ _, xk, dm, _, rfl, hm, mf_after _ _ _ _, _, rfl, _, rfl, xk, r, .int vi, rfl, ?_⟩
        refine ⟨ws, _, _, _, ks, [], mk, (hp _ (List.getElem_mem hi)).pt, by rw [List.append_nil, ← erow]; exact .inr (hrw.ext s3), ix, kl, .inr ⟨vi, v0, v1, .inr rfl, .inl ⟨rfl, fun H4 s4 => ?_⟩⟩⟩
        have el : (ledL ms ks vals)[i]? = some (led (ms[i]).rs ks vi) := zw_get em evi
        refine ⟨_, s4 _ _ hD3, ?_, ?_, ?_⟩
        · rw [List.length_map, List.length_take]; exact small1000 (by omega)
        · exact fun c u e => by rw [upd_ne (ne_of_none e hD)]; exact s4 _ _ ((same_upd (o := .tup [V.ref a, V.int vi]) ht) _ _ (s2 c u e))
        · rw [upd_same, List.take_add_one, el, List.map_append]; rfl
      · rintro H2 ⟨s2, hD2⟩
        rw [List.take_of_length_le (by rw [ledL, ok.len]; exact Nat.le_refl _)] at hD2
        refine ⟨D, _, rfl, .inl ⟨SqL.of hD2, fun p hp' => ?_⟩⟩
        exact k p _ ((s1.trans s2).free hp') ((s1.trans s2).trans (same_upd hp')) upd_same
    · refine hwi _ _ _ rfl rfl s1 fun D hD => ?_
      refine lc_it hwk (fun i H' => Same H1 H' ∧ i = 0) ?_ ?_ ?_ ?_
      · exact ⟨same_upd hD, rfl⟩
      · exact fun i H' _ p => s1.trans p.1
      · rintro i y H2 H3 hi ⟨s2, _⟩ ⟨t, x1, x2, rfl, ht, rfl, e1, e2⟩
        replace e1 : (as.map V.ref)[i]? = some x1 := e1
        replace e2 : (vals.map V.int)[i]? = some x2 := e2
        rw [List.getElem?_map] at e1 e2
        obtain ⟨a, ea, rfl⟩ := Option.map_eq_some_iff.mp e1
        obtain ⟨vi, evi, rfl⟩ := Option.map_eq_some_iff.mp e2
        have s3 := (s1.trans s2).trans (same_upd (o := .tup [V.ref a, V.int vi]) ht)
        obtain ⟨a', ea', em, dk, xk, hk, mk⟩ := (hM.same s3).get hi
        rw [ea] at ea'; cases ea'
        obtain ⟨dm, t', r', lt, bs, hm, _⟩ := id mk
        obtain ⟨v0, v1⟩ := ok.2 i _ _ em evi
        refine ⟨t, _, rfl, SqT.of upd_same, rfl, _, _, rfl, _, _, rfl, rfl, rfl, _, rfl, a, CM, dk, _, _, rfl, hk, MK.cl, MK.nM, kf_m _ _, xk, dm, _, rfl, hm, mf_after _ _ _ _, _, rfl, _, rfl, xk, r, .int vi, rfl, ?_⟩
        exact ⟨ws, _, _, _, ks, y0 :: rest, mk, (hp _ (List.getElem_mem hi)).pt, .inr (hrw.ext s3), ix, kl, .inr ⟨vi, v0, v1, .inr rfl, .inr ⟨y0, d, rest, rfl, fun G sG => hd G (s3.trans sG), sd, nd, kr.same s3⟩⟩⟩
      · rintro H2 ⟨s2, h0⟩
        exact absurd (List.length_eq_zero_iff.mp h0) hne
abbrev nLL : List Str := ["self", "values", "reading", "later", "mark", "value"]
theorem scLL : FnScope nLL ["self", "values"] (defScope sLLook) := ⟨rfl, rfl, rfl, by decide +kernel, rfl, by decide +kernel, by decide +kernel⟩
theorem ok_llookX {C CM CL CB f fC : Addr} {fd fdC : FuncData} (F : Fun K "look" "Lot.look" sLLook f fd) (M : Tm K mg C) (MK : Tk K mg CM) (ML : Tl2 K mg CL) (T : Bt2 mg) (hz : mg "zip" = none)
    (DC : Df K mg "check_values" sChkV ["marks", "values"] fC fdC) (GC : FnOk P w K mg base (L2.CX P w) 3 fC fdC ["marks", "values"] (spChkX K C CM CB)) : FnOk P w K mg base (L2.CX P w) 4 f fd ["self", "values"] (spLLookX K C CM CL CB) := by
  refine F.okX scLL (fun vs H Q E h => ?_) (fun cdv A outer s H vs Q E hr h => ?_)
  · obtain ⟨x, v, ws, ms, vals, rfl, _⟩ := h
    rfl
  · obtain ⟨x, v, ws, ms, vs0, rfl, ⟨dx, q, b, as, hx, hq, hb, hM⟩, hv, hlen, hth, h6, hp, kk⟩ := h
    refine ⟨_, pss_cons (ps_expr (pe_call GC hr rfl DC.g DC.F.kp DC.b .nil (passes_call (takes_of rfl rfl rfl rfl) fun _ _ _ _ h => h) (pa_cons (pe_fld (pv 0) rfl) (pa_cons (pv 1) pa_nil))))
      (pss_cons (ps_set (i := 2) scLL.nd rfl (Or.inl rfl) (pe_lst pa_nil))
      (pss_cons (ps_set (i := 3) scLL.nd rfl (Or.inl rfl) (pe_lst pa_nil))
      (pss_cons (ps_for (passes_of rfl) rfl (RZ.pi_zipA (by rfl) hz (pa_cons (pe_fld (pv 0) rfl) (pa_cons (pv 1) pa_nil))) (pg_tup (by rfl) (pgs_cons (pg_name (i := 4) scLL.nd rfl (Or.inl rfl)) (pgs_cons (pg_name (i := 5) scLL.nd rfl (Or.inl rfl)) pgs_nil)))
        (pss_cons (ps_expr (pe_bm PySem.F.plainAttrs_list PySem.F.slot_list_append PySem.F.type_list_append mt_append (pv 2) (pa_cons (pe_ix ix_tup (pe_fld (pe_fld (pv 4) rfl) rfl) (pv 5) (fun _ _ => rfl)) pa_nil)))
        (pss_one (ps_expr (pe_bm PySem.F.plainAttrs_list PySem.F.slot_list_append PySem.F.type_list_append mt_append (pv 3) (pa_cons (pe_ifExp (pt_cmpR op_eq (pe_fld (pv 4) rfl) pe_str (nomark _)) (pe_fld (pe_fld (pv 4) rfl) rfl) (pv 5)) pa_nil))))))
      (pss_one (ps_ret (pe_tup (pa_cons (pe_callTy (r := rTu K) call_tuple_of (by rfl) T.tuple PyProof.Rows.boot_tuple (pa_cons (pv 2) pa_nil)) (pa_cons (pe_callTy (r := rTu K) call_tuple_of (by rfl) T.tuple PyProof.Rows.boot_tuple (pa_cons (pv 3) pa_nil)) pa_nil)))))))), ?_⟩
    refine ⟨_, rfl, x, CL, dx, _, _, rfl, hx, ML.cl, ML.nM, lf_m _ _, _, rfl, q, v, as, ws, ms, vs0, rfl, hq, hM, .inr hv, hlen, hth, h6, hp, ?_⟩
    rcases kk with ⟨vals, rfl, ok, k⟩ | ⟨n, m, y, em, ey, hb, hg, kr⟩
    rotate_left
    · exact .inr ⟨n, m, y, em, ey, hb, hg, kr⟩
    refine .inl ⟨ok.ixG, fun H1 s1 => ?_⟩
    refine ⟨Nat.zero_le _, fun rd hrd => ⟨Nat.zero_le _, fun lt hlt => ?_⟩⟩
    have s2 := (same_upd (o := .lst []) hrd).trans (same_upd (o := .lst []) hlt)
    have nrl : rd ≠ lt := ne_of_none upd_same hlt
    have zlt : H1 lt = none := (same_upd (o := .lst []) hrd).free hlt
    have er : upd (upd H1 rd (.lst [])) lt (.lst []) rd = some (.lst []) := by rw [upd_ne nrl]; exact upd_same
    have el : upd (upd H1 rd (.lst [])) lt (.lst []) lt = some (.lst []) := upd_same
    generalize upd (upd H1 rd (.lst [])) lt (.lst []) = H2 at s2 er el ⊢
    have s02 := s1.trans s2
    have hln : (as.map V.ref).length = (vals.map V.int).length := by rw [List.length_map, List.length_map, hM.1, ok.1]
    refine ⟨_, rfl, x, CL, dx, _, _, rfl, s02 _ _ hx, ML.cl, ML.nM, lf_m _ _, _, rfl, q, v, _, _, rfl, .inr ⟨hq.ext s02, hv.ext s02, RZ.for_zipT hln (fun i σ H' => Same H1 H' ∧ H' rd = some (.lst (((seenL ms vals).take i).map V.str)) ∧ H' lt = some (.lst (((leftL ms vals).take i).map V.int)) ∧ ∃ v4 v5, σ = [some (.ref x), some (.ref v), some (.ref rd), some (.ref lt), v4, v5]) ⟨s2, er, el, none, none, rfl⟩ (fun i σ H' p => ⟨hq.ext (s1.trans p.1), hv.ext (s1.trans p.1)⟩) ?_ ?_⟩⟩
    · rintro i x1 x2 t σ H3 e1 e2 ⟨s3, hr3, hl3, v4, v5, rfl⟩ ht
      rw [List.getElem?_map] at e1 e2
      obtain ⟨a, ea, rfl⟩ := Option.map_eq_some_iff.mp e1
      obtain ⟨vi, evi, rfl⟩ := Option.map_eq_some_iff.mp e2
      have hi : i < ms.length := by rw [← hM.1]; exact (List.getElem?_eq_some_iff.mp ea).1
      have st := same_upd (o := .tup [V.ref a, V.int vi]) ht
      have s4 := s3.trans st
      have hr4 := st _ _ hr3
      have hl4 := st _ _ hl3
      have est : upd H3 t (.tup [V.ref a, V.int vi]) t = some (.tup [V.ref a, V.int vi]) := upd_same
      generalize upd H3 t (.tup [V.ref a, V.int vi]) = H4 at st s4 hr4 hl4 est ⊢
      obtain ⟨a', ea', em, dk, xk, hk, mk⟩ := (hM.same (s1.trans s4)).get hi
      rw [ea] at ea'; cases ea'
      obtain ⟨dm, t', r', ltt, bs, hm, htm, hrm, hRm, hlm⟩ := id mk
      obtain ⟨v0, v1⟩ := ok.2 i _ _ em evi
      have pm := hp _ (List.getElem_mem hi)
      refine ⟨t, _, rfl, SqT.of est, rfl, _, _, rfl, _, _, rfl, rfl, ?_⟩
      refine ⟨_, rfl, .inl ⟨rfl, _, SqL.of hr4⟩, _, rfl, a, CM, dk, _, _, rfl, hk, MK.cl, MK.nM, kf_m _ _, xk, C, dm, _, _, rfl, hm, M.cl, M.nT, mf_tells _ _ _ _, _, rfl, ltt, _, vi, _, rfl, rfl, SqT.of hlm, at_deed v0 (by rw [pm.pt.tl.1]; exact v1), rd, _, _, rfl, rfl, hr4, ?_, ?_⟩
      · rw [List.length_map, List.length_take]; exact small1000 (by omega)
      have nr : ∀ c u, H1 c = some u → upd H4 rd (.lst (((seenL ms vals).take i).map V.str ++ [V.str (ms[i].ss.getD vi.toNat "")])) c = some u := fun c u e => by rw [upd_ne (ne_of_none e hrd)]; exact s4 _ _ e
      have hl5 : upd H4 rd (.lst (((seenL ms vals).take i).map V.str ++ [V.str (ms[i].ss.getD vi.toNat "")])) lt = some (.lst (((leftL ms vals).take i).map V.int)) := by rw [upd_ne nrl.symm]; exact hl4
      have hk5 : upd H4 rd (.lst (((seenL ms vals).take i).map V.str ++ [V.str (ms[i].ss.getD vi.toNat "")])) a = some (.ins CM dk (kf xk (ms[i]).ru)) := by rw [upd_ne (ne_of hk hr4 (by intro z; cases z))]; exact hk
      have hm5 : upd H4 rd (.lst (((seenL ms vals).take i).map V.str ++ [V.str (ms[i].ss.getD vi.toNat "")])) xk = some (.ins C dm (mf t' r' ltt (ms[i]).st)) := by rw [upd_ne (ne_of hm hr4 (by intro z; cases z))]; exact hm
      have er5 : upd H4 rd (.lst (((seenL ms vals).take i).map V.str ++ [V.str (ms[i].ss.getD vi.toNat "")])) rd = some (.lst (((seenL ms vals).take i).map V.str ++ [V.str (ms[i].ss.getD vi.toNat "")])) := upd_same
      generalize upd H4 rd (.lst (((seenL ms vals).take i).map V.str ++ [V.str (ms[i].ss.getD vi.toNat "")])) = H5 at nr hl5 hk5 hm5 er5 ⊢
      have esn : (seenL ms vals)[i]? = some (ms[i].ss.getD vi.toNat "") := zw_get em evi
      have elf : (leftL ms vals)[i]? = some (if ms[i].ru = ("cleared" : Str) then ms[i].st else vi) := zw_get em evi
      have fin : ∀ z : Int, z = (if ms[i].ru = ("cleared" : Str) then ms[i].st else vi) → Same H1 (upd H5 lt (.lst (((leftL ms vals).take i).map V.int ++ [V.int z]))) ∧ upd H5 lt (.lst (((leftL ms vals).take i).map V.int ++ [V.int z])) rd = some (.lst (((seenL ms vals).take (i + 1)).map V.str)) ∧ upd H5 lt (.lst (((leftL ms vals).take i).map V.int ++ [V.int z])) lt = some (.lst (((leftL ms vals).take (i + 1)).map V.int)) := by
        intro z ez
        refine ⟨fun c u e => by rw [upd_ne (ne_of_none e zlt)]; exact nr c u e, ?_, ?_⟩
        · rw [upd_ne nrl, er5, List.take_add_one, esn, List.map_append]; rfl
        · rw [upd_same, List.take_add_one, elf, List.map_append, ez]; rfl
      refine ⟨_, rfl, .inl ⟨rfl, _, SqL.of hl5⟩, _, rfl, a, CM, dk, _, _, rfl, hk5, MK.cl, MK.nR, kf_r _ _, rfl, _, rfl, ?_⟩
      refine ite2 (fun h => ?_) (fun h => ?_)
      · have hc : ms[i].ru = ("cleared" : Str) := by
          have := of_decide_eq_true h
          injection this
        refine ⟨_, rfl, a, CM, dk, _, _, rfl, hk5, MK.cl, MK.nM, kf_m _ _, xk, C, dm, _, _, rfl, hm5, M.cl, M.nS, mf_start _ _ _ _, lt, _, _, rfl, rfl, hl5, ?_, ?_⟩
        · rw [List.length_map, List.length_take]; exact small1000 (by omega)
        · obtain ⟨f1, f2, f3⟩ := fin ms[i].st (by rw [if_pos hc])
          exact ⟨f1, f2, f3, _, _, rfl⟩
      · have hc : ¬ ms[i].ru = ("cleared" : Str) := fun e => h (by rw [e]; simp)
        refine ⟨_, rfl, lt, _, _, rfl, rfl, hl5, ?_, ?_⟩
        · rw [List.length_map, List.length_take]; exact small1000 (by omega)
        · obtain ⟨f1, f2, f3⟩ := fin vi (by rw [if_neg hc])
          exact ⟨f1, f2, f3, _, _, rfl⟩
    · rintro σ H3 ⟨s3, hr3, hl3, v4, v5, rfl⟩
      have hml : (as.map V.ref).length = ms.length := by rw [List.length_map, hM.1]
      rw [hml, List.take_of_length_le (by rw [seenL, ok.len]; exact Nat.le_refl _)] at hr3
      rw [hml, List.take_of_length_le (by rw [leftL, ok.len]; exact Nat.le_refl _)] at hl3
      refine ⟨_, rfl, rd, _, rfl, .inl ⟨SqL.of hr3, fun a ha => ?_⟩⟩
      have sa := same_upd (o := .tup ((seenL ms vals).map V.str)) ha
      refine ⟨_, rfl, lt, _, rfl, .inl ⟨SqL.of (sa _ _ hl3), fun b' hb' => ⟨Nat.le_of_ble_eq_true rfl, fun p hp' => ?_⟩⟩⟩
      have sb := same_upd (o := .tup ((leftL ms vals).map V.int)) hb'
      have sp := same_upd (o := .tup [V.ref a, V.ref b']) hp'
      exact k p a b' _ (((s1.trans s3).trans (sa.trans sb)).free hp') ((s1.trans s3).trans (sa.trans (sb.trans sp))) upd_same (sp _ _ (sb _ _ upd_same)) (sp _ _ upd_same)
end
end K1
set_option Elab.async false
set_option linter.all false
set_option maxRecDepth 100000
/-! the end of a law whose defs make lambdas: the tables of all defs -/
namespace K1
open PySem PySem.Spec PyProof.Rows L2 LamX
/-- the code object of each def of the text and its table, still empty -/
def OwnTabs (q : Program) (mg : Str → Option Value) (h : Heap) : Prop :=
  ∀ e ∈ recsOf q, ∃ (f : Addr) (o : Obj) (fd : FuncData) (c P : Addr), mg e.name = some (.ref f) ∧ h.get? f = some o ∧ o.data = .func fd ∧ fd.code = .ref c ∧ PySem.W.CodeHd h c P ∧ h.get? P = some { cls := .none, data := .fields #[] }
theorem tab_at {q : Program} {mg : Str → Option Value} {K : PySem.W.Frag} {h : Heap} {x : Str} {f c P : Addr} {oc e : Value} {od dd : Option Addr} {fd : FuncData} {sl s2 : Array (Option Value)} {vs : Array Value} (X : K.In h) (O : OwnTabs q mg h) (hx : ((recsOf q).any fun e => e.name == x) = true)
    (g : mg x = some (.ref f)) (l : K.lookup f = some ⟨oc, od, .func fd, sl⟩) (hc : fd.code = .ref c) (lc : K.lookup c = some ⟨e, dd, .fields vs, s2⟩) (h11 : vs[11]? = some (.ref P)) : PySem.W.CodeHd h c P ∧ h.get? P = some { cls := .none, data := .fields #[] } := by
  obtain ⟨r, hr, er⟩ := List.any_eq_true.mp hx
  obtain ⟨f', o, fd', c', P', a1, a2, a3, a4, a5, a6⟩ := O r hr
  rw [beq_iff_eq.mp er, g] at a1
  cases a1
  rw [X _ _ l] at a2
  cases a2
  cases a3
  rw [hc] at a4
  cases a4
  obtain ⟨o, ws, _, _, _, _, _, _, _, b1, _, b3, b4, _⟩ := id a5
  rw [X _ _ lc] at b1
  cases b1
  cases b3
  rw [h11] at b4
  cases b4
  exact ⟨a5, a6⟩
theorem walk_tabs {l : PySem.W.OpenLaw} {n k : Nat} {q : Program} {loose : List Str} {XP : (Str → Option Value) → Heap → Prop} {YP : World → Heap → Prop} {d : DefRec} {K : Params → PySem.W.Frag} {CX : World → CXT} {x : Str}
    (hn : l.most = some n) (hs : n ≤ sizeLine) (hd : d.params.defaults = []) (hr : Room k callerA) (hY : ∀ (w : World) (h : Heap), YP w h → (K w.params).In h)
    (F : ∀ (w : World) (mg : Str → Option Value) (fa : Addr) (h : Heap), YP w h → (K w.params).In h → h.Ns mainGlobals mg → mg d.name = some (.ref fa) → OwnTabs q mg h → LawAtS l w (K w.params) (CX w) k n x mg fa h)
    (hC : ∀ (w : World) (H : Hp) (s : Shared) (e : Value) (s' : Shared), CX w [] H s (fun _ _ _ => False) e s' → False) :
    PySem.W.WalkO q loose XP YP l.row.toRowW d [] (fun f vs => PySem.call f vs) := by
  refine Att.attach_callB hn hd ?_
  intro w s₀ s₁ mg mb fa o pm cd doc a vs ns G Y ho hdt hcd hmg hobj hints hlen hbits hg
  have tabs : OwnTabs q mg s₁.heap := fun e he => by
    obtain ⟨f, o, fd, c, P, b1, b2, b3, b4, b5, b6⟩ := G.T.tab e he
    exact ⟨f, o, fd, c, P, b1, b2, b3, b4, PySem.W.CodeHd.of b5 b6, b6.2⟩
  obtain ⟨fd, cs, sp, t1, t2, t3, b, s, f⟩ := F w mg fa _ Y (hY w _ Y) G.T.g hmg tabs
  exact law_callTs (hY w _ Y) G.T.g G.T.b G.T.builtins G.T.nolimit hg t1 t2 t3 G.T.bmain hobj hints (Nat.le_trans hlen hs) hr f b (fun H hH hS => s H a ns hlen hbits hH hS) fun H e s' => hC w H s₁ e s'
theorem exm_of {K : PySem.W.Frag} {S N : Addr} {b : Bool} (h1 : PySem.W.subIn K (.ref N) (.type "BaseException") = some true) (h2 : PySem.W.isClsIn K N = true) (h3 : PySem.W.typeIn K (.ref N) = some (.type "type")) (h4 : PySem.W.subIn K (.ref S) (.ref N) = some b) :
    PySem.W.exmOne K (.ref S) (.ref N) = some b := by
  have e1 : (PySem.W.subIn K (.ref N) (.type "BaseException") == some true) = true := by rw [h1] <;> rfl
  have e2 : ((PySem.W.clsIn K N).isSome && PySem.W.typeIn K (.ref N) == some (.type "type")) = true := by
    have h2' : (PySem.W.clsIn K N).isSome = true := h2
    rw [h2', h3] <;> rfl
  show (if (PySem.W.subIn K (.ref N) (.type "BaseException") == some true) = true then (if ((PySem.W.clsIn K N).isSome && PySem.W.typeIn K (.ref N) == some (.type "type")) = true then PySem.W.subIn K (.ref S) (.ref N) else none) else none) = some b
  rw [if_pos e1, if_pos e2]
  exact h4
end K1
set_option Elab.async false
set_option linter.all false
set_option maxRecDepth 100000
/-! the law's lots -/
namespace K1
open PySem L2 LamX OwnT
abbrev sLot : Stmt := top 55
abbrev sLotM : Stmt := top 56
theorem PlainAt.pen {H H' : Hp} {d p : Addr} {kv : List (Key × V)} {ws : List Str} {rs : List (List Int)} {ss : List Str} {st : Int} (h : PlainAt H p ws rs ss st) (hd : H d = some (.dK kv)) (n : p ≠ d) (k : Kept d H H') : PlainAt H' p ws rs ss st := by
  obtain ⟨t, r, l, as, h1, h2, h3, h4, h5⟩ := h
  have ne : ∀ {a : Addr} {xs : List V}, H a = some (.lst xs) → a ≠ d := fun e => ne_of e hd (by intro z; cases z)
  exact ⟨t, r, l, as, k _ _ h1 n, k.seqF hd (fun o ys e => by cases e) h2, k _ _ h3 (ne h3), k _ _ h4 (ne h4), ⟨h5.1, fun i a q e1 e2 => k _ _ (h5.2 i a q e1 e2) (ne (h5.2 i a q e1 e2))⟩⟩
/-- pairs of a plain machine and a rule -/
def LotE (d : Addr) (H : Hp) (ts : List Addr) (ws : List Str) (ms : List Pm) : Prop := ts.length = ms.length ∧ ∀ (i : Nat) (t : Addr) (m : Pm), ts[i]? = some t → ms[i]? = some m → ∃ p, p ≠ d ∧ H t = some (.tup [.ref p, .str m.ru]) ∧ PlainAt H p ws m.rs m.ss m.st
theorem LotE.same {d : Addr} {H H' : Hp} {ts : List Addr} {ws : List Str} {ms : List Pm} (h : LotE d H ts ws ms) (s : Same H H') : LotE d H' ts ws ms := ⟨h.1, fun i t m e1 e2 => by
  obtain ⟨p, n, h1, h2⟩ := h.2 i t m e1 e2
  exact ⟨p, n, s _ _ h1, h2.same s⟩⟩
theorem LotE.pen {d : Addr} {H H' : Hp} {kv : List (Key × V)} {ts : List Addr} {ws : List Str} {ms : List Pm} (h : LotE d H ts ws ms) (hd : H d = some (.dK kv)) (k : Kept d H H') : LotE d H' ts ws ms := ⟨h.1, fun i t m e1 e2 => by
  obtain ⟨p, n, h1, h2⟩ := h.2 i t m e1 e2
  exact ⟨p, n, k _ _ h1 (ne_of h1 hd (by intro z; cases z)), h2.pen hd n k⟩⟩
theorem LotE.get {d : Addr} {H : Hp} {ts : List Addr} {ws : List Str} {ms : List Pm} (h : LotE d H ts ws ms) {i : Nat} (hi : i < ms.length) : ∃ t p, ts[i]? = some t ∧ ms[i]? = some ms[i] ∧ p ≠ d ∧ H t = some (.tup [.ref p, .str ms[i].ru]) ∧ PlainAt H p ws ms[i].rs ms[i].ss ms[i].st := by
  have hi' : i < ts.length := by rw [h.1]; exact hi
  obtain ⟨p, n, h1, h2⟩ := h.2 i _ _ (List.getElem?_eq_getElem hi') (List.getElem?_eq_getElem hi)
  exact ⟨ts[i], p, List.getElem?_eq_getElem hi', List.getElem?_eq_getElem hi, n, h1, h2⟩
theorem LotE.snoc {d : Addr} {H : Hp} {ts : List Addr} {ws : List Str} {ms : List Pm} {t p : Addr} {m : Pm} (h : LotE d H ts ws ms) (n : p ≠ d) (e : H t = some (.tup [.ref p, .str m.ru])) (hp : PlainAt H p ws m.rs m.ss m.st) : LotE d H (ts ++ [t]) ws (ms ++ [m]) := by
  refine ⟨by simp [h.1], fun i b q e1 e2 => ?_⟩
  by_cases hi : i < ts.length
  · rw [List.getElem?_append_left hi] at e1
    rw [List.getElem?_append_left (by rw [← h.1]; exact hi)] at e2
    exact h.2 i b q e1 e2
  · rw [List.getElem?_append_right (by omega)] at e1
    rw [List.getElem?_append_right (by rw [← h.1]; omega), ← h.1] at e2
    cases hj : i - ts.length with
    | zero =>
      rw [hj] at e1 e2
      simp at e1 e2
      subst e1; subst e2
      exact ⟨p, n, e, hp⟩
    | succ j => rw [hj] at e1; simp at e1
def LotP (d : Addr) (H : Hp) (l : Addr) (ws : List Str) (ms : List Pm) : Prop := ∃ ts : List Addr, H l = some (.lst (ts.map V.ref)) ∧ LotE d H ts ws ms
theorem LotP.same {d : Addr} {H H' : Hp} {l : Addr} {ws : List Str} {ms : List Pm} (h : LotP d H l ws ms) (s : Same H H') : LotP d H' l ws ms := by
  obtain ⟨ts, h1, h2⟩ := h
  exact ⟨ts, s _ _ h1, h2.same s⟩
theorem LotP.pen {d : Addr} {H H' : Hp} {kv : List (Key × V)} {l : Addr} {ws : List Str} {ms : List Pm} (h : LotP d H l ws ms) (hd : H d = some (.dK kv)) (k : Kept d H H') : LotP d H' l ws ms := by
  obtain ⟨ts, h1, h2⟩ := h
  exact ⟨ts, k _ _ h1 (ne_of h1 hd (by intro z; cases z)), h2.pen hd k⟩
theorem PenAt.dk {H : Hp} {d c : Addr} {n : Nat} (h : PenAt H d c n) : ∃ kv, H d = some (.dK kv) := by
  obtain ⟨_, _, _, hd, _⟩ := h
  exact ⟨_, hd⟩
def spLot (K : PySem.W.Frag) : Sp := fun vs H Q _ => ∃ (d c dl tl : Addr) (n M : Nat) (mo : Int) (ws ts : List Str), vs = [.ref d, .ref dl, .int (M : Int), .int mo, .ref tl] ∧ PenAt H d c n ∧ n ≤ 790000 ∧ SqL K H dl (ws.map V.str) ∧ dl ≠ d ∧ ws.length ≤ 26 ∧
  SqL K H tl (ts.map V.str) ∧ tl ≠ d ∧ 0 < ts.length ∧ ts.length ≤ 10 ∧ 1 ≤ mo ∧ mo ≤ 12 ∧ M ≤ 6 ∧
  ∀ (l : Addr) (ms : List Pm) (H' : Hp), H l = none → LotP d H' l ws ms → ms.length = M → (∀ m ∈ ms, GoodP ws m.rs m.ss m.st ts ∧ m.ru ∈ rules) → PenAt H' d c (n + 401 * M) → Kept d H H' → Q (.ref l) H'
section
variable {P : Program} {w : World} {K : PySem.W.Frag} {mg : Str → Option Value} {base : Heap}
abbrev pLot : List Str := ["_law_pen_here", "_law_deeds", "_law_many", "_law_most", "_law_tells"]
abbrev nLot : List Str := ["_law_pen_here", "_law_deeds", "_law_many", "_law_most", "_law_tells", "_law_k"]
theorem scLot : FnScope nLot pLot (defScope sLot) := ⟨rfl, rfl, rfl, by decide +kernel, rfl, by decide +kernel, by decide +kernel⟩
theorem ok_lot {f fP fK : Addr} {fd fdP fdK : FuncData} (D : Df K mg "_law_lot" sLot pLot f fd) (DP : Df K mg "_law_plain" sPlain pPlain fP fdP) (DK : Df K mg "_law_pick" sPick pPick fK fdK) (GP : FnOk P w K mg base CX0 3 fP fdP pPlain (spPlain K)) (GK : FnOk P w K mg base CX0 2 fK fdK pPick (spPickL K)) (T : Bt mg) : FnOk P w K mg base CX0 4 f fd pLot (spLot K) := by
  refine D.F.ok scLot (fun vs H Q E h => ?_) (fun cdv A outer s H vs Q E hr h => ?_)
  · obtain ⟨d, c, dl, tl, n, M, mo, ws, ts, rfl, _⟩ := h
    rfl
  · obtain ⟨d, c, dl, tl, n, M, mo, ws, ts, rfl, hp, hn, hdl, ndl, hws, htl, ntl, ht0, ht1, hm0, hm1, hM, k⟩ := h
    have hr2 : Room 2 _ := hr.mono (by decide)
    refine ⟨_, pss_one (ps_ret (pe_lc (own := [("_law_k", 5)]) (g := gName 5) (by rfl) scLot.nd (pi_range1 rfl T.range (pa_cons (pv 2) pa_nil))
        (blkOk_by (own := [("_law_k", 5)]) (N := nLot) (sc := defScope sLot) (by decide +kernel)) (fun _ _ _ _ _ => pg_name (i := 5) scLot.nd rfl (Or.inl rfl)) (fun _ _ _ _ _ => pts_nil)
        (fun _ _ _ _ _ => pe_tup (pa_cons (pe_call GP hr rfl DP.g DP.F.kp DP.b .nil pass0 (pa_cons (pv 0) (pa_cons (pv 1) (pa_cons (pv 3) (pa_cons (pv 4) pa_nil)))))
          (pa_cons (pe_call GK hr2 rfl DK.g DK.F.kp DK.b .nil pass0 (pa_cons (pv 0) (pa_cons (pe_lst (pa_cons pe_str (pa_cons pe_str pa_nil))) pa_nil))) pa_nil))))), ?_⟩
    refine ⟨_, rfl, (M : Int), rfl, by omega, by omega, fun D1 hD1 => ?_⟩
    rw [Int.toNat_natCast]
    obtain ⟨n1d, n1c⟩ := hp.ne hD1
    refine lc_range (lo := 0) (n := M) (fun i H' => ∃ (qs : List Addr) (ms : List Pm), ms.length = i ∧ H' D1 = some (.lst (qs.map V.ref)) ∧ (∀ G, (∀ b o, H b = none → b ≠ D1 → H' b = some o → G b = some o) → LotE d G qs ws ms) ∧ (∀ m ∈ ms, GoodP ws m.rs m.ss m.st ts ∧ m.ru ∈ rules) ∧ PenAt H' d c (n + 401 * i) ∧ Kept d H H') ?_ ?_ ?_
    · exact ⟨[], [], rfl, upd_same, fun G _ => ⟨rfl, fun i a r e => by simp at e⟩, by simp, hp.upd n1d n1c, (Kept.refl d H).upd hD1⟩
    · rintro i H1 hi ⟨qs, ms, hms, hD, hL, hg, hp1, k1⟩
      refine ⟨rfl, _, rfl, _, rfl, _, rfl, _, rfl, d, c, dl, tl, _, mo, ws, ts, rfl, hp1, by omega, k1.seq ndl hdl, ndl, hws, k1.seq ntl htl, ntl, ht0, ht1, hm0, hm1, fun p rs ss st H2 hp0 pl plk gp hp2 k2 => ?_⟩
      obtain ⟨npd, npc⟩ := hp1.ne hp0
      refine ⟨_, rfl, Nat.le_of_ble_eq_true rfl, fun lm hlm => ?_⟩
      have s3 := same_upd (o := .lst [V.str "kept", V.str "cleared"]) hlm
      refine ⟨d, c, lm, _, rules.map V.str, rfl, hp2.same s3, by omega, (hp2.ne hlm).1, SqL.of upd_same, by decide, by decide, fun x H4 hx hp4 k4 => ?_⟩
      obtain ⟨ru, hru, rfl⟩ := List.mem_map.mp hx
      refine ⟨Nat.le_of_ble_eq_true rfl, fun t ht => ?_⟩
      have s5 := same_upd (o := .tup [V.ref p, V.str ru]) ht
      have k25 : Kept d H2 (upd H4 t (.tup [V.ref p, V.str ru])) := ((Kept.same s3).trans k4).trans (.same s5)
      have k15 := k2.trans k25
      have k05 := k1.trans k15
      have hD5 := k15 _ _ hD n1d
      have et5 : upd H4 t (.tup [V.ref p, V.str ru]) t = some (.tup [V.ref p, V.str ru]) := upd_same
      have hp5 := hp4.same s5
      have zt1 : H1 t = none := by
        cases e : H1 t with
        | none => rfl
        | some o =>
          have nt : t ≠ d := (hp4.ne ht).1
          have := ((k2.trans (Kept.same s3)).trans k4) _ _ e nt
          rw [ht] at this; cases this
      generalize upd H4 t (.tup [V.ref p, V.str ru]) = H5 at k25 k15 k05 hD5 et5 hp5
      have ntD : t ≠ D1 := ne_of et5 hD5 (by intro z; cases z)
      obtain ⟨kv, hd0⟩ := hp.dk
      obtain ⟨kv1, hd1⟩ := hp1.dk
      have old : ∀ b, H1 b = none → H b = none := fun b e => by
        cases e0 : H b with
        | none => rfl
        | some o =>
          by_cases hb : b = d
          · rw [hb, hd1] at e; cases e
          · rw [k1 _ _ e0 hb] at e; cases e
      refine ⟨_, hD5, ?_, qs ++ [t], ms ++ [⟨rs, ss, st, ru⟩], by simp [hms], ?_, fun G hG => ?_, fun m hm => ?_, (hp5.upd n1d n1c).mono (by omega), k05.upd hD1⟩
      · rw [List.length_map, (hL H1 fun _ _ _ _ e => e).1]; exact small1000 (by omega)
      · rw [upd_same, List.map_append]; rfl
      · have g5 : ∀ b o, H b = none → b ≠ D1 → H5 b = some o → G b = some o := fun b o z n e => hG b o z n (by rw [upd_ne n]; exact e)
        have nd : ∀ b, H b = none → b ≠ d := fun b z e => by rw [e, hd0] at z; cases z
        refine (hL G fun b o z n e => g5 b o z n (k15 _ _ e (nd b z))).snoc npd (g5 _ _ (old _ zt1) ntD et5) (plk G fun b o z e => ?_)
        have zb := old b z
        exact g5 b o zb (fun e => by rw [e, hD] at z; cases z) (k25 _ _ e (nd b zb))
      · rcases List.mem_append.mp hm with h | h
        · exact hg m h
        · rw [List.mem_singleton.mp h]; exact ⟨gp, hru⟩
    · rintro H1 ⟨qs, ms, hms, hD, hL, hg, hp1, k1⟩
      exact k D1 ms H1 hD1 ⟨qs, hD, hL H1 fun _ _ _ _ e => e⟩ hms hg (hp1.mono (by omega)) k1
end
end K1
set_option Elab.async false
set_option linter.all false
set_option maxRecDepth 100000
/-! the law's lots made; what is seen; what is left; begin -/
namespace K1
open PySem L2 LamX OwnT
abbrev sSeen : Stmt := top 57
abbrev sLeft : Stmt := top 58
theorem MachAt.upL {K : PySem.W.Frag} {C D : Addr} {H : Hp} {x : Addr} {ws : List Str} {rs : List (List Int)} {ss : List Str} {st : Int} {xs ys : List V} (h : MachAt K C H x ws rs ss st) (hD : H D = some (.lst xs)) : MachAt K C (upd H D (.lst ys)) x ws rs ss st := by
  obtain ⟨dx, t, r, l, as, h1, h2, h3, h4, h5⟩ := h
  have ne : ∀ {a : Addr} {u : HO}, H a = some u → (∀ z, u ≠ .lst z) → upd H D (.lst ys) a = some u := fun e n => by rw [upd_ne (ne_of e hD (n xs))]; exact e
  exact ⟨dx, t, r, l, as, ne h1 (fun z e => by cases e), (Kept.self (x := D)).seqF hD (fun o ys e => by cases e) h2, ne h3 (fun z e => by cases e), ⟨h4.1, fun i a q e1 e2 => ne (h4.2 i a q e1 e2) (fun z e => by cases e)⟩, ne h5 (fun z e => by cases e)⟩
theorem MarksAt.upL {K : PySem.W.Frag} {C CM D : Addr} {H : Hp} {as : List Addr} {ws : List Str} {ms : List Pm} {xs ys : List V} (h : MarksAt K C CM H as ws ms) (hD : H D = some (.lst xs)) : MarksAt K C CM (upd H D (.lst ys)) as ws ms :=
  ⟨h.1, fun i a m e1 e2 => by
    obtain ⟨dx, x, h1, h2⟩ := h.2 i a m e1 e2
    exact ⟨dx, x, by rw [upd_ne (ne_of h1 hD (fun e => by cases e))]; exact h1, h2.upL hD⟩⟩
theorem MarksAt.snoc {K : PySem.W.Frag} {C CM : Addr} {H : Hp} {as : List Addr} {ws : List Str} {ms : List Pm} {a : Addr} {m : Pm} (h : MarksAt K C CM H as ws ms) (e : MarkAt K C CM H a ws m) : MarksAt K C CM H (as ++ [a]) ws (ms ++ [m]) := by
  refine ⟨by simp [h.1], fun i b q e1 e2 => ?_⟩
  by_cases hi : i < as.length
  · rw [List.getElem?_append_left hi] at e1
    rw [List.getElem?_append_left (by rw [← h.1]; exact hi)] at e2
    exact h.2 i b q e1 e2
  · rw [List.getElem?_append_right (by omega)] at e1
    rw [List.getElem?_append_right (by rw [← h.1]; omega), ← h.1] at e2
    cases hj : i - as.length with
    | zero =>
      rw [hj] at e1 e2
      simp at e1 e2
      subst e1; subst e2
      exact e
    | succ j => rw [hj] at e1; simp at e1
def spLotM (K : PySem.W.Frag) (C CM CL : Addr) : Sp := fun vs H Q _ => ∃ (d l : Addr) (ws : List Str) (ms : List Pm), vs = [.ref l] ∧ LotP d H l ws ms ∧ ms.length ≤ 6 ∧ OkS ws ∧ (∀ m ∈ ms, PmOk ws m) ∧
  ∀ (x : Addr) (H' : Hp), H x = none → Same H H' → LotAt K C CM CL H' x ws ms → Q (.ref x) H'
def spSeen (K : PySem.W.Frag) : Sp := fun vs H Q _ => ∃ (d l v : Addr) (ws : List Str) (ms : List Pm) (vals : List Int), vs = [.ref l, .ref v] ∧ LotP d H l ws ms ∧ SqT K H v (vals.map V.int) ∧ VOk ms vals ∧ ms.length ≤ 6 ∧ (∀ m ∈ ms, PmOk ws m) ∧
  ∀ (p : Addr) (H' : Hp), H p = none → Same H H' → H' p = some (.tup ((seenL ms vals).map V.str)) → Q (.ref p) H'
def spLeft (K : PySem.W.Frag) : Sp := fun vs H Q _ => ∃ (d l v : Addr) (ws : List Str) (ms : List Pm) (vals : List Int), vs = [.ref l, .ref v] ∧ LotP d H l ws ms ∧ SqT K H v (vals.map V.int) ∧ VOk ms vals ∧ ms.length ≤ 6 ∧
  ∀ (p : Addr) (H' : Hp), H p = none → Same H H' → H' p = some (.tup ((leftL ms vals).map V.int)) → Q (.ref p) H'
section
variable {P : Program} {w : World} {K : PySem.W.Frag} {mg : Str → Option Value} {base : Heap}
abbrev nLotM : List Str := ["_law_lot_here", "_law_plain_here", "_law_rule"]
theorem scLotM : FnScope nLotM ["_law_lot_here"] (defScope sLotM) := ⟨rfl, rfl, rfl, by decide +kernel, rfl, by decide +kernel, by decide +kernel⟩
theorem ok_lotm {C CM CL f fM fKI fLI : Addr} {fd fdM fdKI fdLI : FuncData} (D : Df K mg "_law_lot_made" sLotM ["_law_lot_here"] f fd) (DM : Df K mg "_law_made" sMade ["_law_plain_here"] fM fdM) (GM : FnOk P w K mg base CX0 7 fM fdM ["_law_plain_here"] (spMade K C)) (MK : Tk K mg CM) (ML : Tl2 K mg CL) 
    (MkK : Mk K CM fKI) (bK : Binds K fdKI pKI []) (GK : FnOk P w K mg base CX0 1 fKI fdKI pKI (spKInit K CM)) (MkL : Mk K CL fLI) (bL : Binds K fdLI pLI []) (GL : FnOk P w K mg base CX0 1 fLI fdLI pLI (spLInit K C CM CL)) : FnOk P w K mg base CX0 8 f fd ["_law_lot_here"] (spLotM K C CM CL) := by
  refine D.F.ok scLotM (fun vs H Q E h => ?_) (fun cdv A outer s H vs Q E hr h => ?_)
  · obtain ⟨d, l, ws, ms, rfl, _⟩ := h
    rfl
  · obtain ⟨d, l, ws, ms, rfl, ⟨qs, hl, hL⟩, h6, hws, hp, k⟩ := h
    have hr2 : Room 2 _ := hr.mono (by decide)
    refine ⟨_, pss_one (ps_ret (pe_make MkL GL hr2 rfl ML.mgC bL .nil pass0 (pa_cons (pe_lc (own := [("_law_plain_here", 1), ("_law_rule", 2)]) (g := gTup K 2 (gCons (gName 1) (gCons (gName 2) gNil))) (by rfl) scLotM.nd (pi_list (pv 0))
        (blkOk_by (own := [("_law_plain_here", 1), ("_law_rule", 2)]) (N := nLotM) (sc := defScope sLotM) (by decide +kernel)) (fun _ _ _ _ _ => pg_tup (by rfl) (pgs_cons (pg_name (i := 1) scLotM.nd rfl (Or.inl rfl)) (pgs_cons (pg_name (i := 2) scLotM.nd rfl (Or.inl rfl)) pgs_nil))) (fun _ _ _ _ _ => pts_nil)
        (fun _ _ _ _ _ => pe_make MkK GK hr2 rfl MK.mgC bK .nil pass0 (pa_cons (pe_call GM hr rfl DM.g DM.F.kp DM.b .nil pass0 (pa_cons (pv 1) pa_nil)) (pa_cons (pv 2) pa_nil)))) pa_nil))), ?_⟩
    have hln : (qs.map V.ref).length = ms.length := by rw [List.length_map, hL.1]
    refine ⟨_, rfl, l, rfl, ⟨_, SqL.of hl⟩, fun D1 hD1 => ?_⟩
    refine lc_list (K := K) (a := l) (xs := qs.map V.ref) (fun i H' => ∃ as : List Addr, Same H H' ∧ H' D1 = some (.lst (as.map V.ref)) ∧ MarksAt K C CM H' as ws (ms.take i)) ?_ ?_ ?_ ?_
    · exact ⟨[], same_upd hD1, upd_same, ⟨rfl, fun i a r e => by simp at e⟩⟩
    · rintro i H' _ ⟨as, sm, _⟩
      exact SqL.of (sm _ _ hl)
    · rintro i y H1 hi ⟨as, sm, hD, hM⟩
      rw [List.getElem?_map] at hi
      obtain ⟨t, et, rfl⟩ := Option.map_eq_some_iff.mp hi
      have hil : i < ms.length := by rw [← hL.1]; exact (List.getElem?_eq_some_iff.mp et).1
      obtain ⟨t', p, et', em, npd, e1, e2⟩ := hL.get hil
      rw [et] at et'; cases et'
      have pm := hp _ (List.getElem_mem hil)
      refine ⟨t, _, rfl, SqT.of (sm _ _ e1), rfl, _, _, rfl, _, _, rfl, rfl, rfl, ⟨_, rfl, p, ws, _, _, _, rfl, e2.same sm, pm.pt, fun x H2 hx mac s2 => ?_⟩⟩
      refine ⟨_, rfl, fun a da ha hda nda => ?_⟩
      have pre := made_pre (C := CM) ha hda
      refine ⟨a, da, x, _, rfl, upd_same, pm.ru, fun H3 e3 k3 => ⟨rfl, ?_⟩⟩
      have s3 := made_same ha hda k3
      have s13 := s2.trans s3
      have hD3 := s13 _ _ hD
      refine ⟨_, hD3, ?_, as ++ [a], ?_, ?_, ?_⟩
      · rw [List.length_map, hM.1, List.length_take]; exact small1000 (by omega)
      · exact fun b u e => by rw [upd_ne (ne_of_none e hD1)]; exact s13 _ _ (sm b u e)
      · rw [upd_same, List.map_append]; rfl
      · have e : ms.take (i + 1) = ms.take i ++ [ms[i]] := by rw [List.take_add_one, em]; rfl
        rw [e]
        exact ((hM.same s13).snoc ⟨da, x, e3, mac.same s3⟩).upL hD3
    · rintro H1 ⟨as, sm, hD, hM⟩
      rw [List.length_map, hL.1, List.take_length] at hM
      intro x dx hx hdx ndx
      have pre := made_pre (C := CL) hx hdx
      exact ⟨x, dx, D1, as, ws, ms, rfl, upd_same, SqL.of (pre _ _ hD), hM.same pre, h6, hws, fun G hG kG => ⟨rfl, k x G (sm.free hx) (sm.trans (made_same hx hdx kG)) hG⟩⟩
abbrev nSeen : List Str := ["_law_lot_here", "_law_values", "_law_k"]
theorem scSeen : FnScope nSeen ["_law_lot_here", "_law_values"] (defScope sSeen) := ⟨rfl, rfl, rfl, by decide +kernel, rfl, by decide +kernel, by decide +kernel⟩
theorem ok_seen {f : Addr} {fd : FuncData} (D : Df K mg "_law_seen" sSeen ["_law_lot_here", "_law_values"] f fd) (T : Bt mg) : FnOk P w K mg base CX0 1 f fd ["_law_lot_here", "_law_values"] (spSeen K) := by
  refine D.F.ok scSeen (fun vs H Q E h => ?_) (fun cdv A outer s H vs Q E hr h => ?_)
  · obtain ⟨d, l, v, ws, ms, vals, rfl, _⟩ := h
    rfl
  · obtain ⟨d, l, v, ws, ms, vals, rfl, ⟨qs, hl, hL⟩, hv, vok, h6, hp, k⟩ := h
    have hu := hu_of hr
    refine ⟨_, pss_one (ps_ret (pe_callTy (r := rTu K) call_tuple_of (by rfl) T.tuple PyProof.Rows.boot_tuple (pa_cons (pe_lc (own := [("_law_k", 2)]) (g := gName 2) (by rfl) scSeen.nd (pi_range1 rfl T.range (pa_cons (pe_callB call_len (by rfl) T.len PySem.boot_len (pa_cons (pv 0) pa_nil)) pa_nil))
        (blkOk_by (own := [("_law_k", 2)]) (N := nSeen) (sc := defScope sSeen) (by decide +kernel)) (fun _ _ _ _ _ => pg_name (i := 2) scSeen.nd rfl (Or.inl rfl)) (fun _ _ _ _ _ => pts_nil)
        (fun _ _ _ _ _ => pe_ix (r := rIxL K) ix_list (pe_dget hu (pe_ix (r := rIxT K) ix_tup (pe_ix (r := rIxL K) ix_list (pv 0) (pv 2) (fun _ _ => rfl)) pe_int (fun _ _ => rfl)) pe_str (fun _ _ => rfl)) (pe_ix (r := rIxT K) ix_tup (pv 1) (pv 2) (fun _ _ => rfl)) (fun _ _ => rfl))) pa_nil))), ?_⟩
    refine ⟨_, rfl, _, ms.length, rfl, .inl ⟨_, SqL.of hl, by rw [List.length_map, hL.1]⟩, _, rfl, by omega, by omega, fun D1 hD1 => ?_⟩
    rw [Int.toNat_natCast]
    refine lc_range (lo := 0) (n := ms.length) (fun i H' => Same H H' ∧ H' D1 = some (.lst (((seenL ms vals).take i).map V.str))) ?_ ?_ ?_
    · exact ⟨same_upd hD1, upd_same⟩
    · rintro i H1 hi ⟨sm, hD⟩
      obtain ⟨t, p, et, em, npd, e1, e2⟩ := hL.get hi
      have hiv : i < vals.length := by rw [vok.1]; exact hi
      have ev := List.getElem?_eq_getElem hiv
      obtain ⟨v0, v1⟩ := vok.2 i _ _ em ev
      have pm := hp _ (List.getElem_mem hi)
      obtain ⟨t2, r2, l2, as2, f1, f2, f3, f4, f5⟩ := (e2.same sm).ex
      have ei : ((0 : Int) + (i : Nat)) = ((i : Nat) : Int) := by omega
      refine ⟨rfl, _, rfl, _, rfl, l, _, _, _, rfl, rfl, SqL.of (sm _ _ hl), by rw [ei]; exact atI_nat (j := i) (v := V.ref t) (by rw [List.getElem?_map, et]; rfl), t, _, _, _, rfl, rfl, SqT.of (sm _ _ e1), atI_nat (j := 0) rfl, p, _, rfl, gTells f1, ?_⟩
      refine ⟨_, rfl, _, rfl, v, _, _, _, rfl, rfl, hv.ext sm, by rw [ei]; exact atI_nat (j := i) (v := V.int vals[i]) (by rw [List.getElem?_map, ev]; rfl), l2, _, vals[i], _, rfl, rfl, SqL.of f4, at_deed v0 (by rw [pm.pt.tl.1]; exact v1), ?_⟩
      have el : (seenL ms vals)[i]? = some ((ms[i]).ss.getD (vals[i]).toNat "") := zw_get em ev
      refine ⟨_, hD, ?_, ?_, ?_⟩
      · rw [List.length_map, List.length_take]; exact small1000 (by omega)
      · exact fun b u e => by rw [upd_ne (ne_of_none e hD1)]; exact sm b u e
      · rw [upd_same, List.take_add_one, el, List.map_append]; rfl
    · rintro H1 ⟨sm, hD⟩
      rw [List.take_of_length_le (by rw [seenL, vok.len]; exact Nat.le_refl _)] at hD
      refine ⟨D1, _, rfl, .inl ⟨SqL.of hD, fun p hp' => ?_⟩⟩
      exact k p _ (sm.free hp') (sm.trans (same_upd hp')) upd_same
abbrev nLeft : List Str := ["_law_lot_here", "_law_values", "_law_k"]
theorem scLeft : FnScope nLeft ["_law_lot_here", "_law_values"] (defScope sLeft) := ⟨rfl, rfl, rfl, by decide +kernel, rfl, by decide +kernel, by decide +kernel⟩
theorem ok_left {f : Addr} {fd : FuncData} (D : Df K mg "_law_left_by" sLeft ["_law_lot_here", "_law_values"] f fd) (T : Bt mg) : FnOk P w K mg base CX0 1 f fd ["_law_lot_here", "_law_values"] (spLeft K) := by
  refine D.F.ok scLeft (fun vs H Q E h => ?_) (fun cdv A outer s H vs Q E hr h => ?_)
  · obtain ⟨d, l, v, ws, ms, vals, rfl, _⟩ := h
    rfl
  · obtain ⟨d, l, v, ws, ms, vals, rfl, ⟨qs, hl, hL⟩, hv, vok, h6, k⟩ := h
    have hu := hu_of hr
    refine ⟨_, pss_one (ps_ret (pe_callTy (r := rTu K) call_tuple_of (by rfl) T.tuple PyProof.Rows.boot_tuple (pa_cons (pe_lc (own := [("_law_k", 2)]) (g := gName 2) (by rfl) scLeft.nd (pi_range1 rfl T.range (pa_cons (pe_callB call_len (by rfl) T.len PySem.boot_len (pa_cons (pv 0) pa_nil)) pa_nil))
        (blkOk_by (own := [("_law_k", 2)]) (N := nLeft) (sc := defScope sLeft) (by decide +kernel)) (fun _ _ _ _ _ => pg_name (i := 2) scLeft.nd rfl (Or.inl rfl)) (fun _ _ _ _ _ => pts_nil)
        (fun _ _ _ _ _ => pe_ifExp (pt_cmpR op_eq (pe_ix (r := rIxT K) ix_tup (pe_ix (r := rIxL K) ix_list (pv 0) (pv 2) (fun _ _ => rfl)) pe_int (fun _ _ => rfl)) pe_str (nomark _))
          (pe_dget hu (pe_ix (r := rIxT K) ix_tup (pe_ix (r := rIxL K) ix_list (pv 0) (pv 2) (fun _ _ => rfl)) pe_int (fun _ _ => rfl)) pe_str (fun _ _ => rfl)) (pe_ix (r := rIxT K) ix_tup (pv 1) (pv 2) (fun _ _ => rfl)))) pa_nil))), ?_⟩
    refine ⟨_, rfl, _, ms.length, rfl, .inl ⟨_, SqL.of hl, by rw [List.length_map, hL.1]⟩, _, rfl, by omega, by omega, fun D1 hD1 => ?_⟩
    rw [Int.toNat_natCast]
    refine lc_range (lo := 0) (n := ms.length) (fun i H' => Same H H' ∧ H' D1 = some (.lst (((leftL ms vals).take i).map V.int))) ?_ ?_ ?_
    · exact ⟨same_upd hD1, upd_same⟩
    · rintro i H1 hi ⟨sm, hD⟩
      obtain ⟨t, p, et, em, npd, e1, e2⟩ := hL.get hi
      have hiv : i < vals.length := by rw [vok.1]; exact hi
      have ev := List.getElem?_eq_getElem hiv
      obtain ⟨t2, r2, l2, as2, f1, f2, f3, f4, f5⟩ := (e2.same sm).ex
      have ei : ((0 : Int) + (i : Nat)) = ((i : Nat) : Int) := by omega
      have at1 : atI (qs.map V.ref) (0 + (i : Nat)) = some (.ref t) := by rw [ei]; exact atI_nat (j := i) (v := V.ref t) (by rw [List.getElem?_map, et]; rfl)
      have el : (leftL ms vals)[i]? = some (if (ms[i]).ru = ("cleared" : Str) then (ms[i]).st else vals[i]) := zw_get em ev
      have fin : ∀ z : Int, z = (if (ms[i]).ru = ("cleared" : Str) then (ms[i]).st else vals[i]) → ∃ acc, H1 D1 = some (.lst acc) ∧ acc.length < sizeLine ∧ (Same H (upd H1 D1 (.lst (acc ++ [V.int z]))) ∧ upd H1 D1 (.lst (acc ++ [V.int z])) D1 = some (.lst (((leftL ms vals).take (i + 1)).map V.int))) := by
        intro z ez
        refine ⟨_, hD, ?_, ?_, ?_⟩
        · rw [List.length_map, List.length_take]; exact small1000 (by omega)
        · exact fun b u e => by rw [upd_ne (ne_of_none e hD1)]; exact sm b u e
        · rw [upd_same, List.take_add_one, el, List.map_append, ez]; rfl
      refine ⟨rfl, _, rfl, _, rfl, l, _, _, _, rfl, rfl, SqL.of (sm _ _ hl), at1, t, _, _, _, rfl, rfl, SqT.of (sm _ _ e1), atI_nat (j := 1) rfl, rfl, _, rfl, ?_⟩
      refine ite2 (fun h => ?_) (fun h => ?_)
      · have hc : (ms[i]).ru = ("cleared" : Str) := by
          have := of_decide_eq_true h
          injection this
        exact ⟨_, rfl, _, rfl, l, _, _, _, rfl, rfl, SqL.of (sm _ _ hl), at1, t, _, _, _, rfl, rfl, SqT.of (sm _ _ e1), atI_nat (j := 0) rfl, p, _, rfl, gStart f1, fin _ (by rw [if_pos hc])⟩
      · have hc : ¬ (ms[i]).ru = ("cleared" : Str) := fun e => h (by rw [e]; simp)
        exact ⟨_, rfl, _, rfl, v, _, _, _, rfl, rfl, hv.ext sm, by rw [ei]; exact atI_nat (j := i) (v := V.int vals[i]) (by rw [List.getElem?_map, ev]; rfl), fin _ (by rw [if_neg hc])⟩
    · rintro H1 ⟨sm, hD⟩
      rw [List.take_of_length_le (by rw [leftL, vok.len]; exact Nat.le_refl _)] at hD
      refine ⟨D1, _, rfl, .inl ⟨SqL.of hD, fun p hp' => ?_⟩⟩
      exact k p _ (sm.free hp') (sm.trans (same_upd hp')) upd_same
end
end K1
set_option Elab.async false
set_option linter.all false
set_option maxRecDepth 100000
/-! _law_fault -/
namespace K1
open PySem L2 LamX
abbrev sFaultV : Stmt := top 59
abbrev pFault : List Str := ["_law_ask"]
abbrev nFault : List Str := ["_law_ask", "e"]
theorem scFault : FnScope nFault pFault (defScope sFaultV) := ⟨rfl, rfl, rfl, by decide +kernel, rfl, by decide +kernel, by decide +kernel⟩
def clauses (CB CN : Addr) : List (Value × (Addr → Value → Option Addr → TS)) :=
  [(.ref CB, suiteT 1 CB "state" ["state"]), (.ref CN, suiteT 1 CN "deed" ["index"])]
theorem gives_fault {X : Cx} {g CB CN fB fN : Addr} {fdB fdN : FuncData} {gcd : Value} {q : Str} (OB : OBadState X.K X.mg CB fB fdB) (ON : ONoDeed X.K X.mg CN fN fdN) :
    Gives X nFault "_law_fault" (defScope sFaultV) g gcd (defBody sFaultV) "_law_ask" q (TTf X.K 1 (clauses CB CN)) := by
  refine fault_gives scFault.nd rfl fun s H => ?_
  exact (.cons (x := "BadState") ⟨rfl, by decide, .inl OB.g⟩ (fun a oe cl dd pn hz hf => pss_one (ps_ret (pe_tup (pa_cons pe_str (pa_cons (pe_xf OB.xf (OB.no "state" (by simp)) hz hf (pv 1)) pa_nil)))))
    (.cons (x := "NoDeed") ⟨rfl, by decide, .inl ON.g⟩ (fun a oe cl dd pn hz hf => pss_one (ps_ret (pe_tup (pa_cons pe_str (pa_cons (pe_xf ON.xf (ON.no "index" (by simp)) hz hf (pv 1)) pa_nil))))) .nil))
/-- the errors' classes, told apart -/
structure Ee (K : PySem.W.Frag) (CB CN : Addr) : Prop where
  bb : PySem.W.exmOne K (.ref CB) (.ref CB) = some true
  nb : PySem.W.exmOne K (.ref CN) (.ref CB) = some false
  nn : PySem.W.exmOne K (.ref CN) (.ref CN) = some true
abbrev WF (K : PySem.W.Frag) (CB CN f : Addr) (Q : VK) : XK := fun cls dd G => wAsAll K 1 (fun _ _ _ _ => False) { nx := fun _ G' => Q .non G', rt := Q } (clauses CB CN) cls dd [some (.ref f), none] G
theorem rs_deed {K : PySem.W.Frag} {CB CN : Addr} (EE : Ee K CB CN) {H1 : Hp} {Q : VK} {j : Nat} (k : ∀ p G, Same H1 G → H1 p = none → G p = some (.tup [.str "deed", .int (j : Int)]) → Q (.ref p) G) (f : Addr) : Rs CN ["index"] [.int (j : Nat)] H1 (WF K CB CN f Q) := by
  intro d G sG hd eG
  exact ⟨false, EE.nb, (fun q => nomatch q), fun _ => ⟨true, EE.nn, fun _ a ha => suiteT_read (vs := [.int (j : Int)]) rfl eG ⟨rfl, trivial⟩ (Nat.le_of_ble_eq_true rfl) fun p hp => k p _ (sG.trans (same_upd hp)) (sG.free hp) upd_same, fun q => nomatch q⟩⟩
theorem rs_state {K : PySem.W.Frag} {CB CN : Addr} (EE : Ee K CB CN) {H1 : Hp} {Q : VK} {j : Nat} (k : ∀ p G, Same H1 G → H1 p = none → G p = some (.tup [.str "state", .int (j : Int)]) → Q (.ref p) G) (f : Addr) : Rs CB ["state"] [.int (j : Nat)] H1 (WF K CB CN f Q) := by
  intro d G sG hd eG
  exact ⟨true, EE.bb, fun _ a ha => suiteT_read (vs := [.int (j : Int)]) rfl eG ⟨rfl, trivial⟩ (Nat.le_of_ble_eq_true rfl) fun p hp => k p _ (sG.trans (same_upd hp)) (sG.free hp) upd_same, fun q => nomatch q⟩
end K1
set_option Elab.async false
set_option linter.all false
set_option maxRecDepth 100000
/-! values spoilt, rows spoilt -/
namespace K1
open PySem L2 LamX
abbrev sVSp : Stmt := top 60
abbrev sRSp : Stmt := top 61
theorem ixN_at {n j : Nat} (h : j < n) : ixN n (j : Int) = some j := by unfold ixN; rw [if_pos (by omega), if_pos (by omega)]; rfl
/-- a value as the law has it -/
def SpV (H : Hp) (y : V) : Prop := (∃ t, ∀ (K : PySem.W.Frag) (G : Hp), Th K G y t) ∨ ∃ a, y = .ref a ∧ H a = some (.tup [.int 0])
theorem SpV.th {K : PySem.W.Frag} {H : Hp} {y : V} (h : SpV H y) : ∃ t, Th K H y t := by
  rcases h with ⟨t, h⟩ | ⟨a, rfl, h⟩
  · exact ⟨t, h K H⟩
  · exact ⟨_, .tup h⟩
theorem SpV.kn {d : Addr} {kv : List (Key × V)} {H H' : Hp} {y : V} (h : SpV H y) (hd : H d = some (.dK kv)) (k : KeptN d H H') : SpV H' y := by
  rcases h with h | ⟨a, rfl, h⟩
  · exact .inl h
  · exact .inr ⟨a, rfl, k.tup (ne_of h hd (by intro z; cases z)) h⟩
theorem SpV.int {H : Hp} (i : Int) : SpV H (.int i) := .inl ⟨_, fun _ _ => .int i⟩
/-- the menu: no states -/
theorem menuV {H : Hp} {m : Nat} {q : Addr} (hm : m ≤ 12) (hq : H q = some (.tup [.int 0])) {v : V} (h : v ∈ [V.int (-1), V.int (m : Int), V.int (10 ^ Int.toNat 20), V.non, V.bl true, V.str "0", V.ref q]) : ixB v (m : Int) = false ∧ SpV H v := by
  simp only [List.mem_cons, List.not_mem_nil, or_false] at h
  rcases h with rfl | rfl | rfl | rfl | rfl | rfl | rfl
  · exact ⟨rfl, .int _⟩
  · refine ⟨?_, .int _⟩
    show (decide (0 ≤ (m : Int)) && decide ((m : Int) < (m : Int))) = false
    rw [decide_eq_false (p := (m : Int) < (m : Int)) (by omega), Bool.and_false]
  · refine ⟨?_, .int _⟩
    show (decide ((0 : Int) ≤ 10 ^ Int.toNat 20) && decide ((10 : Int) ^ Int.toNat 20 < (m : Int))) = false
    have : (12 : Int) < 10 ^ Int.toNat 20 := by decide +kernel
    rw [decide_eq_false (p := ((10 : Int) ^ Int.toNat 20 < (m : Int))) (by omega), Bool.and_false]
  · exact ⟨rfl, .inl ⟨_, fun _ _ => .non⟩⟩
  · exact ⟨rfl, .inl ⟨_, fun _ _ => .bl _⟩⟩
  · exact ⟨rfl, .inl ⟨_, fun _ _ => .str _ (by decide +kernel)⟩⟩
  · exact ⟨rfl, .inr ⟨_, rfl, hq⟩⟩
/-- spoilt, first at j -/
def Spoilt (ms : List Pm) (vs0 : List V) (j : Nat) : Prop := vs0.length = ms.length ∧ ∃ (m : Pm) (y : V), ms[j]? = some m ∧ vs0[j]? = some y ∧ ixB y m.rs.length = false ∧ IxG ms vs0 j
/-- spoilt at the places -/
def SpAt (ms : List Pm) (vals : List Int) (vs0 : List V) (pls : List Int) : Prop := vs0.length = ms.length ∧ (∀ q ∈ pls, 0 ≤ q ∧ q < (ms.length : Int)) ∧ ∀ (j : Nat) (m : Pm) (y : V), ms[j]? = some m → vs0[j]? = some y → if (j : Int) ∈ pls then ixB y m.rs.length = false else ∃ v, vals[j]? = some v ∧ y = .int v
theorem SpAt.start {ms : List Pm} {vals : List Int} (h : VOk ms vals) : SpAt ms vals (vals.map V.int) [] := by
  refine ⟨by rw [List.length_map, h.1], (fun q hq => nomatch hq), fun j m y em ey => ?_⟩
  rw [if_neg (by simp)]
  rw [List.getElem?_map] at ey
  obtain ⟨v, ev, rfl⟩ := Option.map_eq_some_iff.mp ey
  exact ⟨v, ev, rfl⟩
theorem SpAt.put {ms : List Pm} {vals : List Int} {vs0 : List V} {pls : List Int} (h : SpAt ms vals vs0 pls) {k : Nat} (hk : k < ms.length) {y : V} (hy : ixB y (ms[k]).rs.length = false) : SpAt ms vals (vs0.set k y) (pls ++ [(k : Int)]) := by
  refine ⟨by rw [List.length_set]; exact h.1, fun q hq => ?_, fun j m z em ez => ?_⟩
  · rcases List.mem_append.mp hq with hq | hq
    · exact h.2.1 q hq
    · rw [List.mem_singleton.mp hq]; omega
  · by_cases hj : j = k
    · subst hj
      rw [if_pos (by simp)]
      rw [List.getElem?_set_self (by rw [h.1]; exact hk)] at ez
      rw [List.getElem?_eq_getElem hk] at em
      cases ez; cases em
      exact hy
    · rw [List.getElem?_set_ne (fun e => hj e.symm)] at ez
      have := h.2.2 j m z em ez
      have e : ((j : Int) ∈ pls ++ [(k : Int)]) ↔ (j : Int) ∈ pls := by
        rw [List.mem_append, List.mem_singleton]
        constructor
        · rintro (h | h)
          · exact h
          · exact absurd (by omega) hj
        · exact .inl
      simp only [e]
      exact this
theorem SpAt.first {ms : List Pm} {vals : List Int} {vs0 : List V} {pls : List Int} (h : SpAt ms vals vs0 pls) (ok : VOk ms vals) {m : Int} (hm : m ∈ pls) (hl : ∀ y ∈ pls, m ≤ y) : ∃ j : Nat, m = (j : Int) ∧ Spoilt ms vs0 j := by
  obtain ⟨h0, h1⟩ := h.2.1 m hm
  obtain ⟨j, rfl⟩ : ∃ j : Nat, m = (j : Int) := ⟨m.toNat, by omega⟩
  have hj : j < ms.length := by omega
  have hj' : j < vs0.length := by rw [h.1]; exact hj
  refine ⟨j, rfl, h.1, ms[j], vs0[j], List.getElem?_eq_getElem hj, List.getElem?_eq_getElem hj', ?_, fun i m' y hi em ey => ?_⟩
  · have := h.2.2 j _ _ (List.getElem?_eq_getElem hj) (List.getElem?_eq_getElem hj')
    rw [if_pos hm] at this
    exact this
  · have := h.2.2 i m' y em ey
    rw [if_neg (fun hi' => by have := hl _ hi'; omega)] at this
    obtain ⟨v, ev, rfl⟩ := this
    obtain ⟨v0, v1⟩ := ok.2 i m' v em ev
    exact ix_of v0 v1
def spVSp (K : PySem.W.Frag) : Sp := fun vs H Q _ => ∃ (d c l v : Addr) (n : Nat) (ws : List Str) (ms : List Pm) (vals : List Int), vs = [.ref d, .ref l, .ref v] ∧ PenAt H d c n ∧ n ≤ 790000 ∧ LotP d H l ws ms ∧ SqT K H v (vals.map V.int) ∧ v ≠ d ∧ VOk ms vals ∧ 1 ≤ ms.length ∧ ms.length ≤ 6 ∧ (∀ m ∈ ms, m.rs.length ≤ 12) ∧
  ∀ (p t : Addr) (vs0 : List V) (j n' : Nat) (H' : Hp), Kept d H H' → PenAt H' d c n' → n' ≤ n + 10 → H p = none → H' p = some (.tup [.ref t, .int (j : Int)]) → H' t = some (.tup vs0) → Spoilt ms vs0 j → (∀ y ∈ vs0, SpV H' y) → Q (.ref p) H'
section
variable {P : Program} {w : World} {K : PySem.W.Frag} {mg : Str → Option Value} {base : Heap}
abbrev pVSp : List Str := ["_law_pen_here", "_law_lot_here", "_law_values"]
abbrev nVSp : List Str := ["_law_pen_here", "_law_lot_here", "_law_values", "_law_spoilt", "_law_places", "_law_again", "_law_at", "_law_place"]
theorem scVSp : FnScope nVSp pVSp (defScope sVSp) := ⟨rfl, rfl, rfl, by decide +kernel, rfl, by decide +kernel, by decide +kernel⟩
theorem ok_vsp {f fD fK : Addr} {fd fdD fdK : FuncData} (D : Df K mg "_law_values_spoilt" sVSp pVSp f fd) (DD : Df K mg "_law_draw" sDraw pDraw fD fdD) (DK : Df K mg "_law_pick" sPick pPick fK fdK) (T2 : Bt2 mg) : FnOk P w K mg base CX0 3 f fd pVSp (spVSp K) := by
  have T : Bt mg := T2.toBt
  have GD : FnOk P w K mg base CX0 1 fD fdD pDraw spDraw := ok_draw DD.F T
  have GK : FnOk P w K mg base CX0 2 fK fdK pPick (spPickL K) := ok_pickL DK DD T
  refine D.F.ok scVSp (fun vs H Q E h => ?_) (fun cdv A outer s H vs Q E hr h => ?_)
  · obtain ⟨d, c, l, v, n, ws, ms, vals, rfl, _⟩ := h
    rfl
  · obtain ⟨d, c, l, v, n, ws, ms, vals, rfl, hp, hn, hL, hv, nv, ok, hm1, hm6, hrs, k⟩ := h
    have hr1 : Room 1 _ := hr.mono (by decide)
    have hu := hu_of hr
    refine ⟨_, pss_cons (ps_par (i := 3) (j := 4) (by rfl) scVSp.nd rfl rfl (by decide) rfl rfl (pa_cons (pe_callTy (r := rLi K) call_list_of (by rfl) T.list PyProof.Rows.boot_list (pa_cons (pv 2) pa_nil)) (pa_cons (pe_lst pa_nil) pa_nil)) (by rfl))
      (pss_cons (ps_for PassesOwn.never rfl (pi_range1 rfl T.range (pa_cons (pe_op op_add pe_int (pe_call GD hr1 rfl DD.g DD.F.kp DD.b .nil pass0 (pa_cons (pv 0) (pa_cons pe_int pa_nil)))) pa_nil)) (pg_name (i := 5) scVSp.nd rfl (Or.inl rfl))
        (pss_cons (ps_set (i := 6) scVSp.nd rfl (Or.inl rfl) (pe_call GD hr1 rfl DD.g DD.F.kp DD.b .nil pass0 (pa_cons (pv 0) (pa_cons (pe_callB call_len (by rfl) T.len PySem.boot_len (pa_cons (pv 1) pa_nil)) pa_nil))))
        (pss_cons (ps_asg (pe_call GK hr rfl DK.g DK.F.kp DK.b .nil pass0 (pa_cons (pv 0) (pa_cons (pe_lst (pa_cons (pe_un un_neg pe_int)
              (pa_cons (pe_callB call_len (by rfl) T.len PySem.boot_len (pa_cons (pe_dget hu (pe_ix (r := rIxT K) ix_tup (pe_ix (r := rIxL K) ix_list (pv 1) (pv 6) (fun _ _ => rfl)) pe_int (fun _ _ => rfl)) pe_str (fun _ _ => rfl)) pa_nil))
              (pa_cons (pe_op op_pow pe_int pe_int) (pa_cons pe_non (pa_cons pe_bl (pa_cons pe_str (pa_cons (pe_tup (pa_cons pe_int pa_nil)) pa_nil)))))))) pa_nil))) (pg_sub (pv 3) (pv 6) set_list))
        (pss_one (ps_expr (pe_bm PySem.F.plainAttrs_list PySem.F.slot_list_append PySem.F.type_list_append mt_append (pv 4) (pa_cons (pv 6) pa_nil)))))))
      (pss_one (ps_ret (pe_tup (pa_cons (pe_callTy (r := rTu K) call_tuple_of (by rfl) T.tuple PyProof.Rows.boot_tuple (pa_cons (pv 3) pa_nil))
        (pa_cons (pe_callB (r := rMin K) (cr_min rfl) (by rfl) T2.min PyProof.Rows.boot_min (pa_cons (pe_lc (own := [("_law_place", 7)]) (g := gName 7) (by rfl) scVSp.nd (pi_list (pv 4))
            (blkOk_by (own := [("_law_place", 7)]) (N := nVSp) (sc := defScope sVSp) (by decide +kernel)) (fun _ _ _ _ _ => pg_name (i := 7) scVSp.nd rfl (Or.inl rfl)) (fun _ _ _ _ _ => pts_nil)
            (fun _ _ _ _ _ => pe_callTy call_int1 (by rfl) T.int (by decide +kernel) (pa_cons (pv 7) pa_nil))) pa_nil)) pa_nil)))))), ?_⟩
    obtain ⟨kv, hd0⟩ := hp.dk
    refine ⟨_, rfl, v, _, rfl, .inr hv, fun sp hsp => ⟨Nat.zero_le _, fun pl hpl => ⟨_, _, rfl, ?_⟩⟩⟩
    have s1 := same_upd (o := .lst (vals.map V.int)) hsp
    have s2 := same_upd (o := .lst []) hpl
    have nsp : sp ≠ pl := ne_of_none upd_same hpl
    have zpl : H pl = none := s1.free hpl
    obtain ⟨nspd, nspc⟩ := hp.ne hsp
    obtain ⟨npld, nplc⟩ := hp.ne zpl
    have hsp2 := s2 _ _ (upd_same (H := H) (a := sp) (o := .lst (vals.map V.int)))
    have hpl2 : upd (upd H sp (.lst (vals.map V.int))) pl (.lst []) pl = some (.lst []) := upd_same
    have s12 := s1.trans s2
    have p2 := hp.same s12
    generalize upd (upd H sp (.lst (vals.map V.int))) pl (.lst []) = H2 at s12 hsp2 hpl2 p2 ⊢
    clear s2
    refine ⟨_, rfl, d, c, n, 2, rfl, p2, by omega, by decide, by decide, fun r H3 r0 r1 p3 k3 => ⟨_, _, rfl, rfl, ?_⟩⟩
    obtain ⟨R, eR, hR⟩ : ∃ R : Nat, 1 + r = (R : Int) ∧ (1 ≤ R ∧ R ≤ 2) := ⟨(1 + r).toNat, by omega, by omega, by omega⟩
    refine ⟨(R : Int), by rw [← eR], by omega, by omega, ?_⟩
    rw [Int.toNat_natCast]
    refine for_range (lo := 0) (n := R) (fun i σ H' => ∃ (v5 v6 : Option V) (vs0 : List V) (pls : List Int), σ = [some (.ref d), some (.ref l), some (.ref v), some (.ref sp), some (.ref pl), v5, v6, none] ∧ H' sp = some (.lst vs0) ∧ H' pl = some (.lst (pls.map V.int)) ∧ pls.length = i ∧ SpAt ms vals vs0 pls ∧ (∀ y ∈ vs0, SpV H' y) ∧ PenAt H' d c (n + 1 + 2 * i) ∧ Kept d H H') ?_ ?_ ?_
    · refine ⟨_, _, vals.map V.int, [], rfl, k3 _ _ hsp2 nspd, k3 _ _ hpl2 npld, rfl, .start ok, fun y hy => ?_, p3, (Kept.same s12).trans k3⟩
      obtain ⟨z, _, rfl⟩ := List.mem_map.mp hy
      exact .int z
    · rintro i σ H4 hi ⟨v5, v6, vs0, pls, rfl, hsp4, hpl4, hpls, sa, hsv, p4, k4⟩
      obtain ⟨qs, hl4, hL4⟩ := hL.pen hd0 k4
      refine ⟨_, rfl, _, rfl, _, ms.length, rfl, .inl ⟨_, SqL.of hl4, by rw [List.length_map, hL4.1]⟩, d, c, _, (ms.length : Int), rfl, p4, by omega, by omega, by omega, fun a H5 a0 a1 p5 k5 => ?_⟩
      obtain ⟨j, rfl⟩ : ∃ j : Nat, a = (j : Int) := ⟨a.toNat, by omega⟩
      have hj : j < ms.length := by omega
      have k05 := k4.trans k5
      obtain ⟨qs5, hl5, hL5⟩ := hL.pen hd0 k05
      obtain ⟨t, q, et, em, nq, e1, e2⟩ := hL5.get hj
      obtain ⟨t2, r2, l2, as2, f1, f2, f3, f4, f5⟩ := e2.ex
      obtain ⟨kv5, hd5⟩ := p5.dk
      have hsp5 := k5 _ _ hsp4 nspd
      have hpl5 := k5 _ _ hpl4 npld
      refine ⟨_, rfl, 1, rfl, ?_⟩
      refine ⟨_, rfl, _, rfl, l, _, _, _, rfl, rfl, SqL.of hl5, atI_nat (j := j) (v := V.ref t) (by rw [List.getElem?_map, et]; rfl), t, _, _, _, rfl, rfl, SqT.of e1, atI_nat (j := 0) rfl, q, _, rfl, gRows f1, ?_⟩
      refine ⟨_, (ms[j]).rs.length, rfl, .inl ⟨_, SqL.of f3, by rw [List.length_map, f5.1]⟩, _, _, rfl, rfl, ⟨by decide, by decide, by decide⟩, Nat.le_of_ble_eq_true rfl, fun u hu0 => ⟨Nat.le_of_ble_eq_true rfl, fun me hme => ?_⟩⟩
      have s6 := same_upd (o := .tup [V.int 0]) hu0
      have eu : upd H5 u (.tup [V.int 0]) u = some (.tup [V.int 0]) := upd_same
      have s7 := same_upd (o := .lst [V.int (-1), V.int ((ms[j]).rs.length : Nat), V.int (10 ^ Int.toNat 20), V.non, V.bl true, V.str "0", V.ref u]) hme
      have s57 := s6.trans s7
      have p7 := p5.same s57
      have eu7 := s7 _ _ eu
      have nu : u ≠ d := (p5.ne hu0).1
      have nme : me ≠ d := ((p5.same s6).ne hme).1
      refine ⟨d, c, me, _, _, rfl, p7, by omega, nme, SqL.of upd_same, Nat.le_of_ble_eq_true rfl, Nat.le_of_ble_eq_true rfl, fun y H8 hy p8 k8 => ?_⟩
      have k58 : Kept d H5 H8 := (Kept.same s57).trans k8
      have eu8 := k8 _ _ eu7 nu
      obtain ⟨hyb, hys⟩ := menuV (H := H8) (hrs _ (List.getElem_mem hj)) eu8 hy
      have hsp8 := k58 _ _ hsp5 nspd
      have hpl8 := k58 _ _ hpl5 npld
      obtain ⟨kv8, hd8⟩ := p8.dk
      refine ⟨_, rfl, _, rfl, sp, vs0, (j : Int), j, rfl, rfl, hsp8, ?_, ?_⟩
      · exact ixN_at (by rw [sa.1]; exact hj)
      have nsp' : sp ≠ c := nspc
      have k08 : Kept d H H8 := (k4.trans k5).trans k58
      have p9 : PenAt (upd H8 sp (.lst (vs0.set j y))) d c (n + 1 + 2 * i + 1 + 1) := p8.upd nspd nspc
      have k09 : Kept d H (upd H8 sp (.lst (vs0.set j y))) := k08.upd hsp
      have hpl9 : upd H8 sp (.lst (vs0.set j y)) pl = some (.lst (pls.map V.int)) := by rw [upd_ne nsp.symm]; exact hpl8
      have hsp9 : upd H8 sp (.lst (vs0.set j y)) sp = some (.lst (vs0.set j y)) := upd_same
      have hsv9 : ∀ z ∈ vs0.set j y, SpV (upd H8 sp (.lst (vs0.set j y))) z := fun z hz => by
        have up : ∀ {z : V}, SpV H8 z → SpV (upd H8 sp (.lst (vs0.set j y))) z := fun h => by
          rcases h with h | ⟨b, rfl, h⟩
          · exact .inl h
          · exact .inr ⟨b, rfl, by rw [upd_ne (ne_of h hsp8 (by intro z; cases z))]; exact h⟩
        rcases List.mem_or_eq_of_mem_set hz with h | rfl
        · obtain ⟨kv4, hd4⟩ := p4.dk
          exact up ((hsv z h).kn hd4 (k5.trans k58).n)
        · exact up hys
      generalize upd H8 sp (.lst (vs0.set j y)) = H9 at p9 k09 hpl9 hsp9 hsv9 ⊢
      refine ⟨_, rfl, .inl ⟨rfl, _, SqL.of hpl9⟩, _, rfl, pl, _, _, rfl, rfl, hpl9, ?_, ?_⟩
      · rw [List.length_map]; exact small1000 (by omega)
      refine ⟨_, _, vs0.set j y, pls ++ [(j : Int)], rfl, ?_, ?_, by simp [hpls], sa.put hj hyb, fun z hz => ?_, ?_, k09.upd zpl⟩
      · rw [upd_ne nsp]; exact hsp9
      · rw [upd_same, List.map_append]; rfl
      · rcases hsv9 z hz with h | ⟨b, rfl, h⟩
        · exact .inl h
        · exact .inr ⟨b, rfl, by rw [upd_ne (ne_of h hpl9 (by intro z; cases z))]; exact h⟩
      · exact (p9.upd npld nplc).mono (by omega)
    · rintro σ H4 ⟨v5, v6, vs0, pls, rfl, hsp4, hpl4, hpls, sa, hsv, p4, k4⟩
      refine ⟨_, rfl, sp, _, rfl, .inl ⟨SqL.of hsp4, fun t ht => ?_⟩⟩
      have s5 := same_upd (o := .tup vs0) ht
      have et : upd H4 t (.tup vs0) t = some (.tup vs0) := upd_same
      have hpl5 := s5 _ _ hpl4
      have p5 := p4.same s5
      have hsv5 : ∀ y ∈ vs0, SpV (upd H4 t (.tup vs0)) y := fun y hy => by
        obtain ⟨kv4, hd4⟩ := p4.dk
        exact (hsv y hy).kn hd4 (Kept.same s5).n
      have k05 := k4.trans (Kept.same s5)
      generalize upd H4 t (.tup vs0) = H5 at s5 et hpl5 p5 hsv5 k05 ⊢
      refine ⟨_, rfl, pl, rfl, ⟨_, SqL.of hpl5⟩, fun D1 hD1 => ?_⟩
      refine lc_list (K := K) (a := pl) (xs := pls.map V.int) (fun i H' => Same H5 H' ∧ H' D1 = some (.lst ((pls.take i).map V.int))) ?_ ?_ ?_ ?_
      · exact ⟨same_upd hD1, upd_same⟩
      · exact fun i H' _ q => SqL.of (q.1 _ _ hpl5)
      · rintro i y H6 hi ⟨sm, hD⟩
        rw [List.getElem?_map] at hi
        obtain ⟨z, ez, rfl⟩ := Option.map_eq_some_iff.mp hi
        have hip : i < pls.length := (List.getElem?_eq_some_iff.mp ez).1
        refine ⟨rfl, _, rfl, .inl ⟨z, rfl, _, hD, ?_, ?_, ?_⟩⟩
        · rw [List.length_map, List.length_take]; exact small1000 (by omega)
        · exact fun b u e => by rw [upd_ne (ne_of_none e hD1)]; exact sm b u e
        · rw [upd_same, List.take_add_one, ez, List.map_append]; rfl
      · rintro H6 ⟨sm, hD⟩
        rw [List.length_map, List.take_length] at hD
        refine ⟨D1, pls, rfl, SqL.of hD, by omega, fun m hm hle => ?_⟩
        obtain ⟨j, rfl, spo⟩ := sa.first ok hm hle
        refine ⟨Nat.le_of_ble_eq_true rfl, fun p hp' => ?_⟩
        have s7 := sm.trans (same_upd (o := .tup [V.ref t, V.int (j : Int)]) hp')
        obtain ⟨kv5, hd5⟩ := p5.dk
        refine k p t vs0 j _ _ (k05.trans (Kept.same s7)) (p5.same s7) (by omega) ?_ upd_same (s7 _ _ et) spo fun y hy => (hsv5 y hy).kn hd5 (Kept.same s7).n
        have z6 := sm.free hp'
        cases e : H p with
        | none => rfl
        | some o =>
          by_cases hpd : p = d
          · rw [hpd, hd5] at z6; cases z6
          · rw [k05 _ _ e hpd] at z6; cases z6
end
end K1
set_option Elab.async false
set_option linter.all false
set_option maxRecDepth 100000
/-! rows spoilt -/
namespace K1
open PySem L2 LamX
theorem seqT_pen {K : PySem.W.Frag} {d : Addr} {kv : List (Key × V)} {H H' : Hp} {a : Addr} {xs : List V} (h : SqT K H a xs) (hd : H d = some (.dK kv)) (e : KeptN d H H') : SqT K H' a xs := by
  rcases h with (h | ⟨o, h⟩) | h
  · exact .inl (.inl (e.tup (ne_of h hd (by intro z; cases z)) h))
  · exact .inl (.inr ⟨o, e _ _ h (ne_of h hd (by intro z; cases z)) fun ps => by intro z; cases z⟩)
  · exact .inr h
theorem catA_any {K : PySem.W.Frag} {H : Hp} {Q : VK} {a b : Addr} {xs ys : List V} (ha : SqT K H a xs) (hb : SqT K H b ys) (hz : xs.length + ys.length ≤ 1000) (k : ∀ p H', SqT K H' p (xs ++ ys) → Same H H' → Q (.ref p) H') : rCatA K (.ref a) (.ref b) H Q := by
  refine ⟨a, b, xs, ys, rfl, rfl, ha, hb, Nat.le_of_lt (small1000 hz), fun e => ?_, fun _ e => ?_, fun _ _ p hp => k p _ (SqT.of upd_same) (same_upd hp)⟩
  · exact k b H (by rw [e, List.nil_append]; exact hb) (Same.refl H)
  · exact k a H (by rw [e, List.append_nil]; exact ha) (Same.refl H)
theorem cutV_all {xs : List V} {lo hi : Option Int} (h : HT.sIx xs.length 0 lo = 0 ∧ HT.sIx xs.length xs.length hi = xs.length) : cutV xs lo hi = xs := by
  unfold cutV
  simp only [h.1, h.2, List.drop_zero, Nat.sub_zero, List.take_length]
theorem slA_any {K : PySem.W.Frag} {H : Hp} {Q : VK} {a : Addr} {xs : List V} {lo hi : Option Int} (ha : SqT K H a xs) (k : ∀ p H', SqT K H' p (cutV xs lo hi) → Same H H' → Q (.ref p) H') : rSlA K (.ref a) lo hi H Q := by
  refine ⟨a, xs, rfl, ha, fun e => ?_, fun _ p hp => k p _ (SqT.of upd_same) (same_upd hp)⟩
  exact k a H (by rw [cutV_all e]; exact ha) (Same.refl H)
theorem cut_from' {xs : List V} {i : Nat} (h : i ≤ xs.length) : cutV xs (some (i : Int)) none = xs.drop i := by
  unfold cutV
  rw [HT.sIx_none, HT.sIx_nat, Nat.min_eq_left h]
  exact List.take_of_length_le (by rw [List.length_drop]; omega)
theorem cut_to' {xs : List V} {i : Nat} (h : i ≤ xs.length) : cutV xs none (some (i : Int)) = xs.take i := by
  unfold cutV
  rw [HT.sIx_none, HT.sIx_nat, Nat.min_eq_left h]
  simp
theorem tl_app (a b : Str) : (a ++ b).cps.toList = a.cps.toList ++ b.cps.toList := by
  show (a.cps ++ b.cps).toList = _
  simp
theorem eqv_no {a b : Str} (h : a ≠ b) : PyData.eqv (.str a) (.str b) = false := by rw [eqv_str]; exact decide_eq_false h
abbrev oddW (ws : List Str) : Str := ws.getD 0 "" ++ "000"
/-- the odd deed -/
theorem oddW_ok {ws : List Str} {k : Nat} (hw : ∀ z ∈ ws, Wd z) (he : ∀ z ∈ ws, z.cps.toList.length = k) (h0 : ws.getD 0 "" ∈ ws) : SeqAt.shaped (.str (oddW ws)) = true ∧ ∀ z ∈ ws, PyData.eqv (.str z) (.str (oddW ws)) = false := by
  have e0 : ("000" : Str).cps.toList = [48, 48, 48] := by decide +kernel
  refine ⟨shaped_of ?_ (by simp [PyData.depth]), fun z hz => eqv_no fun e => ?_⟩
  · rw [PyData.canLay0]
    refine ok_chars fun c hc => ?_
    rw [tl_app] at hc
    rcases List.mem_append.mp hc with hc | hc
    · exact List.mem_append_left _ ((hw _ h0).chars c hc)
    · rw [e0] at hc
      simp only [List.mem_cons, List.not_mem_nil, or_false] at hc
      rcases hc with rfl | rfl | rfl <;> decide +kernel
  · have h := congrArg (fun s : Str => s.cps.toList.length) e
    simp only [tl_app, List.length_append, he z hz, he _ h0, e0] at h
    simp at h
def spRSp (K : PySem.W.Frag) : Sp := fun vs H Q _ => ∃ (d c dl r : Addr) (n : Nat) (ws : List Str) (ks : List Int), vs = [.ref d, .ref dl, .ref r] ∧ PenAt H d c n ∧ n ≤ 790000 ∧ SqL K H dl (ws.map V.str) ∧ dl ≠ d ∧ 1 ≤ ws.length ∧ (∀ z ∈ ws, Wd z) ∧ SqT K H r ((nm ws ks).map V.str) ∧ ks.length ≤ 40 ∧
  ∀ (p t : Addr) (j : Nat) (rest : List V) (H' : Hp), Kept d H H' → PenAt H' d c (n + 1) → H p = none → H' p = some (.tup [.ref t, .int (j : Int)]) → j ≤ ks.length → SqT K H' t ((nm ws (ks.take j)).map V.str ++ .str (oddW ws) :: rest) → Q (.ref p) H'
section
variable {P : Program} {w : World} {K : PySem.W.Frag} {mg : Str → Option Value} {base : Heap}
abbrev pRSp : List Str := ["_law_pen_here", "_law_deeds", "_law_row"]
abbrev nRSp : List Str := ["_law_pen_here", "_law_deeds", "_law_row", "_law_at"]
theorem scRSp : FnScope nRSp pRSp (defScope sRSp) := ⟨rfl, rfl, rfl, by decide +kernel, rfl, by decide +kernel, by decide +kernel⟩
theorem ok_rsp {f fD : Addr} {fd fdD : FuncData} (D : Df K mg "_law_row_spoilt" sRSp pRSp f fd) (DD : Df K mg "_law_draw" sDraw pDraw fD fdD) (T : Bt mg) : FnOk P w K mg base CX0 2 f fd pRSp (spRSp K) := by
  have GD : FnOk P w K mg base CX0 1 fD fdD pDraw spDraw := ok_draw DD.F T
  refine D.F.ok scRSp (fun vs H Q E h => ?_) (fun cdv A outer s H vs Q E hr h => ?_)
  · obtain ⟨d, c, dl, r, n, ws, ks, rfl, _⟩ := h
    rfl
  · obtain ⟨d, c, dl, r, n, ws, ks, rfl, hp, hn, hdl, ndl, hw1, hwd, hR, hkl, k⟩ := h
    refine ⟨_, pss_cons (ps_set (i := 3) scRSp.nd rfl (Or.inl rfl) (pe_call GD hr rfl DD.g DD.F.kp DD.b .nil pass0 (pa_cons (pv 0) (pa_cons (pe_op op_add (pe_callB call_len (by rfl) T.len PySem.boot_len (pa_cons (pv 2) pa_nil)) pe_int) pa_nil))))
      (pss_one (ps_ret (pe_tup (pa_cons (pe_op (r := rCatA K) op_catA (pe_op (r := rCatA K) op_catA (pe_slice (r := rSlA K) sl_tupA (pv 2) po_none (po_some (pv 3)))
          (pe_tup (pa_cons (pe_op op_add_str (pe_ix (r := rIxL K) ix_list (pv 1) pe_int (fun _ _ => rfl)) pe_str) pa_nil))) (pe_slice (r := rSlA K) sl_tupA (pv 2) (po_some (pv 3)) po_none)) (pa_cons (pv 3) pa_nil))))), ?_⟩
    obtain ⟨kv, hd0⟩ := hp.dk
    have nlen : ((nm ws ks).map V.str).length = ks.length := by rw [List.length_map, nm_len]
    have hw0 : ws.getD 0 "" ∈ ws := List.mem_of_getElem? (getD_get ("" : Str) (by omega))
    refine ⟨_, rfl, _, rfl, _, ks.length, rfl, .inr ⟨_, hR, nlen.symm⟩, _, _, rfl, rfl, d, c, n, (ks.length : Int) + 1, rfl, hp, by omega, by omega, by omega, fun a H1 a0 a1 p1 k1 => ?_⟩
    obtain ⟨j, rfl⟩ : ∃ j : Nat, a = (j : Int) := ⟨a.toNat, by omega⟩
    have hj : j ≤ ks.length := by omega
    have hR1 := seqT_pen hR hd0 k1.n
    have hdl1 := k1.seq ndl hdl
    refine ⟨_, rfl, _, rfl, (j : Int), rfl, slA_any hR1 fun a1 H5 h5 s5 => ?_⟩
    rw [cut_to' (by rw [nlen]; exact hj)] at h5
    refine ⟨_, rfl, dl, _, 0, _, rfl, rfl, s5.seq hdl1, at_deed (k := 0) (by decide) (by omega), _, _, rfl, rfl, ?_, Nat.le_of_ble_eq_true rfl, fun a2 ha2 => catA_any (xs := ((nm ws ks).map V.str).take j) (ys := [V.str (oddW ws)]) (h5.ext (same_upd ha2)) (SqT.of upd_same) ?_ fun a3 H7 h7 s7 => ?_⟩
    · have h1 : ("000" : Str).length = 3 := by decide +kernel
      rw [h1]
      obtain ⟨c', r', e', _, _, h3'⟩ := hwd _ hw0
      have : (ws.getD 0 "").length = (ws.getD 0 "").cps.toList.length := by simp [Str.length]
      show (ws.getD 0 "").length + 3 ≤ sizeLine
      rw [this, e']
      exact Nat.le_of_lt (small1000 (by simp; omega))
    · rw [List.length_take, nlen]; simp; omega
    have s17 := (s5.trans (same_upd ha2)).trans s7
    have hR7 := hR1.ext s17
    refine ⟨_, rfl, _, rfl, (j : Int), rfl, ?_⟩
    delta tNoPart
    show rSlA K (.ref r) (some (j : Int)) none H7 _
    refine slA_any hR7 fun a4 H8 h8 s8 => ?_
    rw [cut_from' (by rw [nlen]; exact hj)] at h8
    refine catA_any (h7.ext s8) h8 ?_ fun wr H9 h9 s9 => ?_
    · simp [nm_len]; omega
    have s19 := s17.trans (s8.trans s9)
    have hwr : SqT K H9 wr ((nm ws (ks.take j)).map V.str ++ V.str (oddW ws) :: ((nm ws ks).map V.str).drop j) := by
      have : ((nm ws ks).map V.str).take j = (nm ws (ks.take j)).map V.str := by rw [nm, nm, List.map_take, List.map_take]
      rw [← this]
      rw [List.append_assoc] at h9
      exact h9
    refine ⟨_, rfl, Nat.le_of_ble_eq_true rfl, fun p hp' => ?_⟩
    have sF := s19.trans (same_upd (o := .tup [V.ref wr, V.int (j : Int)]) hp')
    obtain ⟨kv1, hd1⟩ := p1.dk
    refine k p wr j _ _ (k1.trans (Kept.same sF)) (p1.same sF) ?_ upd_same hj (hwr.ext (same_upd hp'))
    have z6 := s19.free hp'
    cases e : H p with
    | none => rfl
    | some o =>
      by_cases hpd : p = d
      · rw [hpd, hd1] at z6; cases z6
      · rw [k1 _ _ e hpd] at z6; cases z6
end
end K1
set_option Elab.async false
set_option linter.all false
set_option maxRecDepth 100000
/-! what the law calls; a turn -/
namespace K1
open PySem L2 LamX
abbrev sLaw : Stmt := top 62
abbrev qLaw : Str := "law.<locals>.<lambda>"
abbrev lawBody : List Stmt := forBody (stOf sLaw 1)
abbrev nLaw : List Str := ["_law_script", "_law_pen_here", "_law_turn", "_law_deeds", "_law_lot_here", "_law_made_here", "_law_values", "_law_row", "_law_due", "_law_told", "_law_spoilt", "_law_place", "_law_odd", "_law_index", "_law_none", "_law_plain_here", "_law_rule", "_law_k"]
theorem scLaw : FnScope nLaw ["_law_script"] (defScope sLaw) := ⟨rfl, rfl, rfl, by decide +kernel, rfl, by decide +kernel, by decide +kernel⟩
/-- what the law calls -/
structure Fs (P : Program) (w : World) (K : PySem.W.Frag) (mg : Str → Option Value) (base : Heap) (C CM CL CB CN : Addr) : Prop where
  T2 : Bt2 mg
  M : Tm K mg C
  MK : Tk K mg CM
  ML : Tl2 K mg CL
  EE : Ee K CB CN
  pen : ∃ f fd, mg "_law_pen" = some (.ref f) ∧ PySem.W.keepIn K (.ref f) = true ∧ Binds K fd ["_law_script"] [] ∧ FnOk P w K mg base CX0 1 f fd ["_law_script"] (spPen K)
  draw : ∃ f fd, mg "_law_draw" = some (.ref f) ∧ PySem.W.keepIn K (.ref f) = true ∧ Binds K fd pDraw [] ∧ FnOk P w K mg base CX0 1 f fd pDraw spDraw
  words : ∃ f fd, mg "_law_words" = some (.ref f) ∧ PySem.W.keepIn K (.ref f) = true ∧ Binds K fd pDraw [] ∧ FnOk P w K mg base CX0 3 f fd pDraw (spWords K)
  named : ∃ f fd, mg "_law_named" = some (.ref f) ∧ PySem.W.keepIn K (.ref f) = true ∧ Binds K fd pNamed [] ∧ FnOk P w K mg base CX0 1 f fd pNamed (spNamed K)
  lot : ∃ f fd, mg "_law_lot" = some (.ref f) ∧ PySem.W.keepIn K (.ref f) = true ∧ Binds K fd pLot [] ∧ FnOk P w K mg base CX0 4 f fd pLot (spLot K)
  lotm : ∃ f fd, mg "_law_lot_made" = some (.ref f) ∧ PySem.W.keepIn K (.ref f) = true ∧ Binds K fd ["_law_lot_here"] [] ∧ FnOk P w K mg base CX0 8 f fd ["_law_lot_here"] (spLotM K C CM CL)
  led : ∃ f fd, mg "_law_led" = some (.ref f) ∧ PySem.W.keepIn K (.ref f) = true ∧ Binds K fd pLed [] ∧ FnOk P w K mg base CX0 1 f fd pLed (spLed K)
  seen : ∃ f fd, mg "_law_seen" = some (.ref f) ∧ PySem.W.keepIn K (.ref f) = true ∧ Binds K fd ["_law_lot_here", "_law_values"] [] ∧ FnOk P w K mg base CX0 1 f fd ["_law_lot_here", "_law_values"] (spSeen K)
  left : ∃ f fd, mg "_law_left_by" = some (.ref f) ∧ PySem.W.keepIn K (.ref f) = true ∧ Binds K fd ["_law_lot_here", "_law_values"] [] ∧ FnOk P w K mg base CX0 1 f fd ["_law_lot_here", "_law_values"] (spLeft K)
  fault : ∃ f fd, Df K mg "_law_fault" sFaultV pFault f fd
  vsp : ∃ f fd, mg "_law_values_spoilt" = some (.ref f) ∧ PySem.W.keepIn K (.ref f) = true ∧ Binds K fd pVSp [] ∧ FnOk P w K mg base CX0 3 f fd pVSp (spVSp K)
  rsp : ∃ f fd, mg "_law_row_spoilt" = some (.ref f) ∧ PySem.W.keepIn K (.ref f) = true ∧ Binds K fd pRSp [] ∧ FnOk P w K mg base CX0 2 f fd pRSp (spRSp K)
  mkL : ∃ f fd, Mk K CL f ∧ Binds K fd pLI [] ∧ FnOk P w K mg base CX0 1 f fd pLI (spLInit K C CM CL)
  after : ∃ f fd, Meth K CL "after" f ∧ Binds K fd pLA [] ∧ FnOk P w K mg base (L2.CX P w) 5 f fd pLA (spLAfterX K C CM CL CB CN)
  look : ∃ f fd, Meth K CL "look" f ∧ Binds K fd ["self", "values"] [] ∧ FnOk P w K mg base (L2.CX P w) 4 f fd ["self", "values"] (spLLookX K C CM CL CB)
  ob : ∃ f fd, OBadState K mg CB f fd
  on : ∃ f fd, ONoDeed K mg CN f fd
/-! what is kept -/
theorem PlainAt.kn {H H' : Hp} {d p : Addr} {kv : List (Key × V)} {ws : List Str} {rs : List (List Int)} {ss : List Str} {st : Int} (h : PlainAt H p ws rs ss st) (hd : H d = some (.dK kv)) (n : p ≠ d) (k : KeptN d H H') : PlainAt H' p ws rs ss st := by
  obtain ⟨t, r, l, as, h1, ⟨o, h2, q2⟩, h3, h4, h5⟩ := h
  have ne : ∀ {a : Addr} {xs : List V}, H a = some (.lst xs) → H' a = some (.lst xs) := fun e => k.lst (ne_of e hd (by intro z; cases z)) e
  exact ⟨t, r, l, as, k _ _ h1 n (fun ps => by intro z; cases z), ⟨o, k _ _ h2 (ne_of h2 hd (by intro z; cases z)) (fun ps => by intro z; cases z), q2⟩, ne h3, ne h4, ⟨h5.1, fun i a q e1 e2 => ne (h5.2 i a q e1 e2)⟩⟩
theorem LotP.kn {d : Addr} {H H' : Hp} {kv : List (Key × V)} {l : Addr} {ws : List Str} {ms : List Pm} (h : LotP d H l ws ms) (hd : H d = some (.dK kv)) (k : KeptN d H H') : LotP d H' l ws ms := by
  obtain ⟨ts, h1, h2⟩ := h
  refine ⟨ts, k.lst (ne_of h1 hd (by intro z; cases z)) h1, h2.1, fun i t m e1 e2 => ?_⟩
  obtain ⟨p, n, g1, g2⟩ := h2.2 i t m e1 e2
  exact ⟨p, n, k.tup (ne_of g1 hd (by intro z; cases z)) g1, g2.kn hd n k⟩
theorem MachAt.kn {K : PySem.W.Frag} {C d : Addr} {kv : List (Key × V)} {H H' : Hp} {x : Addr} {ws : List Str} {rs : List (List Int)} {ss : List Str} {st : Int} (h : MachAt K C H x ws rs ss st) (hd : H d = some (.dK kv)) (k : KeptN d H H') : MachAt K C H' x ws rs ss st := by
  obtain ⟨dx, t, r, l, as, h1, ⟨o, h2, q2⟩, h3, h4, h5⟩ := h
  have ne : ∀ {a : Addr} {xs : List V}, H a = some (.tup xs) → H' a = some (.tup xs) := fun e => k.tup (ne_of e hd (by intro z; cases z)) e
  exact ⟨dx, t, r, l, as, k.ins (ne_of h1 hd (by intro z; cases z)) h1, ⟨o, k _ _ h2 (ne_of h2 hd (by intro z; cases z)) (fun ps => by intro z; cases z), q2⟩, ne h3, ⟨h4.1, fun i a q e1 e2 => ne (h4.2 i a q e1 e2)⟩, ne h5⟩
theorem LotAt.kn {K : PySem.W.Frag} {C CM CL d : Addr} {kv : List (Key × V)} {H H' : Hp} {x : Addr} {ws : List Str} {ms : List Pm} (h : LotAt K C CM CL H x ws ms) (hd : H d = some (.dK kv)) (k : KeptN d H H') : LotAt K C CM CL H' x ws ms := by
  obtain ⟨dx, q, b, as, h1, h2, h3, h4⟩ := h
  refine ⟨dx, q, b, as, k.ins (ne_of h1 hd (by intro z; cases z)) h1, seqT_pen h2 hd k, seqT_pen h3 hd k, h4.1, fun i a m e1 e2 => ?_⟩
  obtain ⟨dk, xk, g1, g2⟩ := h4.2 i a m e1 e2
  exact ⟨dk, xk, k.ins (ne_of g1 hd (by intro z; cases z)) g1, g2.kn hd k⟩
/-- a turn -/
structure Mz (K : PySem.W.Frag) (C CM CL : Addr) (T : List (Addr × Str)) (H : Hp) (d c : Addr) (n : Nat) (dl l x va ro : Addr) (ws : List Str) (ms : List Pm) (vals ks : List Int) : Prop where
  pen : PenAt H d c n
  hdl : H dl = some (.lst (ws.map V.str))
  lot : LotP d H l ws ms
  mad : LotAt K C CM CL H x ws ms
  tab : Tabs T H
  hva : SqT K H va (vals.map V.int)
  nva : va ≠ d
  hro : SqT K H ro (ks.map V.int)
/-- what the turn has drawn -/
structure Oz (ws : List Str) (ms : List Pm) (vals ks : List Int) (lw : Nat) : Prop where
  gd : GoodD ws
  eq : ∀ z ∈ ws, z.cps.toList.length = lw
  m1 : 1 ≤ ms.length
  m6 : ms.length ≤ 6
  pm : ∀ m ∈ ms, PmOk ws m
  rl : ∀ m ∈ ms, m.rs.length ≤ 12
  ok : VOk ms vals
  ix : Ix ws.length ks
  kl : ks.length ≤ 10
section
variable {K : PySem.W.Frag} {C CM CL : Addr} {T : List (Addr × Str)} {H H' : Hp} {d c : Addr} {n n' : Nat} {dl l x va ro : Addr} {ws : List Str} {ms : List Pm} {vals ks : List Int}
theorem Mz.hd (t : Mz K C CM CL T H d c n dl l x va ro ws ms vals ks) : ∃ kv, H d = some (.dK kv) := t.pen.dk
theorem Mz.go (t : Mz K C CM CL T H d c n dl l x va ro ws ms vals ks) (k : KeptN d H H') (hp : PenAt H' d c n') (b : Tabs T H') : Mz K C CM CL T H' d c n' dl l x va ro ws ms vals ks := by
  obtain ⟨kv, hd⟩ := t.hd
  exact ⟨hp, k.lst (ne_of t.hdl hd (by intro z; cases z)) t.hdl, t.lot.kn hd k, t.mad.kn hd k, b, seqT_pen t.hva hd k, t.nva, seqT_pen t.hro hd k⟩
theorem Mz.same (t : Mz K C CM CL T H d c n dl l x va ro ws ms vals ks) (s : Same H H') : Mz K C CM CL T H' d c n dl l x va ro ws ms vals ks := t.go (Kept.same s).n (t.pen.same s) (t.tab.same s)
theorem Mz.kept (t : Mz K C CM CL T H d c n dl l x va ro ws ms vals ks) (k : Kept d H H') (hp : PenAt H' d c n') : Mz K C CM CL T H' d c n' dl l x va ro ws ms vals ks := t.go k.n hp (t.tab.pen t.pen k)
theorem Mz.ndl (t : Mz K C CM CL T H d c n dl l x va ro ws ms vals ks) : dl ≠ d := by
  obtain ⟨kv, hd⟩ := t.hd
  exact ne_of t.hdl hd (by intro z; cases z)
end
/-! data -/
abbrev dI (xs : List Int) : PyData := .tuple (xs.map PyData.int)
theorem dI_l (xs : List Int) : (dI xs).canLay0 = true := by rw [PyData.canLay0, canLay_ints]
theorem dI_s (xs : List Int) : SeqAt.shaped (dI xs) = true := shaped_of (dI_l xs) (by rw [PyData.depth]; have := depth_ints xs; omega)
theorem dI_p {K : PySem.W.Frag} {H : Hp} {a : Addr} {xs : List Int} (h : SqT K H a (xs.map V.int)) : Dp K H (.ref a) (dI xs) := .tup h (dp_ints xs)
abbrev dL (zs : List Str) (xs : List Int) : PyData := .tuple [.tuple (zs.map PyData.str), .tuple (xs.map PyData.int)]
theorem dL_l {zs : List Str} (h : OkS zs) (xs : List Int) : (dL zs xs).canLay0 = true := by
  simp [PyData.canLay0, PyData.canLayAll0, canLay_strs _ h, canLay_ints]
theorem dL_s {zs : List Str} (h : OkS zs) (xs : List Int) : SeqAt.shaped (dL zs xs) = true := shaped_of (dL_l h xs) (by
  simp only [PyData.depth, PyData.depthAll]
  have h1 := depth_strs zs
  have h2 := depth_ints xs
  omega)
theorem dL_p {K : PySem.W.Frag} {H : Hp} {p a b : Addr} {zs : List Str} {xs : List Int} (hp : H p = some (.tup [.ref a, .ref b])) (ha : H a = some (.tup (zs.map V.str))) (hb : H b = some (.tup (xs.map V.int))) : Dp K H (.ref p) (dL zs xs) :=
  .tup (SqT.of hp) (.cons (.tup (SqT.of ha) (dp_strs zs)) (.cons (.tup (SqT.of hb) (dp_ints xs)) .nil))
abbrev dF (z : Str) (j : Nat) : PyData := .tuple [.str z, .int (j : Int)]
theorem dF_l {z : Str} (h : PyData.strOk z = true) (j : Nat) : (dF z j).canLay0 = true := by simp [PyData.canLay0, PyData.canLayAll0, h]
theorem dF_s {z : Str} (h : PyData.strOk z = true) (j : Nat) : SeqAt.shaped (dF z j) = true := shaped_of (dF_l h j) (by simp [PyData.depth, PyData.depthAll])
theorem dF_p {K : PySem.W.Frag} {H : Hp} {p : Addr} {z : Str} {j : Nat} (hp : H p = some (.tup [.str z, .int (j : Int)])) : Dp K H (.ref p) (dF z j) := .tup (SqT.of hp) (.cons (.str _) (.cons (.int _) .nil))
theorem okS_state : PyData.strOk ("state" : Str) = true := by decide +kernel
theorem okS_deed : PyData.strOk ("deed" : Str) = true := by decide +kernel
theorem ledL_nil {ms : List Pm} {vals : List Int} (h : vals.length = ms.length) : ledL ms [] vals = vals := by
  refine List.ext_getElem? fun i => ?_
  rw [ledL, List.getElem?_zipWith]
  cases hv : vals[i]? with
  | none =>
    cases hm : ms[i]? with
    | none => rfl
    | some m => rfl
  | some v =>
    have hi : i < ms.length := by rw [← h]; exact (List.getElem?_eq_some_iff.mp hv).1
    rw [List.getElem?_eq_getElem hi]
    rfl
theorem seen_ok {ws : List Str} {ms : List Pm} (pm : ∀ m ∈ ms, PmOk ws m) {vals : List Int} (ok : VOk ms vals) : OkS (seenL ms vals) := fun z hz => by
  obtain ⟨i, hi⟩ := List.mem_iff_getElem?.mp hz
  obtain ⟨m, v, em, ev, rfl⟩ := zw_inv hi
  obtain ⟨h0, h1⟩ := ok.2 i m v em ev
  have p := pm m (List.mem_of_getElem? em)
  have hl : v.toNat < m.ss.length := by rw [p.pt.tl.1]; omega
  have hm : m.ss.getD v.toNat "" ∈ m.ss := List.mem_of_getElem? (getD_get ("" : Str) hl)
  exact ok_chars (p.pt.tl.2 _ hm).2.2
end K1
set_option Elab.async false
set_option linter.all false
set_option maxRecDepth 100000
/-! the law: faults, and what stays -/
namespace K1
open PySem L2 LamX
section
variable {P : Program} {w : World} {K : PySem.W.Frag} {mg : Str → Option Value} {base : Heap} {C CM CL CB CN : Addr} {T : List (Addr × Str)}
theorem back_ok (F : Fs P w K mg base C CM CL CB CN) (f c pT : Addr) (A : Around) (outer : List Env) (s : Shared) (H0 : Hp) (E : XK) (hr : Room 8 (A.deeper (PyProof.Rows.envOfC "law" (defScope sLaw) s.heap.objs.size f (.ref c))))
    (TB : TabB base mg c pT) (mem : (pT, qLaw) ∈ T) (uni : ∀ p ∈ T, p.1 = pT → p.2 = qLaw) :
    ∃ t, PSs (cxOf CX0 P w K mg base nLaw "law" (defScope sLaw) f (.ref c) A outer s H0 E).nox (lawBody.drop 9) t ∧
      ∀ (D : Ends) (H : Hp) (v0 v2 v10 v11 v12 v13 v14 v15 v16 v17 : Option V) (d cc : Addr) (n : Nat) (dl l x va ro du to a b : Addr) (ws : List Str) (ms : List Pm) (vals ks : List Int) (lw : Nat),
        Mz K C CM CL T H d cc n dl l x va ro ws ms vals ks → Oz ws ms vals ks lw → n ≤ 500000 →
        H du = some (.tup ((ledL ms ks vals).map V.int)) → H to = some (.tup [.ref a, .ref b]) → H a = some (.tup ((seenL ms (ledL ms ks vals)).map V.str)) → H b = some (.tup ((leftL ms (ledL ms ks vals)).map V.int)) →
        (∀ (v10 v11 v12 v13 : Option V) (n' : Nat) (H' : Hp), PenAt H' d cc n' → n' ≤ n + 20 → KeptN d H H' → Tabs T H' → D.nx [v0, some (.ref d), v2, some (.ref dl), some (.ref l), some (.ref x), some (.ref va), some (.ref ro), some (.ref du), some (.ref to), v10, v11, v12, v13, v14, v15, v16, v17] H') →
        t D [v0, some (.ref d), v2, some (.ref dl), some (.ref l), some (.ref x), some (.ref va), some (.ref ro), some (.ref du), some (.ref to), v10, v11, v12, v13, v14, v15, v16, v17] H := by
  obtain ⟨T2, M, MK, ML, EE, _, _, _, ⟨fN, fdN, mgN, kpN, bN, GN⟩, _, _, _, _, _, ⟨fR, fdR, DF⟩, ⟨fV, fdV, mgV, kpV, bV, GV⟩, ⟨fO, fdO, mgO, kpO, bO, GO⟩, _, ⟨fA, fdA, MA, bA, GA⟩, ⟨fK, fdK, ML', bK, GK⟩, ⟨fB, fdB, OB⟩, ⟨fX, fdX, ON⟩⟩ := F
  have T1 : Bt mg := T2.toBt
  have hr1 : Room 1 (cxOf CX0 P w K mg base nLaw "law" (defScope sLaw) f (.ref c) A outer s H0 E).nox.A := hr.mono (by decide)
  have hr2 : Room 2 (cxOf CX0 P w K mg base nLaw "law" (defScope sLaw) f (.ref c) A outer s H0 E).nox.A := hr.mono (by decide)
  have hr3 : Room 3 (cxOf CX0 P w K mg base nLaw "law" (defScope sLaw) f (.ref c) A outer s H0 E).nox.A := hr.mono (by decide)
  have hr4 : Room 4 (cxOf CX0 P w K mg base nLaw "law" (defScope sLaw) f (.ref c) A outer s H0 E).nox.A := hr.mono (by decide)
  have hr5 : Room 5 (cxOf CX0 P w K mg base nLaw "law" (defScope sLaw) f (.ref c) A outer s H0 E).nox.A := hr.mono (by decide)
  have hr6 : Room 6 (cxOf CX0 P w K mg base nLaw "law" (defScope sLaw) f (.ref c) A outer s H0 E).nox.A := hr.mono (by decide)
  have hr7 : Room 7 (cxOf CX0 P w K mg base nLaw "law" (defScope sLaw) f (.ref c) A outer s H0 E).nox.A := hr.mono (by decide)
  refine ⟨_, pss_cons (ps_asg (pe_call GV hr3 rfl mgV kpV bV .nil pass0 (pa_cons (pv 1) (pa_cons (pv 4) (pa_cons (pv 6) pa_nil)))) (pg_tup (by rfl) (pgs_cons (pg_name (i := 10) scLaw.nd rfl (Or.inr rfl)) (pgs_cons (pg_name (i := 11) scLaw.nd rfl (Or.inl rfl)) pgs_nil))))
      (pss_cons (ps_asg (pe_call GO hr2 rfl mgO kpO bO .nil pass0 (pa_cons (pv 1) (pa_cons (pv 3) (pa_cons (pe_call GN hr1 rfl mgN kpN bN .nil pass0 (pa_cons (pv 3) (pa_cons (pv 7) pa_nil))) pa_nil)))) (pg_tup (by rfl) (pgs_cons (pg_name (i := 12) scLaw.nd rfl (Or.inr rfl)) (pgs_cons (pg_name (i := 13) scLaw.nd rfl (Or.inl rfl)) pgs_nil))))
      (pss_cons (ps_if (pt_cmpR (op_neD hr.units) (pe_lamS (T := T) (k := 4) DF scFault rfl (Or.inl rfl) rfl (fun gcd => gives_fault OB ON) TB rfl mem uni hr6 (lamS_by (by show lamSB (defScope sLaw) _ = true; decide +kernel))
          (fun A outer s2 H2 E f c' hr3 => pe_meth (pv 5) ML.cl ML' GK hr3 bK .nil (passes_call (takes_of rfl rfl rfl rfl) fun _ _ _ _ h => h) (pa_cons (pv 10) pa_nil))) (pe_tup (pa_cons pe_str (pa_cons (pv 11) pa_nil))) (nomark _)) (pss_one (ps_ret pe_bl)) pss_nil)
      (pss_cons (ps_if (pt_cmpR (op_neD hr.units) (pe_lamS (T := T) (k := 5) DF scFault rfl (Or.inl rfl) rfl (fun gcd => gives_fault OB ON) TB rfl mem uni hr7 (lamS_by (by show lamSB (defScope sLaw) _ = true; decide +kernel))
          (fun A outer s2 H2 E f c' hr3 => pe_meth (pv 5) ML.cl MA GA hr3 bA .nil (passes_call (takes_of rfl rfl rfl rfl) fun _ _ _ _ h => h) (pa_cons (pv 10) (pa_cons (pv 12) pa_nil)))) (pe_tup (pa_cons pe_str (pa_cons (pv 11) pa_nil))) (nomark _)) (pss_one (ps_ret pe_bl)) pss_nil)
      (pss_cons (ps_if (pt_cmpR (op_neD hr.units) (pe_lamS (T := T) (k := 5) DF scFault rfl (Or.inl rfl) rfl (fun gcd => gives_fault OB ON) TB rfl mem uni hr7 (lamS_by (by show lamSB (defScope sLaw) _ = true; decide +kernel))
          (fun A outer s2 H2 E f c' hr3 => pe_meth (pv 5) ML.cl MA GA hr3 bA .nil (passes_call (takes_of rfl rfl rfl rfl) fun _ _ _ _ h => h) (pa_cons (pv 6) (pa_cons (pv 12) pa_nil)))) (pe_tup (pa_cons pe_str (pa_cons (pv 13) pa_nil))) (nomark _)) (pss_one (ps_ret pe_bl)) pss_nil)
      (pss_one (ps_if (PW.pt (pw_or (pt_cmpR (op_neD hr.units) (pe_meth (pv 5) ML.cl MA GA hr5 bA .nil passL (pa_cons (pv 6) (pa_cons (pe_call GN hr1 rfl mgN kpN bN .nil pass0 (pa_cons (pv 3) (pa_cons (pv 7) pa_nil))) pa_nil))) (pv 8) (nomark _))
          (pw_or1 (pt_cmpR (op_neD hr.units) (pe_meth (pv 5) ML.cl ML' GK hr4 bK .nil passL (pa_cons (pv 8) pa_nil)) (pv 9) (nomark _))))) (pss_one (ps_ret pe_bl)) pss_nil)))))), ?_⟩
  intro D H v0 v2 v10 v11 v12 v13 v14 v15 v16 v17 d cc n dl l x va ro du to a b ws ms vals ks lw mz oz hn hdu hto ha hb done
  obtain ⟨kv, hd0⟩ := mz.hd
  have w1 := oz.gd.len
  have m1' := oz.m1
  have k10 := oz.kl
  have hw0 : ws.getD 0 "" ∈ ws := List.mem_of_getElem? (getD_get ("" : Str) (by omega))
  have okl : VOk ms (ledL ms ks vals) := oz.ok.led oz.pm oz.ix
  have thI : ∀ (G : Hp) (us : List Int), ThAll K G (us.map V.int) := fun G us y hy => by
    obtain ⟨z, _, rfl⟩ := List.mem_map.mp hy
    exact ⟨_, .int z⟩
  -- spoilt, place
  refine ⟨_, rfl, _, rfl, _, rfl, d, cc, l, va, n, ws, ms, vals, rfl, mz.pen, by omega, mz.lot, mz.hva, mz.nva, oz.ok, oz.m1, oz.m6, oz.rl, fun p t vs0 j n1 H1 k1 p1 hn1 hp0 ep et spo hsv => ?_⟩
  have z1 := mz.kept k1 p1
  obtain ⟨kv1, hd1⟩ := z1.hd
  refine ⟨p, _, rfl, SqT.of ep, rfl, _, _, rfl, _, _, rfl, rfl, ?_⟩
  -- odd, index
  refine ⟨_, rfl, _, rfl, _, rfl, _, rfl, dl, ro, ws, ks, rfl, SqL.of z1.hdl, z1.hro, oz.ix, by omega, fun na H2 hna0 s2 ena => ?_⟩
  have z2 := z1.same s2
  refine ⟨d, cc, dl, na, _, ws, ks, rfl, z2.pen, by omega, SqL.of z2.hdl, z2.ndl, w1.1, oz.gd.wd, SqT.of ena, by omega, fun p3 t3 j3 rest H3 k3 p3' hp30 ep3 hj3 hwr => ?_⟩
  have z3 := z2.kept k3 p3'
  refine ⟨p3, _, rfl, SqT.of ep3, rfl, _, _, rfl, _, _, rfl, rfl, ?_⟩
  have k13 : KeptN d H1 H3 := (Kept.same s2).n.trans k3.n
  have k03 : KeptN d H H3 := k1.n.trans k13
  have et3 := k13.tup (ne_of et hd1 (by intro z; cases z)) et
  have hsv3 : ∀ y ∈ vs0, SpV H3 y := fun y hy => (hsv y hy).kn hd1 k13
  obtain ⟨kv3, hd3⟩ := z3.hd
  obtain ⟨hlen, my, yy, em, ey, hbad, hig⟩ := spo
  obtain ⟨sdy, ndy⟩ := oddW_ok oz.gd.wd oz.eq hw0
  have hkj : (ks.take j3).length = j3 := by rw [List.length_take]; omega
  -- fault(look(spoilt)) != ("state", place)
  refine ⟨z3.tab, fun H4 e4 T4 f4 => ?_⟩
  have z4 := z3.go e4.n (e4.pen z3.pen) T4
  have et4 := e4.n.tup (ne_of et3 hd3 (by intro z; cases z)) et3
  obtain ⟨dx4, q4, b4, as4, hx4, _⟩ := id z4.mad
  refine ⟨_, rfl, x, dx4, _, rfl, hx4, lf_no _ _ (by decide +kernel) (by decide +kernel), _, rfl, ?_⟩
  try delta tNil
  show spLLookX K C CM CL CB [.ref x, .ref t] H4 _ _
  refine ⟨x, t, ws, ms, vs0, rfl, z4.mad, SqT.of et4, hlen, fun y hy => ((hsv3 y hy).kn hd3 e4.n).th, oz.m6, oz.pm, .inr ⟨j, my, yy, em, ey, hbad, hig, rs_state EE (fun p5 G5 s5 zz5 e5 => ?_) f4⟩⟩
  have z5 := z4.same s5
  refine ⟨_, rfl, Nat.le_of_ble_eq_true rfl, fun u6 hu6 => ?_⟩
  have s6 := same_upd (o := .tup [V.str "state", V.int (j : Int)]) hu6
  refine ⟨dF "state" j, dF "state" j, dF_p (s6 _ _ e5), dF_p upd_same, dF_s okS_state j, dF_s okS_state j, _, rfl, ?_⟩
  rw [PySem.SeqAt.eqv_refl _ (dF_l okS_state j)]
  refine iteF ?_
  have z6 := z5.same s6
  have k36 : KeptN d H3 _ := e4.n.trans (Kept.same (s5.trans s6)).n
  have et6 := k36.tup (ne_of et3 hd3 (by intro z; cases z)) et3
  have hwr6 := seqT_pen hwr hd3 k36
  have hsv6 : ∀ y ∈ vs0, SpV (upd G5 u6 (.tup [V.str "state", V.int (j : Int)])) y := fun y hy => (hsv3 y hy).kn hd3 k36
  generalize upd G5 u6 (.tup [V.str "state", V.int (j : Int)]) = H6 at z6 k36 et6 hwr6 hsv6 ⊢
  clear s6
  obtain ⟨kv6, hd6⟩ := z6.hd
  -- fault(after(spoilt, odd)) != ("state", place)
  refine ⟨z6.tab, fun H7 e7 T7 f7 => ?_⟩
  have z7 := z6.go e7.n (e7.pen z6.pen) T7
  have et7 := e7.n.tup (ne_of et6 hd6 (by intro z; cases z)) et6
  have hwr7 := seqT_pen hwr6 hd6 e7.n
  obtain ⟨dx7, q7, b7, as7, hx7, _⟩ := id z7.mad
  refine ⟨_, rfl, x, dx7, _, rfl, hx7, lf_no _ _ (by decide +kernel) (by decide +kernel), _, rfl, _, rfl, ?_⟩
  try delta tNil
  show spLAfterX K C CM CL CB CN [.ref x, .ref t, .ref t3] H7 _ _
  refine ⟨x, t, t3, ws, ms, vs0, _, rfl, z7.mad, .inr (SqT.of et7), hlen, fun y hy => ((hsv6 y hy).kn hd6 e7.n).th, hwr7, oz.m6, oz.pm, .inr ⟨j, my, yy, em, ey, hbad, hig, rs_state EE (fun p8 G8 s8 zz8 e8 => ?_) f7⟩⟩
  have z8 := z7.same s8
  refine ⟨_, rfl, Nat.le_of_ble_eq_true rfl, fun u9 hu9 => ?_⟩
  have s9 := same_upd (o := .tup [V.str "state", V.int (j : Int)]) hu9
  refine ⟨dF "state" j, dF "state" j, dF_p (s9 _ _ e8), dF_p upd_same, dF_s okS_state j, dF_s okS_state j, _, rfl, ?_⟩
  rw [PySem.SeqAt.eqv_refl _ (dF_l okS_state j)]
  refine iteF ?_
  have z9 := z8.same s9
  have k69 : KeptN d H6 _ := e7.n.trans (Kept.same (s8.trans s9)).n
  have hwr9 := seqT_pen hwr6 hd6 k69
  generalize upd G8 u9 (.tup [V.str "state", V.int (j : Int)]) = H9 at z9 k69 hwr9 ⊢
  clear s9
  obtain ⟨kv9, hd9⟩ := z9.hd
  -- fault(after(values, odd)) != ("deed", index)
  refine ⟨z9.tab, fun H10 e10 T10 f10 => ?_⟩
  have z10 := z9.go e10.n (e10.pen z9.pen) T10
  have hwr10 := seqT_pen hwr9 hd9 e10.n
  obtain ⟨dx10, q10, b10, as10, hx10, _⟩ := id z10.mad
  refine ⟨_, rfl, x, dx10, _, rfl, hx10, lf_no _ _ (by decide +kernel) (by decide +kernel), _, rfl, _, rfl, ?_⟩
  try delta tNil
  show spLAfterX K C CM CL CB CN [.ref x, .ref va, .ref t3] H10 _ _
  refine ⟨x, va, t3, ws, ms, vals.map V.int, _, rfl, z10.mad, .inr z10.hva, by rw [List.length_map, oz.ok.1], thI _ _, hwr10, oz.m6, oz.pm, .inl ⟨vals, ks.take j3, rfl, oz.ok, .inr ⟨fun e => by rw [e] at m1'; exact absurd m1' (by decide), .str (oddW ws), .str (oddW ws), rest, rfl, oz.ix.take j3, by omega, fun G _ => .str _, sdy, ndy, ?_⟩⟩⟩
  rw [hkj]
  refine rs_deed EE (fun p11 G11 s11 zz11 e11 => ?_) f10
  have z11 := z10.same s11
  refine ⟨_, rfl, Nat.le_of_ble_eq_true rfl, fun u12 hu12 => ?_⟩
  have s12 := same_upd (o := .tup [V.str "deed", V.int (j3 : Int)]) hu12
  refine ⟨dF "deed" j3, dF "deed" j3, dF_p (s12 _ _ e11), dF_p upd_same, dF_s okS_deed j3, dF_s okS_deed j3, _, rfl, ?_⟩
  rw [PySem.SeqAt.eqv_refl _ (dF_l okS_deed j3)]
  refine iteF ?_
  have z12 := z11.same s12
  have k012 : KeptN d H _ := k03.trans (k36.trans (k69.trans (e10.n.trans (Kept.same (s11.trans s12)).n)))
  generalize upd G11 u12 (.tup [V.str "deed", V.int (j3 : Int)]) = H12 at z12 k012 ⊢
  clear s12
  have tp : ∀ {a : Addr} {xs : List V}, H a = some (.tup xs) → H12 a = some (.tup xs) := fun h => k012.tup (ne_of h hd0 (by intro z; cases z)) h
  have hdu12 := tp hdu
  have hto12 := tp hto
  have ha12 := tp ha
  have hb12 := tp hb
  -- after(values, named) != due
  obtain ⟨dx12, q12, b12, as12, hx12, _⟩ := id z12.mad
  refine ⟨_, rfl, x, dx12, _, rfl, hx12, lf_no _ _ (by decide +kernel) (by decide +kernel), _, rfl, _, rfl, _, rfl, dl, ro, ws, ks, rfl, SqL.of z12.hdl, z12.hro, oz.ix, by omega, fun nb H13 hnb0 s13 enb => ?_⟩
  have z13 := z12.same s13
  try delta tNil
  show spLAfterX K C CM CL CB CN [.ref x, .ref va, .ref nb] H13 _ _
  refine ⟨x, va, nb, ws, ms, vals.map V.int, _, rfl, z13.mad, .inr z13.hva, by rw [List.length_map, oz.ok.1], thI _ _, SqT.of enb, oz.m6, oz.pm, .inl ⟨vals, ks, rfl, oz.ok, .inl ⟨nm ws ks, rfl, .inr ⟨rfl, oz.ix, by omega⟩, fun p14 H14 hp14 s14 e14 => ?_⟩⟩⟩
  have z14 := z13.same s14
  have s1214 := s13.trans s14
  refine ⟨_, rfl, dI _, dI _, dI_p (SqT.of e14), dI_p (SqT.of (s1214 _ _ hdu12)), dI_s _, dI_s _, _, rfl, ?_⟩
  rw [PySem.SeqAt.eqv_refl _ (dI_l _)]
  refine iteF ?_
  -- look(due) != told
  obtain ⟨dx14, q14, b14, as14, hx14, _⟩ := id z14.mad
  refine ⟨_, rfl, x, dx14, _, rfl, hx14, lf_no _ _ (by decide +kernel) (by decide +kernel), _, rfl, ?_⟩
  try delta tNil
  show spLLookX K C CM CL CB [.ref x, .ref du] H14 _ _
  refine ⟨x, du, ws, ms, _, rfl, z14.mad, SqT.of (s1214 _ _ hdu12), by rw [List.length_map, okl.1], thI _ _, oz.m6, oz.pm, .inl ⟨ledL ms ks vals, rfl, okl, fun p15 a15 b15 H15 hp15 s15 e15 ea15 eb15 => ?_⟩⟩
  have s1215 := s1214.trans s15
  have so := seen_ok oz.pm okl
  refine ⟨_, rfl, dL _ _, dL _ _, dL_p e15 ea15 eb15, dL_p (s1215 _ _ hto12) (s1215 _ _ ha12) (s1215 _ _ hb12), dL_s so _, dL_s so _, _, rfl, ?_⟩
  rw [PySem.SeqAt.eqv_refl _ (dL_l so _)]
  refine iteF ?_
  have z15 := z14.same s15
  exact done _ _ _ _ _ H15 z15.pen (by omega) (k012.trans (Kept.same s1215).n) z15.tab
end
end K1
set_option Elab.async false
set_option linter.all false
set_option maxRecDepth 100000
/-! the law: after, look; the turn; the law -/
namespace K1
open PySem L2 LamX
section
variable {P : Program} {w : World} {K : PySem.W.Frag} {mg : Str → Option Value} {base : Heap} {C CM CL CB CN : Addr} {T : List (Addr × Str)}
theorem mid_ok (F : Fs P w K mg base C CM CL CB CN) (f c pT : Addr) (A : Around) (outer : List Env) (s : Shared) (H0 : Hp) (E : XK) (hr : Room 8 (A.deeper (PyProof.Rows.envOfC "law" (defScope sLaw) s.heap.objs.size f (.ref c))))
    (TB : TabB base mg c pT) (mem : (pT, qLaw) ∈ T) (uni : ∀ p ∈ T, p.1 = pT → p.2 = qLaw) :
    ∃ t, PSs (cxOf CX0 P w K mg base nLaw "law" (defScope sLaw) f (.ref c) A outer s H0 E).nox (lawBody.drop 6) t ∧
      ∀ (D : Ends) (H : Hp) (v0 v2 v9 v10 v11 v12 v13 v14 v15 v16 v17 : Option V) (d cc : Addr) (n : Nat) (dl l x va ro du : Addr) (ws : List Str) (ms : List Pm) (vals ks : List Int) (lw : Nat),
        Mz K C CM CL T H d cc n dl l x va ro ws ms vals ks → Oz ws ms vals ks lw → n ≤ 500000 →
        H du = some (.tup ((ledL ms ks vals).map V.int)) →
        (∀ (v9 v10 v11 v12 v13 : Option V) (n' : Nat) (H' : Hp), PenAt H' d cc n' → n' ≤ n + 20 → KeptN d H H' → Tabs T H' → D.nx [v0, some (.ref d), v2, some (.ref dl), some (.ref l), some (.ref x), some (.ref va), some (.ref ro), some (.ref du), v9, v10, v11, v12, v13, v14, v15, v16, v17] H') →
        t D [v0, some (.ref d), v2, some (.ref dl), some (.ref l), some (.ref x), some (.ref va), some (.ref ro), some (.ref du), v9, v10, v11, v12, v13, v14, v15, v16, v17] H := by
  obtain ⟨t9, ht9, hq9⟩ := back_ok F f c pT A outer s H0 E hr TB mem uni
  obtain ⟨T2, M, MK, ML, EE, _, _, _, ⟨fN, fdN, mgN, kpN, bN, GN⟩, _, _, _, ⟨fS, fdS, mgS, kpS, bS, GS⟩, ⟨fL, fdL, mgL, kpL, bL, GL⟩, _, _, _, _, ⟨fA, fdA, MA, bA, GA⟩, ⟨fK, fdK, ML', bK, GK⟩, _, _⟩ := F
  have T1 : Bt mg := T2.toBt
  have hr1 : Room 1 (cxOf CX0 P w K mg base nLaw "law" (defScope sLaw) f (.ref c) A outer s H0 E).nox.A := hr.mono (by decide)
  have hr4 : Room 4 (cxOf CX0 P w K mg base nLaw "law" (defScope sLaw) f (.ref c) A outer s H0 E).nox.A := hr.mono (by decide)
  have hr5 : Room 5 (cxOf CX0 P w K mg base nLaw "law" (defScope sLaw) f (.ref c) A outer s H0 E).nox.A := hr.mono (by decide)
  refine ⟨_, pss_cons (ps_if (PW.pt (pw_or (pt_cmpR (op_neD hr.units) (pe_meth (pv 5) ML.cl MA GA hr5 bA .nil passL (pa_cons (pv 6) (pa_cons (pe_call GN hr1 rfl mgN kpN bN .nil pass0 (pa_cons (pv 3) (pa_cons (pv 7) pa_nil))) pa_nil))) (pv 8) (nomark _))
          (pw_or1 (pt_cmpR (op_neD hr.units) (pe_meth (pv 5) ML.cl MA GA hr5 bA .nil passL (pa_cons (pe_callTy (r := rLi K) call_list_of (by rfl) T1.list PyProof.Rows.boot_list (pa_cons (pv 6) pa_nil)) (pa_cons (pe_tup pa_nil) pa_nil))) (pv 6) (nomark _))))) (pss_one (ps_ret pe_bl)) pss_nil)
      (pss_cons (ps_set (i := 9) scLaw.nd rfl (Or.inl rfl) (pe_meth (pv 5) ML.cl ML' GK hr4 bK .nil passL (pa_cons (pv 8) pa_nil)))
      (pss_cons (ps_if (PW.pt (pw_or (pt_not (pt_val (pe_callB call_isi (by rfl) T2.isinstance PyProof.Rows.boot_isinstance (pa_cons (pv 9) (pa_cons (pe_bltn (v := .ty "tuple") (by rfl) T1.tuple PyProof.Rows.boot_tuple rfl) pa_nil)))))
          (pw_or1 (pt_cmpR (op_neD hr.units) (pv 9) (pe_tup (pa_cons (pe_call GS hr1 rfl mgS kpS bS .nil pass0 (pa_cons (pv 4) (pa_cons (pv 8) pa_nil))) (pa_cons (pe_call GL hr1 rfl mgL kpL bL .nil pass0 (pa_cons (pv 4) (pa_cons (pv 8) pa_nil))) pa_nil))) (nomark _))))) (pss_one (ps_ret pe_bl)) pss_nil)
        ht9)), ?_⟩
  intro D H v0 v2 v9 v10 v11 v12 v13 v14 v15 v16 v17 d cc n dl l x va ro du ws ms vals ks lw mz oz hn hdu done
  have k10 := oz.kl
  have okl : VOk ms (ledL ms ks vals) := oz.ok.led oz.pm oz.ix
  have so := seen_ok oz.pm okl
  have thI : ∀ (G : Hp) (us : List Int), ThAll K G (us.map V.int) := fun G us y hy => by
    obtain ⟨z, _, rfl⟩ := List.mem_map.mp hy
    exact ⟨_, .int z⟩
  -- after(values, named) != due
  obtain ⟨dx, q, b, as, hx, _⟩ := id mz.mad
  refine ⟨_, rfl, x, dx, _, rfl, hx, lf_no _ _ (by decide +kernel) (by decide +kernel), _, rfl, _, rfl, _, rfl, dl, ro, ws, ks, rfl, SqL.of mz.hdl, mz.hro, oz.ix, by omega, fun nb H1 hnb0 s1 enb => ?_⟩
  have z1 := mz.same s1
  try delta tNil
  show spLAfterX K C CM CL CB CN [.ref x, .ref va, .ref nb] H1 _ _
  refine ⟨x, va, nb, ws, ms, vals.map V.int, _, rfl, z1.mad, .inr z1.hva, by rw [List.length_map, oz.ok.1], thI _ _, SqT.of enb, oz.m6, oz.pm, .inl ⟨vals, ks, rfl, oz.ok, .inl ⟨nm ws ks, rfl, .inr ⟨rfl, oz.ix, by omega⟩, fun p2 H2 hp2 s2 e2 => ?_⟩⟩⟩
  have z2 := z1.same s2
  have s02 := s1.trans s2
  refine ⟨_, rfl, dI _, dI _, dI_p (SqT.of e2), dI_p (SqT.of (s02 _ _ hdu)), dI_s _, dI_s _, _, rfl, ?_⟩
  rw [PySem.SeqAt.eqv_refl _ (dI_l _)]
  refine iteF ?_
  -- after(list(values), ()) != values
  obtain ⟨dx2, q2, b2, as2, hx2, _⟩ := id z2.mad
  refine ⟨_, rfl, x, dx2, _, rfl, hx2, lf_no _ _ (by decide +kernel) (by decide +kernel), _, rfl, va, _, rfl, .inr z2.hva, fun lv hlv => ⟨Nat.zero_le _, fun te hte => ?_⟩⟩
  have s3 := (same_upd (o := .lst (vals.map V.int)) hlv).trans (same_upd (o := .tup []) hte)
  have elv : upd (upd H2 lv (.lst (vals.map V.int))) te (.tup []) lv = some (.lst (vals.map V.int)) := by
    rw [upd_ne (ne_of_none upd_same hte)]; exact upd_same
  have ete : upd (upd H2 lv (.lst (vals.map V.int))) te (.tup []) te = some (.tup []) := upd_same
  generalize upd (upd H2 lv (.lst (vals.map V.int))) te (.tup []) = H3 at s3 elv ete ⊢
  have z3 := z2.same s3
  try delta tNil
  show spLAfterX K C CM CL CB CN [.ref x, .ref lv, .ref te] H3 _ _
  refine ⟨x, lv, te, ws, ms, vals.map V.int, [], rfl, z3.mad, .inl (SqL.of elv), by rw [List.length_map, oz.ok.1], thI _ _, SqT.of ete, oz.m6, oz.pm, .inl ⟨vals, [], rfl, oz.ok, .inl ⟨[], rfl, .inr ⟨rfl, (fun k hk => nomatch hk), by decide⟩, fun p4 H4 hp4 s4 e4 => ?_⟩⟩⟩
  rw [ledL_nil oz.ok.1] at e4
  have z4 := z3.same s4
  refine ⟨_, rfl, dI _, dI _, dI_p (SqT.of e4), dI_p z4.hva, dI_s _, dI_s _, _, rfl, ?_⟩
  rw [PySem.SeqAt.eqv_refl _ (dI_l _)]
  refine iteF ?_
  -- told
  have s04 := s02.trans (s3.trans s4)
  obtain ⟨dx4, q4, b4, as4, hx4, _⟩ := id z4.mad
  refine ⟨_, rfl, x, dx4, _, rfl, hx4, lf_no _ _ (by decide +kernel) (by decide +kernel), _, rfl, ?_⟩
  try delta tNil
  show spLLookX K C CM CL CB [.ref x, .ref du] H4 _ _
  refine ⟨x, du, ws, ms, _, rfl, z4.mad, SqT.of (s04 _ _ hdu), by rw [List.length_map, okl.1], thI _ _, oz.m6, oz.pm, .inl ⟨ledL ms ks vals, rfl, okl, fun to a b H5 hp5 s5 e5 ea5 eb5 => ?_⟩⟩
  have z5 := z4.same s5
  have s05 := s04.trans s5
  -- isinstance
  refine ⟨_, rfl, _, _, _, _, true, rfl, .ty "tuple", .base (.tup e5), kit_ty (by decide +kernel), true, rfl, ?_⟩
  refine iteF ?_
  refine ⟨_, rfl, _, rfl, _, rfl, d, l, du, ws, ms, ledL ms ks vals, rfl, z5.lot, SqT.of (s05 _ _ hdu), okl, oz.m6, oz.pm, fun p6 H6 hp6 s6 e6 => ?_⟩
  have z6 := z5.same s6
  have s06 := s05.trans s6
  refine ⟨_, rfl, _, rfl, d, l, du, ws, ms, ledL ms ks vals, rfl, z6.lot, SqT.of (s06 _ _ hdu), okl, oz.m6, fun p7 H7 hp7 s7 e7 => ?_⟩
  have z7 := z6.same s7
  refine ⟨Nat.le_of_ble_eq_true rfl, fun p8 hp8 => ?_⟩
  have s8 := same_upd (o := .tup [V.ref p6, V.ref p7]) hp8
  have s58 := s6.trans (s7.trans s8)
  refine ⟨dL _ _, dL _ _, dL_p (s58 _ _ e5) (s58 _ _ ea5) (s58 _ _ eb5), dL_p upd_same (s8 _ _ (s7 _ _ e6)) (s8 _ _ e7), dL_s so _, dL_s so _, _, rfl, ?_⟩
  rw [PySem.SeqAt.eqv_refl _ (dL_l so _)]
  refine iteF ?_
  have z8 := z7.same s8
  have s08 := s05.trans s58
  exact hq9 D _ v0 v2 v10 v11 v12 v13 v14 v15 v16 v17 d cc n dl l x va ro du to a b ws ms vals ks lw z8 oz hn (s08 _ _ hdu) (s58 _ _ e5) (s58 _ _ ea5) (s58 _ _ eb5) fun w10 w11 w12 w13 n' H' p' hn' k' T' => done _ _ _ _ _ n' H' p' hn' ((Kept.same s08).n.trans k') T'
end
end K1
set_option Elab.async false
set_option linter.all false
set_option maxRecDepth 100000
/-! the law -/
namespace K1
open PySem L2 LamX
def spLaw (K : PySem.W.Frag) (T : List (Addr × Str)) : Sp := fun vs H Q _ => ∃ (a : Addr) (ns : List Int), vs = [.ref a] ∧ SqL K H a (ns.map V.int) ∧ ns.length ≤ 63 ∧ Tabs T H ∧ ∀ H', Q (.bl true) H'
def menu : List Str := ["x", "y", "x/y"]
theorem menu_ok : ∀ z ∈ menu, 1 ≤ z.cps.toList.length ∧ z.cps.toList.length ≤ 60 ∧ ∀ x ∈ z.cps.toList, x ∈ TL' := by decide +kernel
theorem menu_tl {z : Str} (h : z ∈ menu) : Tl z := menu_ok z h
/-- the values drawn so far -/
def VUp (ms : List Pm) (us : List Int) (i : Nat) : Prop := us.length = i ∧ ∀ (j : Nat) (m : Pm) (v : Int), ms[j]? = some m → us[j]? = some v → 0 ≤ v ∧ v < (m.rs.length : Int)
theorem VUp.snoc {ms : List Pm} {us : List Int} {i : Nat} (h : VUp ms us i) {m : Pm} (em : ms[i]? = some m) {v : Int} (v0 : 0 ≤ v) (v1 : v < (m.rs.length : Int)) : VUp ms (us ++ [v]) (i + 1) := by
  refine ⟨by simp [h.1], fun j m' v' em' ev' => ?_⟩
  by_cases hj : j < us.length
  · rw [List.getElem?_append_left hj] at ev'
    exact h.2 j m' v' em' ev'
  · rw [List.getElem?_append_right (by omega)] at ev'
    cases hk : j - us.length with
    | zero =>
      rw [hk] at ev'
      have hji : j = i := by have := h.1; omega
      rw [hji, em] at em'
      cases em'
      have : v' = v := by simpa using ev'.symm
      rw [this]; exact ⟨v0, v1⟩
    | succ k => rw [hk] at ev'; simp at ev'
section
variable {P : Program} {w : World} {K : PySem.W.Frag} {mg : Str → Option Value} {base : Heap} {C CM CL CB CN : Addr} {T : List (Addr × Str)}
theorem ok_law (F : Fs P w K mg base C CM CL CB CN) {f c pT : Addr} {fd : FuncData} (FL : FunC K "law" "law" sLaw f fd c) (TB : TabB base mg c pT) (mem : (pT, qLaw) ∈ T) (uni : ∀ p ∈ T, p.1 = pT → p.2 = qLaw) : FnOk P w K mg base CX0 9 f fd ["_law_script"] (spLaw K T) := by
  refine FL.ok scLaw (fun vs H Q E h => ?_) (fun A outer s H vs Q E hr h => ?_)
  · obtain ⟨a, ns, rfl, _⟩ := h
    rfl
  · obtain ⟨a, ns, rfl, ha, hns, hT, k⟩ := h
    obtain ⟨t6, ht6, hq6⟩ := mid_ok F f c pT A outer s H E hr TB mem uni
    obtain ⟨T2, M, MK, ML, EE, ⟨fE, fdE, mgE, kpE, bE, GE⟩, ⟨fD, fdD, mgD, kpD, bD, GD⟩, ⟨fW, fdW, mgW, kpW, bW, GW⟩, _, ⟨fT, fdT, mgT, kpT, bT, GT⟩, ⟨fM, fdM, mgM, kpM, bM, GM⟩, ⟨fL, fdL, mgL, kpL, bL, GL⟩, _, _, _, _, _, ⟨fLI, fdLI, MkL, bLI, GLI⟩, ⟨fA, fdA, MA, bA, GA⟩, ⟨fK, fdK, ML', bK, GK⟩, _, _⟩ := F
    have T1 : Bt mg := T2.toBt
    have hu := hu_of hr
    have hr1 : Room 1 (cxOf CX0 P w K mg base nLaw "law" (defScope sLaw) f (.ref c) A outer s H E).nox.A := hr.mono (by decide)
    have hr2 : Room 2 (cxOf CX0 P w K mg base nLaw "law" (defScope sLaw) f (.ref c) A outer s H E).nox.A := hr.mono (by decide)
    have hr3 : Room 3 (cxOf CX0 P w K mg base nLaw "law" (defScope sLaw) f (.ref c) A outer s H E).nox.A := hr.mono (by decide)
    have hr4 : Room 4 (cxOf CX0 P w K mg base nLaw "law" (defScope sLaw) f (.ref c) A outer s H E).nox.A := hr.mono (by decide)
    have hr5 : Room 5 (cxOf CX0 P w K mg base nLaw "law" (defScope sLaw) f (.ref c) A outer s H E).nox.A := hr.mono (by decide)
    refine ⟨_, pss_cons (ps_set (i := 1) scLaw.nd rfl (Or.inr rfl) (pe_call GE hr1 rfl mgE kpE bE .nil pass0 (pa_cons (pv 0) pa_nil)))
      (pss_cons (ps_for PassesOwn.never rfl (pi_range1 rfl T1.range (pa_cons (pe_op op_add pe_int (pe_callB (call_min2 rfl) (by rfl) T2.min PyProof.Rows.boot_min (pa_cons pe_int (pa_cons (pe_callB call_len (by rfl) T1.len PySem.boot_len (pa_cons (pv 0) pa_nil)) pa_nil)))) pa_nil)) (pg_name (i := 2) scLaw.nd rfl (Or.inl rfl))
        (pss_cons (ps_set (i := 3) scLaw.nd rfl (Or.inr rfl) (pe_call GW hr3 rfl mgW kpW bW .nil pass0 (pa_cons (pv 1) (pa_cons (pe_op op_add pe_int (pe_call GD hr1 rfl mgD kpD bD .nil pass0 (pa_cons (pv 1) (pa_cons pe_int pa_nil)))) pa_nil))))
        (pss_cons (ps_set (i := 4) scLaw.nd rfl (Or.inr rfl) (pe_call GT hr4 rfl mgT kpT bT .nil pass0 (pa_cons (pv 1) (pa_cons (pv 3) (pa_cons (pe_op op_add pe_int (pe_call GD hr1 rfl mgD kpD bD .nil pass0 (pa_cons (pv 1) (pa_cons pe_int pa_nil)))) (pa_cons pe_int (pa_cons (pe_lst (pa_cons pe_str (pa_cons pe_str (pa_cons pe_str pa_nil)))) pa_nil)))))))
        (pss_cons (ps_set (i := 5) scLaw.nd rfl (Or.inr rfl) (pe_call GM hr rfl mgM kpM bM .nil pass0 (pa_cons (pv 4) pa_nil)))
        (pss_cons (ps_set (i := 6) scLaw.nd rfl (Or.inr rfl) (pe_callTy (r := rTu K) call_tuple_of (by rfl) T1.tuple PyProof.Rows.boot_tuple (pa_cons (pe_lc (own := [("_law_plain_here", 15), ("_law_rule", 16)]) (g := gTup K 2 (gCons (gName 15) (gCons (gName 16) gNil))) (by rfl) scLaw.nd (pi_list (pv 4))
            (blkOk_by (own := [("_law_plain_here", 15), ("_law_rule", 16)]) (N := nLaw) (sc := defScope sLaw) (by decide +kernel)) (fun _ _ _ _ _ => pg_tup (by rfl) (pgs_cons (pg_name (i := 15) scLaw.nd rfl (Or.inl rfl)) (pgs_cons (pg_name (i := 16) scLaw.nd rfl (Or.inl rfl)) pgs_nil))) (fun _ _ _ _ _ => pts_nil)
            (fun _ _ _ _ _ => pe_call GD hr1 rfl mgD kpD bD .nil pass0 (pa_cons (pv 1) (pa_cons (pe_callB (r := rLn K) call_len (by rfl) T1.len PySem.boot_len (pa_cons (pe_dget hu (pv 15) pe_str (fun _ _ => rfl)) pa_nil)) pa_nil)))) pa_nil)))
        (pss_cons (ps_set (i := 7) scLaw.nd rfl (Or.inr rfl) (pe_callTy (r := rTu K) call_tuple_of (by rfl) T1.tuple PyProof.Rows.boot_tuple (pa_cons (pe_lc (own := [("_law_k", 17)]) (g := gName 17) (by rfl) scLaw.nd (pi_range1 rfl T1.range (pa_cons (pe_call GD hr1 rfl mgD kpD bD .nil pass0 (pa_cons (pv 1) (pa_cons pe_int pa_nil))) pa_nil))
            (blkOk_by (own := [("_law_k", 17)]) (N := nLaw) (sc := defScope sLaw) (by decide +kernel)) (fun _ _ _ _ _ => pg_name (i := 17) scLaw.nd rfl (Or.inl rfl)) (fun _ _ _ _ _ => pts_nil)
            (fun _ _ _ _ _ => pe_call GD hr1 rfl mgD kpD bD .nil pass0 (pa_cons (pv 1) (pa_cons (pe_callB (r := rLn K) call_len (by rfl) T1.len PySem.boot_len (pa_cons (pv 3) pa_nil)) pa_nil)))) pa_nil)))
        (pss_cons (ps_set (i := 8) scLaw.nd rfl (Or.inl rfl) (pe_callTy (r := rTu K) call_tuple_of (by rfl) T1.tuple PyProof.Rows.boot_tuple (pa_cons (pe_lc (own := [("_law_k", 17)]) (g := gName 17) (by rfl) scLaw.nd (pi_range1 rfl T1.range (pa_cons (pe_callB (r := rLn K) call_len (by rfl) T1.len PySem.boot_len (pa_cons (pv 4) pa_nil)) pa_nil))
            (blkOk_by (own := [("_law_k", 17)]) (N := nLaw) (sc := defScope sLaw) (by decide +kernel)) (fun _ _ _ _ _ => pg_name (i := 17) scLaw.nd rfl (Or.inl rfl)) (fun _ _ _ _ _ => pts_nil)
            (fun _ _ _ _ _ => pe_call GL hr1 rfl mgL kpL bL .nil pass0 (pa_cons (pe_ix (r := rIxT K) ix_tup (pe_ix (r := rIxL K) ix_list (pv 4) (pv 17) (fun _ _ => rfl)) pe_int (fun _ _ => rfl)) (pa_cons (pv 7) (pa_cons (pe_ix (r := rIxT K) ix_tup (pv 6) (pv 17) (fun _ _ => rfl)) pa_nil))))) pa_nil)))
          ht6)))))))
      (pss_cons (ps_set (i := 14) scLaw.nd rfl (Or.inl rfl) (pe_make MkL GLI hr2 rfl ML.mgC bLI .nil pass0 (pa_cons (pe_lst pa_nil) pa_nil)))
      (pss_one (ps_ret (pe_and (pe_cmpR (op_eqD hr.units) (pe_meth (pv 14) ML.cl MA GA hr5 bA .nil passL (pa_cons (pe_tup pa_nil) (pa_cons (pe_tup (pa_cons pe_str (pa_cons pe_str pa_nil))) pa_nil))) (pe_tup pa_nil) (nomark _))
        (pe_one (pe_cmpR (op_eqD hr.units) (pe_meth (pv 14) ML.cl ML' GK hr4 bK .nil passL (pa_cons (pe_tup pa_nil) pa_nil)) (pe_tup (pa_cons (pe_tup pa_nil) (pa_cons (pe_tup pa_nil) pa_nil))) (nomark _)))))))), ?_⟩
    refine ⟨_, rfl, a, ns, rfl, ha, hns, fun d cc Hs hd0 hc0 hpen0 sm0 => ?_⟩
    refine ⟨_, rfl, _, ns.length, rfl, .inl ⟨_, sm0.seq ha, (List.length_map _).symm⟩, _, _, rfl, _, _, rfl, rfl, ?_⟩
    obtain ⟨J, eJ, hJ⟩ : ∃ J : Nat, (5 + (if (ns.length : Int) < 5 then (ns.length : Int) else 5)) = (J : Int) ∧ J ≤ 10 := by
      by_cases h : (ns.length : Int) < 5
      · rw [if_pos h]; exact ⟨5 + ns.length, by omega, by omega⟩
      · rw [if_neg h]; exact ⟨10, by omega, by omega⟩
    refine ⟨(J : Int), by rw [← eJ], by omega, by omega, ?_⟩
    rw [Int.toNat_natCast]
    refine for_range (lo := 0) (n := J) (fun i σ H' => ∃ (v2 v3 v4 v5 v6 v7 v8 v9 v10 v11 v12 v13 v14 v15 v16 v17 : Option V) (n : Nat), σ = [some (.ref a), some (.ref d), v2, v3, v4, v5, v6, v7, v8, v9, v10, v11, v12, v13, v14, v15, v16, v17] ∧ PenAt H' d cc n ∧ n ≤ 3000 * i ∧ Tabs T H') ?_ ?_ ?_
    · exact ⟨_, _, _, _, _, _, _, _, _, _, _, _, _, _, _, _, 0, rfl, hpen0, Nat.le_refl _, hT.same sm0⟩
    · rintro i σ H1 hi ⟨v2, v3, v4, v5, v6, v7, v8, v9, v10, v11, v12, v13, v14, v15, v16, v17, n, rfl, hp1, hn, T1'⟩
      -- deeds
      refine ⟨_, rfl, _, rfl, d, cc, n, 3, rfl, hp1, by omega, by decide, by decide, fun r0 H2 r00 r01 hp2 kp2 => ⟨_, _, rfl, rfl, ?_⟩⟩
      obtain ⟨M', eM, hM'⟩ : ∃ M' : Nat, 1 + r0 = (M' : Int) ∧ (1 ≤ M' ∧ M' ≤ 3) := ⟨(1 + r0).toNat, by omega, by omega, by omega⟩
      refine ⟨d, cc, n + 1, M', by show [V.ref d, V.int (1 + r0)] = _; rw [eM], hp2, by omega, by omega, fun dl ws H3 hdl0 hdl3 hwl hnd hwd heq hp3 kp3 => ?_⟩
      obtain ⟨lw, hlw⟩ := heq
      have gd : GoodD ws := ⟨hnd, hwd, by omega, by omega⟩
      have ndl : dl ≠ d := (hp2.ne hdl0).1
      have T3 : Tabs T H3 := (T1'.pen hp1 kp2).pen hp2 kp3
      -- the lot
      refine ⟨_, rfl, _, rfl, _, rfl, d, cc, _, 3, rfl, hp3, by omega, by decide, by decide, fun r1 H4 r10 r11 hp4 kp4 => ⟨_, _, rfl, rfl, Nat.le_of_ble_eq_true rfl, fun lm hlm => ?_⟩⟩
      obtain ⟨M2, eM2, hM2⟩ : ∃ M2 : Nat, 1 + r1 = (M2 : Int) ∧ (1 ≤ M2 ∧ M2 ≤ 3) := ⟨(1 + r1).toNat, by omega, by omega, by omega⟩
      have s5 := same_upd (o := .lst [V.str "x", V.str "y", V.str "x/y"]) hlm
      have hlm5 : upd H4 lm (.lst [V.str "x", V.str "y", V.str "x/y"]) lm = some (.lst (menu.map V.str)) := upd_same
      have nlm := (hp4.ne hlm).1
      have hp5 := hp4.same s5
      have hdl5 := s5 _ _ (kp4 _ _ hdl3 ndl)
      have T5 := (T3.pen hp3 kp4).same s5
      generalize upd H4 lm (.lst [V.str "x", V.str "y", V.str "x/y"]) = H5 at s5 hlm5 hp5 hdl5 T5 ⊢
      refine ⟨d, cc, dl, lm, _, M2, 4, ws, menu, by show [V.ref d, V.ref dl, V.int (1 + r1), V.int 4, V.ref lm] = _; rw [eM2], hp5, by omega, SqL.of hdl5, ndl, by omega, SqL.of hlm5, nlm, by decide, by decide, by decide, by decide, by omega, fun l ms H6 hl0 hlP hml hmg hp6 kp6 => ?_⟩
      have pm : ∀ m ∈ ms, PmOk ws m := fun m hm => by
        obtain ⟨gp, hru⟩ := hmg m hm
        exact ⟨⟨gd, ⟨gp.many.1, by have := gp.many.2; omega⟩, gp.row, ⟨gp.tl.1, fun z hz => menu_tl (gp.tl.2 z hz)⟩, gp.st⟩, hru⟩
      have hdl6 := kp6 _ _ hdl5 ndl
      have T6 := T5.pen hp5 kp6
      -- made
      refine ⟨_, rfl, d, l, ws, ms, rfl, hlP, by omega, ok_wd gd.wd, pm, fun x H7 hx0 s7 mad => ?_⟩
      have hp7 := hp6.same s7
      obtain ⟨kv7, hd7⟩ := hp7.dk
      have hlP7 := hlP.same s7
      have hdl7 := s7 _ _ hdl6
      have T7 := T6.same s7
      obtain ⟨qs, hl7, hL7⟩ := id hlP7
      -- values
      refine ⟨_, rfl, l, rfl, ⟨_, SqL.of hl7⟩, fun D1 hD1 => ?_⟩
      obtain ⟨n1d, n1c⟩ := hp7.ne hD1
      refine lc_list (K := K) (a := l) (xs := qs.map V.ref) (fun i H' => ∃ us : List Int, VUp ms us i ∧ H' D1 = some (.lst (us.map V.int)) ∧ PenAt H' d cc (n + 1 + 20 + 1 + 401 * M2 + i) ∧ Kept d H7 H') ?_ ?_ ?_ ?_
      · exact ⟨[], ⟨rfl, fun j m v _ e => by simp at e⟩, upd_same, (hp7.upd n1d n1c).mono (by omega), (Kept.refl d H7).upd hD1⟩
      · rintro i' H' _ ⟨us, _, _, _, k'⟩
        exact SqL.of (k' _ _ hl7 (ne_of hl7 hd7 (by intro z; cases z)))
      · rintro i' y H8 hi' ⟨us, hus, hD8, hp8, k8⟩
        rw [List.getElem?_map] at hi'
        obtain ⟨t, et, rfl⟩ := Option.map_eq_some_iff.mp hi'
        have hil : i' < ms.length := by rw [← hL7.1]; exact (List.getElem?_eq_some_iff.mp et).1
        obtain ⟨t', q, et', em, nq, g1, g2⟩ := (hL7.pen hd7 k8).get hil
        rw [et] at et'; cases et'
        obtain ⟨t2, r2, l2, as2, f1, f2, f3, f4, f5⟩ := g2.ex
        refine ⟨t, _, rfl, SqT.of g1, rfl, _, _, rfl, _, _, rfl, rfl, rfl, _, rfl, _, rfl, q, _, rfl, gRows f1, _, (ms[i']).rs.length, rfl, .inl ⟨_, SqL.of f3, by rw [List.length_map, f5.1]⟩, d, cc, _, _, rfl, hp8, by omega, by have := (pm _ (List.getElem_mem hil)).pt.many.1; omega, by have := (pm _ (List.getElem_mem hil)).pt.many.2; omega, fun v H9 v0 v1 hp9 k9 => ?_⟩
        refine ⟨_, k9 _ _ hD8 n1d, ?_, us ++ [v], hus.snoc em v0 v1, ?_, hp9.upd n1d n1c, (k8.trans k9).upd hD1⟩
        · rw [List.length_map, hus.1]; exact small1000 (by omega)
        · rw [upd_same, List.map_append]; rfl
      rintro H8 ⟨vals, hus, hD8, hp8, k78⟩
      rw [List.length_map, hL7.1] at hus hp8
      have ok : VOk ms vals := hus
      refine ⟨D1, _, rfl, .inl ⟨SqL.of hD8, fun va hva => ?_⟩⟩
      have s9 := same_upd (o := .tup (vals.map V.int)) hva
      have eva : upd H8 va (.tup (vals.map V.int)) va = some (.tup (vals.map V.int)) := upd_same
      have nva := (hp8.ne hva).1
      have hp9 := hp8.same s9
      have k79 := k78.trans (Kept.same s9)
      have hdl9 := k79 _ _ hdl7 ndl
      have T9 := T7.pen hp7 k79
      generalize upd H8 va (.tup (vals.map V.int)) = H9 at s9 eva hp9 k79 hdl9 T9 ⊢
      -- row
      refine ⟨_, rfl, d, cc, _, 7, rfl, hp9, by omega, by decide, by decide, fun rw0 H10 rw00 rw01 hp10 k10 => ?_⟩
      obtain ⟨R, rfl⟩ : ∃ R : Nat, rw0 = (R : Int) := ⟨rw0.toNat, by omega⟩
      refine ⟨(R : Int), rfl, by omega, by omega, fun D2 hD2 => ?_⟩
      rw [Int.toNat_natCast]
      obtain ⟨n2d, n2c⟩ := hp10.ne hD2
      have hdl10 := k10 _ _ hdl9 ndl
      refine lc_range (lo := 0) (n := R) (fun j H' => ∃ us : List Int, us.length = j ∧ Ix ws.length us ∧ H' D2 = some (.lst (us.map V.int)) ∧ PenAt H' d cc (n + 1 + 20 + 1 + 401 * M2 + ms.length + 1 + j) ∧ Kept d H10 H') ?_ ?_ ?_
      · exact ⟨[], rfl, (fun k h => nomatch h), upd_same, (hp10.upd n2d n2c).mono (by omega), (Kept.refl d H10).upd hD2⟩
      · rintro j H11 hj ⟨us, hus', hix, hD11, hp11, k11⟩
        have dl11 := k11 _ _ hdl10 ndl
        refine ⟨rfl, _, rfl, _, rfl, _, ws.length, rfl, .inl ⟨_, SqL.of dl11, (List.length_map _).symm⟩, d, cc, _, (ws.length : Int), rfl, hp11, by omega, by omega, by omega, fun y H12 y0 y1 hp12 k12 => ?_⟩
        refine ⟨_, k12 _ _ hD11 n2d, ?_, us ++ [y], by simp [hus'], fun z hz => ?_, ?_, hp12.upd n2d n2c, (k11.trans k12).upd hD2⟩
        · rw [List.length_map]; exact small1000 (by omega)
        · rcases List.mem_append.mp hz with h | h
          · exact hix z h
          · rw [List.mem_singleton.mp h]; exact ⟨y0, y1⟩
        · rw [upd_same, List.map_append]; rfl
      rintro H11 ⟨ks, hks, hix, hD11, hp11, k11⟩
      refine ⟨D2, _, rfl, .inl ⟨SqL.of hD11, fun ro hro => ?_⟩⟩
      have s12 := same_upd (o := .tup (ks.map V.int)) hro
      have ero : upd H11 ro (.tup (ks.map V.int)) ro = some (.tup (ks.map V.int)) := upd_same
      have k912 := (k10.trans k11).trans (Kept.same s12)
      have hp12 := hp11.same s12
      generalize upd H11 ro (.tup (ks.map V.int)) = H12 at s12 ero k912 hp12 ⊢
      have k712 := k79.trans k912
      have mz : Mz K C CM CL T H12 d cc _ dl l x va ro ws ms vals ks := ⟨hp12, k712 _ _ hdl7 ndl, hlP7.pen hd7 k712, mad.kn hd7 k712.n, T7.pen hp7 k712, SqT.of (k912 _ _ eva nva), nva, SqT.of ero⟩
      -- due
      obtain ⟨qs12, hl12, hL12⟩ := id mz.lot
      refine ⟨_, rfl, _, ms.length, rfl, .inl ⟨_, SqL.of hl12, by rw [List.length_map, hL12.1]⟩, _, rfl, by omega, by omega, fun D3 hD3 => ?_⟩
      rw [Int.toNat_natCast]
      refine lc_range (lo := 0) (n := ms.length) (fun j H' => Same H12 H' ∧ H' D3 = some (.lst (((ledL ms ks vals).take j).map V.int))) ?_ ?_ ?_
      · exact ⟨same_upd hD3, upd_same⟩
      · rintro j H13 hj ⟨sm, hD⟩
        obtain ⟨t, q, et, em, npd, g1, g2⟩ := hL12.get hj
        have hjv : j < vals.length := by rw [ok.1]; exact hj
        have ev := List.getElem?_eq_getElem hjv
        obtain ⟨v0, v1⟩ := ok.2 j _ _ em ev
        have pj := pm _ (List.getElem_mem hj)
        have ei : ((0 : Int) + (j : Nat)) = ((j : Nat) : Int) := by omega
        refine ⟨rfl, _, rfl, _, rfl, l, _, _, _, rfl, rfl, SqL.of (sm _ _ hl12), by rw [ei]; exact atI_nat (j := j) (v := V.ref t) (by rw [List.getElem?_map, et]; rfl), t, _, _, _, rfl, rfl, SqT.of (sm _ _ g1), atI_nat (j := 0) rfl, _, rfl, _, rfl, _, rfl, va, _, _, _, rfl, rfl, (mz.same sm).hva, by rw [ei]; exact atI_nat (j := j) (v := V.int vals[j]) (by rw [List.getElem?_map, ev]; rfl), ?_⟩
        refine ⟨q, ro, vals[j], ws, (ms[j]).rs, (ms[j]).ss, (ms[j]).st, ks, rfl, g2.same sm, pj.pt, SqT.of (sm _ _ ero), hix, v0, v1, fun H14 s14 => ?_⟩
        have el : (ledL ms ks vals)[j]? = some (led (ms[j]).rs ks vals[j]) := zw_get em ev
        refine ⟨_, s14 _ _ hD, ?_, ?_, ?_⟩
        · rw [List.length_map, List.length_take]; exact small1000 (by omega)
        · exact fun b u e => by rw [upd_ne (ne_of_none e hD3)]; exact s14 _ _ (sm b u e)
        · rw [upd_same, List.take_add_one, el, List.map_append]; rfl
      rintro H13 ⟨sm, hD⟩
      rw [List.take_of_length_le (by rw [ledL, ok.len]; exact Nat.le_refl _)] at hD
      refine ⟨D3, _, rfl, .inl ⟨SqL.of hD, fun du hdu => ?_⟩⟩
      have s14 := sm.trans (same_upd (o := .tup ((ledL ms ks vals).map V.int)) hdu)
      have oz : Oz ws ms vals ks lw := ⟨gd, hlw, by omega, by omega, pm, fun m hm => (hmg m hm).1.many.2, ok, hix, by omega⟩
      exact hq6 _ _ _ _ v9 v10 v11 v12 v13 v14 v15 v16 v17 d cc _ dl l x va ro du ws ms vals ks lw (mz.same s14) oz (by omega) upd_same fun w9 w10 w11 w12 w13 n' H' p' hn' k' T' => ⟨_, _, _, _, _, _, _, _, _, _, _, _, _, _, _, _, n', rfl, p', by omega, T'⟩
    · rintro σ H1 ⟨v2, v3, v4, v5, v6, v7, v8, v9, v10, v11, v12, v13, v14, v15, v16, v17, n, rfl, hp1, hn, T1'⟩
      -- Lot([])
      refine ⟨Nat.zero_le _, fun l0 hl0 => ?_⟩
      have s2 := same_upd (o := .lst []) hl0
      have el0 : upd H1 l0 (.lst []) l0 = some (.lst []) := upd_same
      generalize upd H1 l0 (.lst []) = H2 at s2 el0 ⊢
      intro x1 d1 hx1 hd1 nd1
      have pre1 := made_pre (C := CL) hx1 hd1
      refine ⟨x1, d1, l0, [], [], [], rfl, upd_same, SqL.of (pre1 _ _ el0), ⟨rfl, fun i a m e => by simp at e⟩, by simp, (fun z hz => by simp at hz), fun H3 lot3 k3 => ⟨rfl, ?_⟩⟩
      obtain ⟨dx1, q1, b1, as1, ex1, _⟩ := id lot3
      -- after((), ("a", "b")) == ()
      refine ⟨_, rfl, x1, dx1, _, rfl, ex1, lf_no _ _ (by decide +kernel) (by decide +kernel), Nat.zero_le _, fun e1 he1 => ⟨Nat.le_of_ble_eq_true rfl, fun e2 he2 => ?_⟩⟩
      have s4 := (same_upd (o := .tup []) he1).trans (same_upd (o := .tup [V.str "a", V.str "b"]) he2)
      have ee1 : upd (upd H3 e1 (.tup [])) e2 (.tup [V.str "a", V.str "b"]) e1 = some (.tup []) := by
        rw [upd_ne (ne_of_none upd_same he2)]; exact upd_same
      have ee2 : upd (upd H3 e1 (.tup [])) e2 (.tup [V.str "a", V.str "b"]) e2 = some (.tup [V.str "a", V.str "b"]) := upd_same
      generalize upd (upd H3 e1 (.tup [])) e2 (.tup [V.str "a", V.str "b"]) = H4 at s4 ee1 ee2 ⊢
      try delta tNil
      show spLAfterX K C CM CL CB CN [.ref x1, .ref e1, .ref e2] H4 _ _
      have vk : VOk [] [] := ⟨rfl, fun i m v e => by simp at e⟩
      refine ⟨x1, e1, e2, [], [], [], [V.str "a", V.str "b"], rfl, lot3.same s4, .inr (SqT.of ee1), rfl, (fun y hy => nomatch hy), SqT.of ee2, by decide, (fun m hm => nomatch hm), .inl ⟨[], [], rfl, vk, .inl ⟨["a", "b"], rfl, .inl rfl, fun p5 H5 hp5 s5 e5 => ?_⟩⟩⟩
      refine ⟨Nat.zero_le _, fun e6 he6 => ?_⟩
      have s6 := same_upd (o := .tup []) he6
      refine ⟨dI [], dI [], dI_p (SqT.of (s6 _ _ e5)), dI_p (SqT.of upd_same), dI_s _, dI_s _, ?_⟩
      rw [PySem.SeqAt.eqv_refl _ (dI_l _)]
      have s36 := s4.trans (s5.trans s6)
      refine ⟨true, rfl, ?_⟩
      refine iteT ?_
      -- look(()) == ((), ())
      refine ⟨_, rfl, x1, dx1, _, rfl, s36 _ _ ex1, lf_no _ _ (by decide +kernel) (by decide +kernel), Nat.zero_le _, fun e7 he7 => ?_⟩
      have s7 := same_upd (o := .tup []) he7
      try delta tNil
      show spLLookX K C CM CL CB [.ref x1, .ref e7] _ _ _
      refine ⟨x1, e7, [], [], [], rfl, lot3.same (s36.trans s7), SqT.of upd_same, rfl, (fun y hy => nomatch hy), by decide, (fun m hm => nomatch hm), .inl ⟨[], rfl, vk, fun p8 a8 b8 H8 hp8 s8 ep8 ea8 eb8 => ?_⟩⟩
      refine ⟨Nat.zero_le _, fun e9 he9 => ⟨Nat.zero_le _, fun e10 he10 => ⟨Nat.le_of_ble_eq_true rfl, fun e11 he11 => ?_⟩⟩⟩
      have s10 := same_upd (o := .tup []) he10
      have s11 := same_upd (o := .tup [V.ref e9, V.ref e10]) he11
      have s911 := (same_upd (o := .tup []) he9).trans (s10.trans s11)
      have so : OkS ([] : List Str) := fun z hz => nomatch hz
      refine ⟨dL [] [], dL [] [], dL_p (zs := []) (xs := []) (s911 _ _ ep8) (s911 _ _ ea8) (s911 _ _ eb8), dL_p (zs := []) (xs := []) upd_same (s11 _ _ (s10 _ _ upd_same)) (s11 _ _ upd_same), dL_s so _, dL_s so _, ?_⟩
      rw [PySem.SeqAt.eqv_refl _ (dL_l so _)]
      exact k _
end
end K1
set_option Elab.async false
set_option linter.all false
set_option maxRecDepth 100000
namespace K1
open PySem PyProof.Rows L2 LamX
set_option maxHeartbeats 0 in
theorem all_mk {l : PySem.W.OpenLaw} {q : Program} {w : World} {K : PySem.W.Frag} {h : Heap} {mg : Str → Option Value}
    {E0 f1 f2 f3 f4 f5 f6 f7 f8 f9 f10 f11 f12 f13 f14 f15 f16 cc16 pt16 f17 f18 f19 f20 f21 f22 f23 f24 f25 f26 C f27 T27 f28 T28 f29 T29 f30 CM f31 CL f32 f33 f34 EB NB f35 EN NN f36 pR fa : Addr}
    {od1 an1 od2 an2 od3 an3 od4 an4 od5 an5 od6 an6 od7 an7 od8 an8 od9 an9 od10 an10 od11 an11 od12 an12 od13 an13 od14 an14 od15 an15 dd16c od16 an16 od17 an17 od18 an18 od19 an19 od20 an20 od21 an21 od22 an22 od23 an23 od24 an24 od25 an25 od26 an26 odT27 od27 an27 odT28 od28 an28 odT29 od29 an29 od30 an30 od31 an31 od32 an32 od33 an33 od34 an34 ddB od35 an35 ddN od36 an36 : Option Addr}
    {sl1 sl2 sl3 sl4 sl5 sl6 sl7 sl8 sl9 sl10 sl11 sl12 sl13 sl14 sl15 slc16 sl16 sl17 sl18 sl19 sl20 sl21 sl22 sl23 sl24 sl25 sl26 slT27 sl27 slT28 sl28 slT29 sl29 sl30 sl31 sl32 sl33 sl34 sl35 sl36 : Array (Option Value)}
    {oc1 kV1 dc1 pm1 ct1 cd1 oc2 kV2 dc2 pm2 ct2 cd2 oc3 kV3 dc3 pm3 ct3 cd3 oc4 kV4 dc4 pm4 ct4 cd4 oc5 kV5 dc5 pm5 ct5 cd5 oc6 kV6 dc6 pm6 ct6 cd6 oc7 kV7 dc7 pm7 ct7 cd7 oc8 kV8 dc8 pm8 ct8 cd8 oc9 kV9 dc9 pm9 ct9 cd9 oc10 kV10 dc10 pm10 ct10 cd10 oc11 kV11 dc11 pm11 ct11 cd11 oc12 kV12 dc12 pm12 ct12 cd12 oc13 kV13 dc13 pm13 ct13 cd13 oc14 kV14 dc14 pm14 ct14 cd14 oc15 kV15 dc15 pm15 ct15 cd15 ec16 oc16 kV16 dc16 pm16 ct16 oc17 kV17 dc17 pm17 ct17 cd17 oc18 kV18 dc18 pm18 ct18 cd18 oc19 kV19 dc19 pm19 ct19 cd19 oc20 kV20 dc20 pm20 ct20 cd20 oc21 kV21 dc21 pm21 ct21 cd21 oc22 kV22 dc22 pm22 ct22 cd22 oc23 kV23 dc23 pm23 ct23 cd23 oc24 kV24 dc24 pm24 ct24 cd24 oc25 kV25 dc25 pm25 ct25 cd25 oc26 kV26 dc26 pm26 ct26 cd26 ocT27 oc27 kV27 dc27 pm27 ct27 cd27 ocT28 oc28 kV28 dc28 pm28 ct28 cd28 ocT29 oc29 kV29 dc29 pm29 ct29 cd29 oc30 kV30 dc30 pm30 ct30 cd30 oc31 kV31 dc31 pm31 ct31 cd31 oc32 kV32 dc32 pm32 ct32 cd32 oc33 kV33 dc33 pm33 ct33 cd33 oc34 kV34 dc34 pm34 ct34 cd34 oc35 kV35 dc35 pm35 ct35 cd35 oc36 kV36 dc36 pm36 ct36 cd36 : Value}
    {m0B m1B m2B m3B m5B m0N m1N m2N m3N m5N : Option Value}
    {tc0 tc1 tc2 tc3 tc4 tc5 tc6 tc7 : Tok}
    {nT27 nT28 nT29 nqpR : Nat}
    {nmB qnB nmN qnN : Str}
    {bsB subB bsN subN : List Value}
    {snB snN : List Str}
    {abB abN : Bool}
    {colB colN : Option Bool}
    {vs16 iqpR : Array Value}
    {oqpR : Obj}
    (X : K.In h) (G : h.Ns mainGlobals mg) (hfa : mg "law" = some (.ref fa)) (O : OwnTabs q mg h)
    (a1 : PySem.W.nsIn K mainGlobals "_law_pen" = some (some (.ref f1)))
    (l1 : K.lookup f1 = some ⟨oc1, od1, .func (PySem.W.fnOf "_law_pen" "_law_pen" (defArgs sPen) (defBody sPen) (defScope sPen) .none kV1 dc1 pm1 an1 cd1 ct1), sl1⟩)
    (c1 : PySem.W.codeIn K (cd1) "_law_pen" = true)
    (k1 : PySem.W.keepIn K (.ref f1) = true)
    (a2 : PySem.W.nsIn K mainGlobals "_law_draw" = some (some (.ref f2)))
    (l2 : K.lookup f2 = some ⟨oc2, od2, .func (PySem.W.fnOf "_law_draw" "_law_draw" (defArgs sDraw) (defBody sDraw) (defScope sDraw) .none kV2 dc2 pm2 an2 cd2 ct2), sl2⟩)
    (c2 : PySem.W.codeIn K (cd2) "_law_draw" = true)
    (k2 : PySem.W.keepIn K (.ref f2) = true)
    (a3 : PySem.W.nsIn K mainGlobals "_law_pick" = some (some (.ref f3)))
    (l3 : K.lookup f3 = some ⟨oc3, od3, .func (PySem.W.fnOf "_law_pick" "_law_pick" (defArgs sPick) (defBody sPick) (defScope sPick) .none kV3 dc3 pm3 an3 cd3 ct3), sl3⟩)
    (c3 : PySem.W.codeIn K (cd3) "_law_pick" = true)
    (k3 : PySem.W.keepIn K (.ref f3) = true)
    (a4 : PySem.W.nsIn K mainGlobals "_law_words" = some (some (.ref f4)))
    (l4 : K.lookup f4 = some ⟨oc4, od4, .func (PySem.W.fnOf "_law_words" "_law_words" (defArgs sWords) (defBody sWords) (defScope sWords) .none kV4 dc4 pm4 an4 cd4 ct4), sl4⟩)
    (c4 : PySem.W.codeIn K (cd4) "_law_words" = true)
    (k4 : PySem.W.keepIn K (.ref f4) = true)
    (a5 : PySem.W.nsIn K mainGlobals "_law_named" = some (some (.ref f5)))
    (l5 : K.lookup f5 = some ⟨oc5, od5, .func (PySem.W.fnOf "_law_named" "_law_named" (defArgs sNamed) (defBody sNamed) (defScope sNamed) .none kV5 dc5 pm5 an5 cd5 ct5), sl5⟩)
    (c5 : PySem.W.codeIn K (cd5) "_law_named" = true)
    (k5 : PySem.W.keepIn K (.ref f5) = true)
    (a6 : PySem.W.nsIn K mainGlobals "_law_plain" = some (some (.ref f6)))
    (l6 : K.lookup f6 = some ⟨oc6, od6, .func (PySem.W.fnOf "_law_plain" "_law_plain" (defArgs sPlain) (defBody sPlain) (defScope sPlain) .none kV6 dc6 pm6 an6 cd6 ct6), sl6⟩)
    (c6 : PySem.W.codeIn K (cd6) "_law_plain" = true)
    (k6 : PySem.W.keepIn K (.ref f6) = true)
    (a7 : PySem.W.nsIn K mainGlobals "_law_made" = some (some (.ref f7)))
    (l7 : K.lookup f7 = some ⟨oc7, od7, .func (PySem.W.fnOf "_law_made" "_law_made" (defArgs sMade) (defBody sMade) (defScope sMade) .none kV7 dc7 pm7 an7 cd7 ct7), sl7⟩)
    (c7 : PySem.W.codeIn K (cd7) "_law_made" = true)
    (k7 : PySem.W.keepIn K (.ref f7) = true)
    (a8 : PySem.W.nsIn K mainGlobals "_law_led" = some (some (.ref f8)))
    (l8 : K.lookup f8 = some ⟨oc8, od8, .func (PySem.W.fnOf "_law_led" "_law_led" (defArgs sLed) (defBody sLed) (defScope sLed) .none kV8 dc8 pm8 an8 cd8 ct8), sl8⟩)
    (c8 : PySem.W.codeIn K (cd8) "_law_led" = true)
    (k8 : PySem.W.keepIn K (.ref f8) = true)
    (a9 : PySem.W.nsIn K mainGlobals "_law_lot" = some (some (.ref f9)))
    (l9 : K.lookup f9 = some ⟨oc9, od9, .func (PySem.W.fnOf "_law_lot" "_law_lot" (defArgs sLot) (defBody sLot) (defScope sLot) .none kV9 dc9 pm9 an9 cd9 ct9), sl9⟩)
    (c9 : PySem.W.codeIn K (cd9) "_law_lot" = true)
    (k9 : PySem.W.keepIn K (.ref f9) = true)
    (a10 : PySem.W.nsIn K mainGlobals "_law_lot_made" = some (some (.ref f10)))
    (l10 : K.lookup f10 = some ⟨oc10, od10, .func (PySem.W.fnOf "_law_lot_made" "_law_lot_made" (defArgs sLotM) (defBody sLotM) (defScope sLotM) .none kV10 dc10 pm10 an10 cd10 ct10), sl10⟩)
    (c10 : PySem.W.codeIn K (cd10) "_law_lot_made" = true)
    (k10 : PySem.W.keepIn K (.ref f10) = true)
    (a11 : PySem.W.nsIn K mainGlobals "_law_seen" = some (some (.ref f11)))
    (l11 : K.lookup f11 = some ⟨oc11, od11, .func (PySem.W.fnOf "_law_seen" "_law_seen" (defArgs sSeen) (defBody sSeen) (defScope sSeen) .none kV11 dc11 pm11 an11 cd11 ct11), sl11⟩)
    (c11 : PySem.W.codeIn K (cd11) "_law_seen" = true)
    (k11 : PySem.W.keepIn K (.ref f11) = true)
    (a12 : PySem.W.nsIn K mainGlobals "_law_left_by" = some (some (.ref f12)))
    (l12 : K.lookup f12 = some ⟨oc12, od12, .func (PySem.W.fnOf "_law_left_by" "_law_left_by" (defArgs sLeft) (defBody sLeft) (defScope sLeft) .none kV12 dc12 pm12 an12 cd12 ct12), sl12⟩)
    (c12 : PySem.W.codeIn K (cd12) "_law_left_by" = true)
    (k12 : PySem.W.keepIn K (.ref f12) = true)
    (a13 : PySem.W.nsIn K mainGlobals "_law_fault" = some (some (.ref f13)))
    (l13 : K.lookup f13 = some ⟨oc13, od13, .func (PySem.W.fnOf "_law_fault" "_law_fault" (defArgs sFaultV) (defBody sFaultV) (defScope sFaultV) .none kV13 dc13 pm13 an13 cd13 ct13), sl13⟩)
    (c13 : PySem.W.codeIn K (cd13) "_law_fault" = true)
    (k13 : PySem.W.keepIn K (.ref f13) = true)
    (a14 : PySem.W.nsIn K mainGlobals "_law_values_spoilt" = some (some (.ref f14)))
    (l14 : K.lookup f14 = some ⟨oc14, od14, .func (PySem.W.fnOf "_law_values_spoilt" "_law_values_spoilt" (defArgs sVSp) (defBody sVSp) (defScope sVSp) .none kV14 dc14 pm14 an14 cd14 ct14), sl14⟩)
    (c14 : PySem.W.codeIn K (cd14) "_law_values_spoilt" = true)
    (k14 : PySem.W.keepIn K (.ref f14) = true)
    (a15 : PySem.W.nsIn K mainGlobals "_law_row_spoilt" = some (some (.ref f15)))
    (l15 : K.lookup f15 = some ⟨oc15, od15, .func (PySem.W.fnOf "_law_row_spoilt" "_law_row_spoilt" (defArgs sRSp) (defBody sRSp) (defScope sRSp) .none kV15 dc15 pm15 an15 cd15 ct15), sl15⟩)
    (c15 : PySem.W.codeIn K (cd15) "_law_row_spoilt" = true)
    (k15 : PySem.W.keepIn K (.ref f15) = true)
    (a16 : PySem.W.nsIn K mainGlobals "law" = some (some (.ref f16)))
    (l16 : K.lookup f16 = some ⟨oc16, od16, .func (PySem.W.fnOf "law" "law" (defArgs sLaw) (defBody sLaw) (defScope sLaw) .none kV16 dc16 pm16 an16 (.ref cc16) ct16), sl16⟩)
    (c16 : PySem.W.codeIn K ((.ref cc16)) "law" = true)
    (k16 : PySem.W.keepIn K (.ref f16) = true)
    (lc16 : K.lookup cc16 = some ⟨ec16, dd16c, .fields vs16, slc16⟩)
    (h16 : vs16[11]? = some (.ref pt16))
    (np16 : K.lookup pt16 = none)
    (mr16 : ((recsOf q).any fun e => e.name == ("law" : Str)) = true)
    (a17 : PySem.W.nsIn K mainGlobals "is_integer" = some (some (.ref f17)))
    (l17 : K.lookup f17 = some ⟨oc17, od17, .func (PySem.W.fnOf "is_integer" "is_integer" (defArgs sIsInt) (defBody sIsInt) (defScope sIsInt) .none kV17 dc17 pm17 an17 cd17 ct17), sl17⟩)
    (c17 : PySem.W.codeIn K (cd17) "is_integer" = true)
    (k17 : PySem.W.keepIn K (.ref f17) = true)
    (a18 : PySem.W.nsIn K mainGlobals "is_index" = some (some (.ref f18)))
    (l18 : K.lookup f18 = some ⟨oc18, od18, .func (PySem.W.fnOf "is_index" "is_index" (defArgs sIsIndex) (defBody sIsIndex) (defScope sIsIndex) .none kV18 dc18 pm18 an18 cd18 ct18), sl18⟩)
    (c18 : PySem.W.codeIn K (cd18) "is_index" = true)
    (k18 : PySem.W.keepIn K (.ref f18) = true)
    (a19 : PySem.W.nsIn K mainGlobals "is_word" = some (some (.ref f19)))
    (l19 : K.lookup f19 = some ⟨oc19, od19, .func (PySem.W.fnOf "is_word" "is_word" (defArgs sIsWord) (defBody sIsWord) (defScope sIsWord) .none kV19 dc19 pm19 an19 cd19 ct19), sl19⟩)
    (c19 : PySem.W.codeIn K (cd19) "is_word" = true)
    (k19 : PySem.W.keepIn K (.ref f19) = true)
    (a20 : PySem.W.nsIn K mainGlobals "is_tell" = some (some (.ref f20)))
    (l20 : K.lookup f20 = some ⟨oc20, od20, .func (PySem.W.fnOf "is_tell" "is_tell" (defArgs sIsTell) (defBody sIsTell) (defScope sIsTell) .none kV20 dc20 pm20 an20 cd20 ct20), sl20⟩)
    (c20 : PySem.W.codeIn K (cd20) "is_tell" = true)
    (k20 : PySem.W.keepIn K (.ref f20) = true)
    (a21 : PySem.W.nsIn K mainGlobals "check_different" = some (some (.ref f21)))
    (l21 : K.lookup f21 = some ⟨oc21, od21, .func (PySem.W.fnOf "check_different" "check_different" (defArgs sCheckDiff) (defBody sCheckDiff) (defScope sCheckDiff) .none kV21 dc21 pm21 an21 cd21 ct21), sl21⟩)
    (c21 : PySem.W.codeIn K (cd21) "check_different" = true)
    (k21 : PySem.W.keepIn K (.ref f21) = true)
    (a22 : PySem.W.nsIn K mainGlobals "check_group" = some (some (.ref f22)))
    (l22 : K.lookup f22 = some ⟨oc22, od22, .func (PySem.W.fnOf "check_group" "check_group" (defArgs sCheckGroup) (defBody sCheckGroup) (defScope sCheckGroup) .none kV22 dc22 pm22 an22 cd22 ct22), sl22⟩)
    (c22 : PySem.W.codeIn K (cd22) "check_group" = true)
    (k22 : PySem.W.keepIn K (.ref f22) = true)
    (a23 : PySem.W.nsIn K mainGlobals "check_deeds" = some (some (.ref f23)))
    (l23 : K.lookup f23 = some ⟨oc23, od23, .func (PySem.W.fnOf "check_deeds" "check_deeds" (defArgs sCheckDeeds) (defBody sCheckDeeds) (defScope sCheckDeeds) .none kV23 dc23 pm23 an23 cd23 ct23), sl23⟩)
    (c23 : PySem.W.codeIn K (cd23) "check_deeds" = true)
    (k23 : PySem.W.keepIn K (.ref f23) = true)
    (a24 : PySem.W.nsIn K mainGlobals "check_rows" = some (some (.ref f24)))
    (l24 : K.lookup f24 = some ⟨oc24, od24, .func (PySem.W.fnOf "check_rows" "check_rows" (defArgs sCheckRows) (defBody sCheckRows) (defScope sCheckRows) .none kV24 dc24 pm24 an24 cd24 ct24), sl24⟩)
    (c24 : PySem.W.codeIn K (cd24) "check_rows" = true)
    (k24 : PySem.W.keepIn K (.ref f24) = true)
    (a25 : PySem.W.nsIn K mainGlobals "check_tells" = some (some (.ref f25)))
    (l25 : K.lookup f25 = some ⟨oc25, od25, .func (PySem.W.fnOf "check_tells" "check_tells" (defArgs sCheckTells) (defBody sCheckTells) (defScope sCheckTells) .none kV25 dc25 pm25 an25 cd25 ct25), sl25⟩)
    (c25 : PySem.W.codeIn K (cd25) "check_tells" = true)
    (k25 : PySem.W.keepIn K (.ref f25) = true)
    (a26 : PySem.W.nsIn K mainGlobals "check_values" = some (some (.ref f26)))
    (l26 : K.lookup f26 = some ⟨oc26, od26, .func (PySem.W.fnOf "check_values" "check_values" (defArgs sChkV) (defBody sChkV) (defScope sChkV) .none kV26 dc26 pm26 an26 cd26 ct26), sl26⟩)
    (c26 : PySem.W.codeIn K (cd26) "check_values" = true)
    (k26 : PySem.W.keepIn K (.ref f26) = true)
    (aC : PySem.W.nsIn K mainGlobals "Machine" = some (some (.ref C)))
    (pgC : PySem.W.plainGet K C Str.empty = true)
    (hdC : PySem.W.hasDictIn K C = true)
    (poC : PySem.W.plainOver K C = true)
    (saC : PySem.W.findIn K (.ref C) "__setattr__" = some (some (.builtin "object.__setattr__")))
    (mkC : PySem.W.makesIn K C = true)
    (kcC : PySem.W.keepIn K (.ref C) = true)
    (nC_deeds : PySem.W.findIn K (.ref C) "deeds" = some none)
    (nC_rows : PySem.W.findIn K (.ref C) "rows" = some none)
    (nC_tells : PySem.W.findIn K (.ref C) "tells" = some none)
    (nC_start : PySem.W.findIn K (.ref C) "start" = some none)
    (a27 : PySem.W.findIn K (.ref C) "__init__" = some (some (.ref f27)))
    (i27 : PySem.W.isFn K (.ref f27) = true)
    (l27 : K.lookup f27 = some ⟨oc27, od27, .func (PySem.W.fnOf "__init__" "Machine.__init__" (defArgs sMInit) (defBody sMInit) (defScope sMInit) (.ref T27) kV27 dc27 pm27 an27 cd27 ct27), sl27⟩)
    (c27 : PySem.W.codeIn K (cd27) "Machine.__init__" = true)
    (k27 : PySem.W.keepIn K (.ref f27) = true)
    (lT27 : K.lookup T27 = some ⟨ocT27, odT27, .seq #[.int 0 tc0] nT27, slT27⟩)
    (a28 : PySem.W.findIn K (.ref C) "path" = some (some (.ref f28)))
    (i28 : PySem.W.isFn K (.ref f28) = true)
    (l28 : K.lookup f28 = some ⟨oc28, od28, .func (PySem.W.fnOf "path" "Machine.path" (defArgs sMPath) (defBody sMPath) (defScope sMPath) (.ref T28) kV28 dc28 pm28 an28 cd28 ct28), sl28⟩)
    (c28 : PySem.W.codeIn K (cd28) "Machine.path" = true)
    (k28 : PySem.W.keepIn K (.ref f28) = true)
    (lT28 : K.lookup T28 = some ⟨ocT28, odT28, .seq #[.none] nT28, slT28⟩)
    (a29 : PySem.W.findIn K (.ref C) "after" = some (some (.ref f29)))
    (i29 : PySem.W.isFn K (.ref f29) = true)
    (l29 : K.lookup f29 = some ⟨oc29, od29, .func (PySem.W.fnOf "after" "Machine.after" (defArgs sMAfter) (defBody sMAfter) (defScope sMAfter) (.ref T29) kV29 dc29 pm29 an29 cd29 ct29), sl29⟩)
    (c29 : PySem.W.codeIn K (cd29) "Machine.after" = true)
    (k29 : PySem.W.keepIn K (.ref f29) = true)
    (lT29 : K.lookup T29 = some ⟨ocT29, odT29, .seq #[.none] nT29, slT29⟩)
    (a30 : PySem.W.findIn K (.ref C) "__len__" = some (some (.ref f30)))
    (i30 : PySem.W.isFn K (.ref f30) = true)
    (l30 : K.lookup f30 = some ⟨oc30, od30, .func (PySem.W.fnOf "__len__" "Machine.__len__" (defArgs sMLen) (defBody sMLen) (defScope sMLen) .none kV30 dc30 pm30 an30 cd30 ct30), sl30⟩)
    (c30 : PySem.W.codeIn K (cd30) "Machine.__len__" = true)
    (k30 : PySem.W.keepIn K (.ref f30) = true)
    (aCM : PySem.W.nsIn K mainGlobals "Mark" = some (some (.ref CM)))
    (pgCM : PySem.W.plainGet K CM Str.empty = true)
    (hdCM : PySem.W.hasDictIn K CM = true)
    (poCM : PySem.W.plainOver K CM = true)
    (saCM : PySem.W.findIn K (.ref CM) "__setattr__" = some (some (.builtin "object.__setattr__")))
    (mkCM : PySem.W.makesIn K CM = true)
    (kcCM : PySem.W.keepIn K (.ref CM) = true)
    (nCM_machine : PySem.W.findIn K (.ref CM) "machine" = some none)
    (nCM_rule : PySem.W.findIn K (.ref CM) "rule" = some none)
    (a31 : PySem.W.findIn K (.ref CM) "__init__" = some (some (.ref f31)))
    (i31 : PySem.W.isFn K (.ref f31) = true)
    (l31 : K.lookup f31 = some ⟨oc31, od31, .func (PySem.W.fnOf "__init__" "Mark.__init__" (defArgs sKInit) (defBody sKInit) (defScope sKInit) .none kV31 dc31 pm31 an31 cd31 ct31), sl31⟩)
    (c31 : PySem.W.codeIn K (cd31) "Mark.__init__" = true)
    (k31 : PySem.W.keepIn K (.ref f31) = true)
    (aCL : PySem.W.nsIn K mainGlobals "Lot" = some (some (.ref CL)))
    (pgCL : PySem.W.plainGet K CL Str.empty = true)
    (hdCL : PySem.W.hasDictIn K CL = true)
    (poCL : PySem.W.plainOver K CL = true)
    (saCL : PySem.W.findIn K (.ref CL) "__setattr__" = some (some (.builtin "object.__setattr__")))
    (mkCL : PySem.W.makesIn K CL = true)
    (kcCL : PySem.W.keepIn K (.ref CL) = true)
    (nCL_marks : PySem.W.findIn K (.ref CL) "marks" = some none)
    (nCL_begin : PySem.W.findIn K (.ref CL) "begin" = some none)
    (a32 : PySem.W.findIn K (.ref CL) "__init__" = some (some (.ref f32)))
    (i32 : PySem.W.isFn K (.ref f32) = true)
    (l32 : K.lookup f32 = some ⟨oc32, od32, .func (PySem.W.fnOf "__init__" "Lot.__init__" (defArgs sLInit) (defBody sLInit) (defScope sLInit) .none kV32 dc32 pm32 an32 cd32 ct32), sl32⟩)
    (c32 : PySem.W.codeIn K (cd32) "Lot.__init__" = true)
    (k32 : PySem.W.keepIn K (.ref f32) = true)
    (a33 : PySem.W.findIn K (.ref CL) "after" = some (some (.ref f33)))
    (i33 : PySem.W.isFn K (.ref f33) = true)
    (l33 : K.lookup f33 = some ⟨oc33, od33, .func (PySem.W.fnOf "after" "Lot.after" (defArgs sLAfter) (defBody sLAfter) (defScope sLAfter) .none kV33 dc33 pm33 an33 cd33 ct33), sl33⟩)
    (c33 : PySem.W.codeIn K (cd33) "Lot.after" = true)
    (k33 : PySem.W.keepIn K (.ref f33) = true)
    (a34 : PySem.W.findIn K (.ref CL) "look" = some (some (.ref f34)))
    (i34 : PySem.W.isFn K (.ref f34) = true)
    (l34 : K.lookup f34 = some ⟨oc34, od34, .func (PySem.W.fnOf "look" "Lot.look" (defArgs sLLook) (defBody sLLook) (defScope sLLook) .none kV34 dc34 pm34 an34 cd34 ct34), sl34⟩)
    (c34 : PySem.W.codeIn K (cd34) "Lot.look" = true)
    (k34 : PySem.W.keepIn K (.ref f34) = true)
    (a00 : PySem.W.nsIn K mainGlobals "LooksError" = some (some (.ref E0)))
    (aB : PySem.W.nsIn K mainGlobals "BadState" = some (some (.ref EB)))
    (xB : K.lookup EB = some (excClassObj nmB qnB EB NB bsB [.ref E0, .type "ValueError", .type "Exception", .type "BaseException", .type "object"] true snB subB abB colB ddB m0B m1B m2B m3B m5B "ValueError.__new__"))
    (saB : PySem.W.findIn K (.ref EB) "__setattr__" = some (some (.builtin "object.__setattr__")))
    (gaB : PySem.W.findIn K (.ref EB) "__getattribute__" = some (some (.builtin "BaseException.__getattribute__")))
    (ggB : PySem.W.findIn K (.ref EB) "__getattr__" = some none)
    (eB : PySem.W.subIn K (.ref EB) (.type "BaseException") = some true)
    (tB : PySem.W.typeIn K (.ref EB) = some (.type "type"))
    (kkB : PySem.W.keepIn K (.ref EB) = true)
    (hB : PySem.W.hasDictIn K EB = true)
    (iB : PySem.W.isClsIn K EB = true)
    (noB_state : PySem.W.findIn K (.ref EB) "state" = some none)
    (a35 : PySem.W.findIn K (.ref EB) "__init__" = some (some (.ref f35)))
    (t35 : PySem.W.typeIn K (.ref f35) = some (.type "function"))
    (l35 : K.lookup f35 = some ⟨oc35, od35, .func (PySem.W.fnOf "__init__" "BadState.__init__" (defArgs sBadState) (defBody sBadState) (defScope sBadState) .none kV35 dc35 pm35 an35 cd35 ct35), sl35⟩)
    (c35 : PySem.W.codeIn K (cd35) "BadState.__init__" = true)
    (k35 : PySem.W.keepIn K (.ref f35) = true)
    (aN : PySem.W.nsIn K mainGlobals "NoDeed" = some (some (.ref EN)))
    (xN : K.lookup EN = some (excClassObj nmN qnN EN NN bsN [.ref E0, .type "ValueError", .type "Exception", .type "BaseException", .type "object"] true snN subN abN colN ddN m0N m1N m2N m3N m5N "ValueError.__new__"))
    (saN : PySem.W.findIn K (.ref EN) "__setattr__" = some (some (.builtin "object.__setattr__")))
    (gaN : PySem.W.findIn K (.ref EN) "__getattribute__" = some (some (.builtin "BaseException.__getattribute__")))
    (ggN : PySem.W.findIn K (.ref EN) "__getattr__" = some none)
    (eN : PySem.W.subIn K (.ref EN) (.type "BaseException") = some true)
    (tN : PySem.W.typeIn K (.ref EN) = some (.type "type"))
    (kkN : PySem.W.keepIn K (.ref EN) = true)
    (hN : PySem.W.hasDictIn K EN = true)
    (iN : PySem.W.isClsIn K EN = true)
    (noN_index : PySem.W.findIn K (.ref EN) "index" = some none)
    (a36 : PySem.W.findIn K (.ref EN) "__init__" = some (some (.ref f36)))
    (t36 : PySem.W.typeIn K (.ref f36) = some (.type "function"))
    (l36 : K.lookup f36 = some ⟨oc36, od36, .func (PySem.W.fnOf "__init__" "NoDeed.__init__" (defArgs sNoDeed) (defBody sNoDeed) (defScope sNoDeed) .none kV36 dc36 pm36 an36 cd36 ct36), sl36⟩)
    (c36 : PySem.W.codeIn K (cd36) "NoDeed.__init__" = true)
    (k36 : PySem.W.keepIn K (.ref f36) = true)
    (sBB : PySem.W.subIn K (.ref EB) (.ref EB) = some true)
    (sNB : PySem.W.subIn K (.ref EN) (.ref EB) = some false)
    (sNN : PySem.W.subIn K (.ref EN) (.ref EN) = some true)
    (co_LETTERS : PySem.W.nsIn K mainGlobals "LETTERS" = some (some (.str zLE tc1)))
    (co_DIGITS : PySem.W.nsIn K mainGlobals "DIGITS" = some (some (.str zDG tc2)))
    (co_LONGEST_WORD : PySem.W.nsIn K mainGlobals "LONGEST_WORD" = some (some (.int 12 tc3)))
    (co_LONGEST_TELL : PySem.W.nsIn K mainGlobals "LONGEST_TELL" = some (some (.int 60 tc4)))
    (co_MOST_DEEDS : PySem.W.nsIn K mainGlobals "MOST_DEEDS" = some (some (.int 6 tc5)))
    (co_MOST_STATES : PySem.W.nsIn K mainGlobals "MOST_STATES" = some (some (.int 60 tc6)))
    (co_MOST_MARKS : PySem.W.nsIn K mainGlobals "MOST_MARKS" = some (some (.int 6 tc7)))
    (aRU : PySem.W.nsIn K mainGlobals "RULES" = some (some (.ref pR)))
    (lqpR : K.lookup pR = some oqpR)
    (cqpR : oqpR.cls = .type "tuple")
    (dqpR : oqpR.data = .seq iqpR nqpR)
    (zqpR : iqpR.size ≤ sizeLine)
    (vqpR : Vals [.str "kept", .str "cleared"] iqpR.toList)
    (z_int : PySem.W.nsIn K mainGlobals "int" = some none)
    (z_len : PySem.W.nsIn K mainGlobals "len" = some none)
    (z_list : PySem.W.nsIn K mainGlobals "list" = some none)
    (z_range : PySem.W.nsIn K mainGlobals "range" = some none)
    (z_tuple : PySem.W.nsIn K mainGlobals "tuple" = some none)
    (z_isinstance : PySem.W.nsIn K mainGlobals "isinstance" = some none)
    (z_bool : PySem.W.nsIn K mainGlobals "bool" = some none)
    (z_str : PySem.W.nsIn K mainGlobals "str" = some none)
    (z_all : PySem.W.nsIn K mainGlobals "all" = some none)
    (z_enumerate : PySem.W.nsIn K mainGlobals "enumerate" = some none)
    (z_min : PySem.W.nsIn K mainGlobals "min" = some none)
    (z_zip : PySem.W.nsIn K mainGlobals "zip" = some none) :
    LawAtS l w K L2.CX0 9 63 "_law_script" mg fa h := by
  have e := (PySem.W.mg_of X G a16).symm.trans hfa
  cases e
  have D1 : Df K mg "_law_pen" sPen ["_law_script"] f1 _ := ⟨fun_mk (st := sPen) l1 c1 k1, PySem.W.mg_of X G a1, (fun_mk (st := sPen) l1 c1 k1).binds (ps := ["_law_script"]) fun _ _ _ _ _ _ us hl => match us, hl with | [_], _ => rfl⟩
  have D2 : Df K mg "_law_draw" sDraw ["_law_pen_here", "_law_many"] f2 _ := ⟨fun_mk (st := sDraw) l2 c2 k2, PySem.W.mg_of X G a2, (fun_mk (st := sDraw) l2 c2 k2).binds (ps := ["_law_pen_here", "_law_many"]) fun _ _ _ _ _ _ us hl => match us, hl with | [_, _], _ => rfl⟩
  have D3 : Df K mg "_law_pick" sPick ["_law_pen_here", "_law_some"] f3 _ := ⟨fun_mk (st := sPick) l3 c3 k3, PySem.W.mg_of X G a3, (fun_mk (st := sPick) l3 c3 k3).binds (ps := ["_law_pen_here", "_law_some"]) fun _ _ _ _ _ _ us hl => match us, hl with | [_, _], _ => rfl⟩
  have D4 : Df K mg "_law_words" sWords ["_law_pen_here", "_law_many"] f4 _ := ⟨fun_mk (st := sWords) l4 c4 k4, PySem.W.mg_of X G a4, (fun_mk (st := sWords) l4 c4 k4).binds (ps := ["_law_pen_here", "_law_many"]) fun _ _ _ _ _ _ us hl => match us, hl with | [_, _], _ => rfl⟩
  have D5 : Df K mg "_law_named" sNamed ["_law_deeds", "_law_row"] f5 _ := ⟨fun_mk (st := sNamed) l5 c5 k5, PySem.W.mg_of X G a5, (fun_mk (st := sNamed) l5 c5 k5).binds (ps := ["_law_deeds", "_law_row"]) fun _ _ _ _ _ _ us hl => match us, hl with | [_, _], _ => rfl⟩
  have D6 : Df K mg "_law_plain" sPlain ["_law_pen_here", "_law_deeds", "_law_most", "_law_tells"] f6 _ := ⟨fun_mk (st := sPlain) l6 c6 k6, PySem.W.mg_of X G a6, (fun_mk (st := sPlain) l6 c6 k6).binds (ps := ["_law_pen_here", "_law_deeds", "_law_most", "_law_tells"]) fun _ _ _ _ _ _ us hl => match us, hl with | [_, _, _, _], _ => rfl⟩
  have D7 : Df K mg "_law_made" sMade ["_law_plain_here"] f7 _ := ⟨fun_mk (st := sMade) l7 c7 k7, PySem.W.mg_of X G a7, (fun_mk (st := sMade) l7 c7 k7).binds (ps := ["_law_plain_here"]) fun _ _ _ _ _ _ us hl => match us, hl with | [_], _ => rfl⟩
  have D8 : Df K mg "_law_led" sLed ["_law_plain_here", "_law_row", "_law_spot"] f8 _ := ⟨fun_mk (st := sLed) l8 c8 k8, PySem.W.mg_of X G a8, (fun_mk (st := sLed) l8 c8 k8).binds (ps := ["_law_plain_here", "_law_row", "_law_spot"]) fun _ _ _ _ _ _ us hl => match us, hl with | [_, _, _], _ => rfl⟩
  have D9 : Df K mg "_law_lot" sLot ["_law_pen_here", "_law_deeds", "_law_many", "_law_most", "_law_tells"] f9 _ := ⟨fun_mk (st := sLot) l9 c9 k9, PySem.W.mg_of X G a9, (fun_mk (st := sLot) l9 c9 k9).binds (ps := ["_law_pen_here", "_law_deeds", "_law_many", "_law_most", "_law_tells"]) fun _ _ _ _ _ _ us hl => match us, hl with | [_, _, _, _, _], _ => rfl⟩
  have D10 : Df K mg "_law_lot_made" sLotM ["_law_lot_here"] f10 _ := ⟨fun_mk (st := sLotM) l10 c10 k10, PySem.W.mg_of X G a10, (fun_mk (st := sLotM) l10 c10 k10).binds (ps := ["_law_lot_here"]) fun _ _ _ _ _ _ us hl => match us, hl with | [_], _ => rfl⟩
  have D11 : Df K mg "_law_seen" sSeen ["_law_lot_here", "_law_values"] f11 _ := ⟨fun_mk (st := sSeen) l11 c11 k11, PySem.W.mg_of X G a11, (fun_mk (st := sSeen) l11 c11 k11).binds (ps := ["_law_lot_here", "_law_values"]) fun _ _ _ _ _ _ us hl => match us, hl with | [_, _], _ => rfl⟩
  have D12 : Df K mg "_law_left_by" sLeft ["_law_lot_here", "_law_values"] f12 _ := ⟨fun_mk (st := sLeft) l12 c12 k12, PySem.W.mg_of X G a12, (fun_mk (st := sLeft) l12 c12 k12).binds (ps := ["_law_lot_here", "_law_values"]) fun _ _ _ _ _ _ us hl => match us, hl with | [_, _], _ => rfl⟩
  have D13 : Df K mg "_law_fault" sFaultV ["_law_ask"] f13 _ := ⟨fun_mk (st := sFaultV) l13 c13 k13, PySem.W.mg_of X G a13, (fun_mk (st := sFaultV) l13 c13 k13).binds (ps := ["_law_ask"]) fun _ _ _ _ _ _ us hl => match us, hl with | [_], _ => rfl⟩
  have D14 : Df K mg "_law_values_spoilt" sVSp ["_law_pen_here", "_law_lot_here", "_law_values"] f14 _ := ⟨fun_mk (st := sVSp) l14 c14 k14, PySem.W.mg_of X G a14, (fun_mk (st := sVSp) l14 c14 k14).binds (ps := ["_law_pen_here", "_law_lot_here", "_law_values"]) fun _ _ _ _ _ _ us hl => match us, hl with | [_, _, _], _ => rfl⟩
  have D15 : Df K mg "_law_row_spoilt" sRSp ["_law_pen_here", "_law_deeds", "_law_row"] f15 _ := ⟨fun_mk (st := sRSp) l15 c15 k15, PySem.W.mg_of X G a15, (fun_mk (st := sRSp) l15 c15 k15).binds (ps := ["_law_pen_here", "_law_deeds", "_law_row"]) fun _ _ _ _ _ _ us hl => match us, hl with | [_, _, _], _ => rfl⟩
  have FC16 : FunC K "law" "law" sLaw f16 _ cc16 := ⟨⟨_, _, _, _, _, _, _, _, rfl, l16, c16⟩, k16⟩
  have TA16 := tab_at (q := q) X O mr16 (PySem.W.mg_of X G a16) l16 rfl lc16 h16
  have D16 : Df K mg "law" sLaw ["_law_script"] f16 _ := ⟨FC16.toFun, PySem.W.mg_of X G a16, FC16.toFun.binds (ps := ["_law_script"]) fun _ _ _ _ _ _ us hl => match us, hl with | [_], _ => rfl⟩
  have D17 : Df K mg "is_integer" sIsInt ["value"] f17 _ := ⟨fun_mk (st := sIsInt) l17 c17 k17, PySem.W.mg_of X G a17, (fun_mk (st := sIsInt) l17 c17 k17).binds (ps := ["value"]) fun _ _ _ _ _ _ us hl => match us, hl with | [_], _ => rfl⟩
  have D18 : Df K mg "is_index" sIsIndex ["value", "many"] f18 _ := ⟨fun_mk (st := sIsIndex) l18 c18 k18, PySem.W.mg_of X G a18, (fun_mk (st := sIsIndex) l18 c18 k18).binds (ps := ["value", "many"]) fun _ _ _ _ _ _ us hl => match us, hl with | [_, _], _ => rfl⟩
  have D19 : Df K mg "is_word" sIsWord ["value"] f19 _ := ⟨fun_mk (st := sIsWord) l19 c19 k19, PySem.W.mg_of X G a19, (fun_mk (st := sIsWord) l19 c19 k19).binds (ps := ["value"]) fun _ _ _ _ _ _ us hl => match us, hl with | [_], _ => rfl⟩
  have D20 : Df K mg "is_tell" sIsTell ["value"] f20 _ := ⟨fun_mk (st := sIsTell) l20 c20 k20, PySem.W.mg_of X G a20, (fun_mk (st := sIsTell) l20 c20 k20).binds (ps := ["value"]) fun _ _ _ _ _ _ us hl => match us, hl with | [_], _ => rfl⟩
  have D21 : Df K mg "check_different" sCheckDiff ["deeds"] f21 _ := ⟨fun_mk (st := sCheckDiff) l21 c21 k21, PySem.W.mg_of X G a21, (fun_mk (st := sCheckDiff) l21 c21 k21).binds (ps := ["deeds"]) fun _ _ _ _ _ _ us hl => match us, hl with | [_], _ => rfl⟩
  have D22 : Df K mg "check_group" sCheckGroup ["deeds"] f22 _ := ⟨fun_mk (st := sCheckGroup) l22 c22 k22, PySem.W.mg_of X G a22, (fun_mk (st := sCheckGroup) l22 c22 k22).binds (ps := ["deeds"]) fun _ _ _ _ _ _ us hl => match us, hl with | [_], _ => rfl⟩
  have D23 : Df K mg "check_deeds" sCheckDeeds ["deeds"] f23 _ := ⟨fun_mk (st := sCheckDeeds) l23 c23 k23, PySem.W.mg_of X G a23, (fun_mk (st := sCheckDeeds) l23 c23 k23).binds (ps := ["deeds"]) fun _ _ _ _ _ _ us hl => match us, hl with | [_], _ => rfl⟩
  have D24 : Df K mg "check_rows" sCheckRows ["rows", "many"] f24 _ := ⟨fun_mk (st := sCheckRows) l24 c24 k24, PySem.W.mg_of X G a24, (fun_mk (st := sCheckRows) l24 c24 k24).binds (ps := ["rows", "many"]) fun _ _ _ _ _ _ us hl => match us, hl with | [_, _], _ => rfl⟩
  have D25 : Df K mg "check_tells" sCheckTells ["tells", "many"] f25 _ := ⟨fun_mk (st := sCheckTells) l25 c25 k25, PySem.W.mg_of X G a25, (fun_mk (st := sCheckTells) l25 c25 k25).binds (ps := ["tells", "many"]) fun _ _ _ _ _ _ us hl => match us, hl with | [_, _], _ => rfl⟩
  have D26 : Df K mg "check_values" sChkV ["marks", "values"] f26 _ := ⟨fun_mk (st := sChkV) l26 c26 k26, PySem.W.mg_of X G a26, (fun_mk (st := sChkV) l26 c26 k26).binds (ps := ["marks", "values"]) fun _ _ _ _ _ _ us hl => match us, hl with | [_, _], _ => rfl⟩
  have F27 : FunD K "__init__" "Machine.__init__" (defArgs sMInit) (defBody sMInit) (defScope sMInit) [.int 0] [] f27 _ := ⟨⟨_, _, _, _, _, _, _, _, _, _, rfl, l27, c27, .inr ⟨by simp, T27, _, [.int 0 tc0], nT27, rfl, lT27, rfl, (.cons ⟨_, rfl⟩ .nil)⟩, .inl rfl⟩, k27⟩
  have b27 : Binds K (PySem.W.fnOf "__init__" "Machine.__init__" (defArgs sMInit) (defBody sMInit) (defScope sMInit) (.ref T27) kV27 dc27 pm27 an27 cd27 ct27) ["self", "deeds", "rows", "tells", "start"] [] := by
    obtain ⟨ds, v, b⟩ := F27.binds1 (ps := ["self", "deeds", "rows", "tells", "start"]) 5 1 (by simp) rfl fun T kV doc pm an cdv ct us its hu hi => match us, hu, its, hi with | [_, _, _, _, _], _, [_], _ => ⟨_, rfl, rfl⟩
    cases v
    exact b
  obtain ⟨ds27, vd27, b027⟩ := F27.binds1 (ps := ["self", "deeds", "rows", "tells", "start"]) 4 0 (by simp) rfl fun T kV doc pm an cdv ct us its hu hi => match us, hu, its, hi with | [_, _, _, _], _, [_], _ => ⟨_, rfl, rfl⟩
  have Mk27 : Mk K C f27 := ⟨mkC, a27, i27, kcC⟩
  have F28 : FunD K "path" "Machine.path" (defArgs sMPath) (defBody sMPath) (defScope sMPath) [.non] [] f28 _ := ⟨⟨_, _, _, _, _, _, _, _, _, _, rfl, l28, c28, .inr ⟨by simp, T28, _, [.none], nT28, rfl, lT28, rfl, (.cons rfl .nil)⟩, .inl rfl⟩, k28⟩
  have b28 : Binds K (PySem.W.fnOf "path" "Machine.path" (defArgs sMPath) (defBody sMPath) (defScope sMPath) (.ref T28) kV28 dc28 pm28 an28 cd28 ct28) ["self", "row", "state"] [] := by
    obtain ⟨ds, v, b⟩ := F28.binds1 (ps := ["self", "row", "state"]) 3 1 (by simp) rfl fun T kV doc pm an cdv ct us its hu hi => match us, hu, its, hi with | [_, _, _], _, [_], _ => ⟨_, rfl, rfl⟩
    cases v
    exact b
  obtain ⟨ds28, vd28, b028⟩ := F28.binds1 (ps := ["self", "row", "state"]) 2 0 (by simp) rfl fun T kV doc pm an cdv ct us its hu hi => match us, hu, its, hi with | [_, _], _, [_], _ => ⟨_, rfl, rfl⟩
  have MT28 : Meth K C "path" f28 := ⟨a28, i28, k28⟩
  have F29 : FunD K "after" "Machine.after" (defArgs sMAfter) (defBody sMAfter) (defScope sMAfter) [.non] [] f29 _ := ⟨⟨_, _, _, _, _, _, _, _, _, _, rfl, l29, c29, .inr ⟨by simp, T29, _, [.none], nT29, rfl, lT29, rfl, (.cons rfl .nil)⟩, .inl rfl⟩, k29⟩
  have b29 : Binds K (PySem.W.fnOf "after" "Machine.after" (defArgs sMAfter) (defBody sMAfter) (defScope sMAfter) (.ref T29) kV29 dc29 pm29 an29 cd29 ct29) ["self", "row", "state"] [] := by
    obtain ⟨ds, v, b⟩ := F29.binds1 (ps := ["self", "row", "state"]) 3 1 (by simp) rfl fun T kV doc pm an cdv ct us its hu hi => match us, hu, its, hi with | [_, _, _], _, [_], _ => ⟨_, rfl, rfl⟩
    cases v
    exact b
  obtain ⟨ds29, vd29, b029⟩ := F29.binds1 (ps := ["self", "row", "state"]) 2 0 (by simp) rfl fun T kV doc pm an cdv ct us its hu hi => match us, hu, its, hi with | [_, _], _, [_], _ => ⟨_, rfl, rfl⟩
  have MT29 : Meth K C "after" f29 := ⟨a29, i29, k29⟩
  have F30 := fun_mk (st := sMLen) l30 c30 k30
  have b30 : Binds K _ ["self"] [] := F30.binds (ps := ["self"]) fun _ _ _ _ _ _ us hl => match us, hl with | [_], _ => rfl
  have F31 := fun_mk (st := sKInit) l31 c31 k31
  have b31 : Binds K _ ["self", "machine", "rule"] [] := F31.binds (ps := ["self", "machine", "rule"]) fun _ _ _ _ _ _ us hl => match us, hl with | [_, _, _], _ => rfl
  have Mk31 : Mk K CM f31 := ⟨mkCM, a31, i31, kcCM⟩
  have F32 := fun_mk (st := sLInit) l32 c32 k32
  have b32 : Binds K _ ["self", "marks"] [] := F32.binds (ps := ["self", "marks"]) fun _ _ _ _ _ _ us hl => match us, hl with | [_, _], _ => rfl
  have Mk32 : Mk K CL f32 := ⟨mkCL, a32, i32, kcCL⟩
  have F33 := fun_mk (st := sLAfter) l33 c33 k33
  have b33 : Binds K _ ["self", "values", "row"] [] := F33.binds (ps := ["self", "values", "row"]) fun _ _ _ _ _ _ us hl => match us, hl with | [_, _, _], _ => rfl
  have MT33 : Meth K CL "after" f33 := ⟨a33, i33, k33⟩
  have F34 := fun_mk (st := sLLook) l34 c34 k34
  have b34 : Binds K _ ["self", "values"] [] := F34.binds (ps := ["self", "values"]) fun _ _ _ _ _ _ us hl => match us, hl with | [_, _], _ => rfl
  have MT34 : Meth K CL "look" f34 := ⟨a34, i34, k34⟩
  have FEB := fun_mk (st := sBadState) l35 c35 k35
  have OB : OBadState K mg EB f35 _ := ⟨⟨⟨nmB, qnB, NB, bsB, _, snB, subB, abB, colB, ddB, m0B, m1B, m2B, m3B, m5B, xB, rfl⟩, saB, eB, tB, kkB⟩, ⟨gaB, ggB, eB, hB⟩, PySem.W.mg_of X G aB, a35, t35, (fun f hf => by
      simp only [List.mem_cons, List.not_mem_nil, or_false] at hf
      rcases hf with rfl
      · exact noB_state), FEB, FEB.binds (ps := ["self", "state"]) fun _ _ _ _ _ _ us hl => match us, hl with | [_, _], _ => rfl⟩
  have FEN := fun_mk (st := sNoDeed) l36 c36 k36
  have ON : ONoDeed K mg EN f36 _ := ⟨⟨⟨nmN, qnN, NN, bsN, _, snN, subN, abN, colN, ddN, m0N, m1N, m2N, m3N, m5N, xN, rfl⟩, saN, eN, tN, kkN⟩, ⟨gaN, ggN, eN, hN⟩, PySem.W.mg_of X G aN, a36, t36, (fun f hf => by
      simp only [List.mem_cons, List.not_mem_nil, or_false] at hf
      rcases hf with rfl
      · exact noN_index), FEN, FEN.binds (ps := ["self", "index"]) fun _ _ _ _ _ _ us hl => match us, hl with | [_, _], _ => rfl⟩
  refine ⟨PySem.W.fnOf "law" "law" (defArgs sLaw) (defBody sLaw) (defScope sLaw) .none kV16 dc16 pm16 an16 (.ref cc16) ct16, [(cc16, pt16)], spLaw K [(pt16, qLaw)], ?_, ?_, ?_, fun s v => .of_eq rfl, ?_, fun base _ _ TB => ?_⟩
  · intro p hp
    simp only [List.mem_cons, List.not_mem_nil, or_false] at hp
    rcases hp with rfl
    · exact TA16.2
  · intro p hp
    simp only [List.mem_cons, List.not_mem_nil, or_false] at hp
    rcases hp with rfl
    · exact np16
  · intro p hp
    simp only [List.mem_cons, List.not_mem_nil, or_false] at hp
    rcases hp with rfl
    · exact TA16.1
  · intro H a ns hns _ hT hS
    refine ⟨a, ns, rfl, hS, hns, fun p hp => ?_, fun _ => rfl⟩
    simp only [List.mem_cons, List.not_mem_nil, or_false] at hp
    rcases hp with rfl
    · exact TabS.nil (hT (cc16, pt16) (by simp))
  · have BT : Bt2 mg := ⟨⟨PySem.W.mg_none_of X G z_int, PySem.W.mg_none_of X G z_len, PySem.W.mg_none_of X G z_list, PySem.W.mg_none_of X G z_range, PySem.W.mg_none_of X G z_tuple⟩, PySem.W.mg_none_of X G z_isinstance, PySem.W.mg_none_of X G z_bool, PySem.W.mg_none_of X G z_str, PySem.W.mg_none_of X G z_all, PySem.W.mg_none_of X G z_enumerate, PySem.W.mg_none_of X G z_min, ⟨_, PySem.W.mg_of X G co_LETTERS⟩, ⟨_, PySem.W.mg_of X G co_DIGITS⟩, ⟨_, PySem.W.mg_of X G co_LONGEST_WORD⟩, ⟨_, PySem.W.mg_of X G co_LONGEST_TELL⟩, ⟨_, PySem.W.mg_of X G co_MOST_DEEDS⟩, ⟨_, PySem.W.mg_of X G co_MOST_STATES⟩⟩
    have B1 : Bt mg := BT.toBt
    have BK : Bk K mg := ⟨⟨pR, PySem.W.mg_of X G aRU, (fun H => .inr ⟨_, _, _, lqpR, cqpR, dqpR, zqpR, vqpR⟩)⟩, ⟨_, PySem.W.mg_of X G co_MOST_MARKS⟩⟩
    have MT : Tm K mg C := ⟨⟨pgC, hdC, poC, saC⟩, nC_deeds, nC_rows, nC_tells, nC_start, PySem.W.mg_of X G aC⟩
    have MK : Tk K mg CM := ⟨⟨pgCM, hdCM, poCM, saCM⟩, nCM_machine, nCM_rule, PySem.W.mg_of X G aCM⟩
    have ML : Tl2 K mg CL := ⟨⟨pgCL, hdCL, poCL, saCL⟩, nCL_marks, nCL_begin, PySem.W.mg_of X G aCL⟩
    have EE : Ee K EB EN := ⟨exm_of eB iB tB sBB, exm_of eB iB tB sNB, exm_of eN iN tN sNN⟩
    have GI : FnOk l.prog w K mg base L2.CX0 5 f27 _ pInit (spMInit K C) := ok_minit F27 MT BT D23 D22 D21 D19 D24 D18 D17 D25 D20
    have GP : FnOk l.prog w K mg base (L2.CX l.prog w) 3 f28 _ pPath (spPath K C EB EN) := ok_path F28 MT BT D18 D17 OB ON
    have GA : FnOk l.prog w K mg base (L2.CX l.prog w) 4 f29 _ pPath (spAfter K C EB EN) := ok_after F29 MT MT28 b28 GP
    have GM : FnOk l.prog w K mg base L2.CX0 7 _ _ ["_law_plain_here"] (spMade K C) := ok_made D7 MT BT Mk27 GI b27
    have GKI : FnOk l.prog w K mg base L2.CX0 1 f31 _ pKI (spKInit K CM) := ok_kinit F31 MK BK
    have GLI : FnOk l.prog w K mg base L2.CX0 1 f32 _ pLI (spLInit K C CM CL) := ok_linit F32 MT MK ML BT BK
    have GC : FnOk l.prog w K mg base (L2.CX l.prog w) 3 _ _ ["marks", "values"] (spChkX K C CM EB) := ok_chkX D26 D18 D17 MT MK BT F30 b30 ⟨a30, i30⟩ OB
    have GLA : FnOk l.prog w K mg base (L2.CX l.prog w) 5 f33 _ pLA (spLAfterX K C CM CL EB EN) := ok_lafterX F33 MT MK ML BT (PySem.W.mg_none_of X G z_zip) D26 GC MT29 b29 GA
    have GLL : FnOk l.prog w K mg base (L2.CX l.prog w) 4 f34 _ ["self", "values"] (spLLookX K C CM CL EB) := ok_llookX F34 MT MK ML BT (PySem.W.mg_none_of X G z_zip) D26 GC
    have tbL := TB (cc16, pt16) (by simp)
    have FF : Fs l.prog w K mg base C CM CL EB EN := ⟨BT, MT, MK, ML, EE,
      ⟨_, _, D1.g, D1.F.kp, D1.b, ok_pen D1 B1⟩,
      ⟨_, _, D2.g, D2.F.kp, D2.b, ok_draw D2.F B1⟩,
      ⟨_, _, D4.g, D4.F.kp, D4.b, ok_words D4 D2 D3 B1⟩,
      ⟨_, _, D5.g, D5.F.kp, D5.b, ok_named D5 B1⟩,
      ⟨_, _, D9.g, D9.F.kp, D9.b, ok_lot D9 D6 D3 (ok_plain D6 D2 D3 B1) (ok_pickL D3 D2 B1) B1⟩,
      ⟨_, _, D10.g, D10.F.kp, D10.b, ok_lotm D10 D7 GM MK ML Mk31 b31 GKI Mk32 b32 GLI⟩,
      ⟨_, _, D8.g, D8.F.kp, D8.b, ok_led D8⟩,
      ⟨_, _, D11.g, D11.F.kp, D11.b, ok_seen D11 B1⟩,
      ⟨_, _, D12.g, D12.F.kp, D12.b, ok_left D12 B1⟩,
      ⟨_, _, D13⟩,
      ⟨_, _, D14.g, D14.F.kp, D14.b, ok_vsp D14 D2 D3 BT⟩,
      ⟨_, _, D15.g, D15.F.kp, D15.b, ok_rsp D15 D2 B1⟩,
      ⟨_, _, Mk32, b32, GLI⟩,
      ⟨_, _, MT33, b33, GLA⟩,
      ⟨_, _, MT34, b34, GLL⟩,
      ⟨_, _, OB⟩, ⟨_, _, ON⟩⟩
    exact ok_law FF FC16 tbL (by simp) (by intro p hp e; simp only [List.mem_cons, List.not_mem_nil, or_false] at hp; rcases hp with rfl; rfl)

theorem walk {l : PySem.W.OpenLaw} {q : Program} {loose : List Str} {XP : (Str → Option Value) → Heap → Prop} {YP : World → Heap → Prop} {d : DefRec} {K : Params → PySem.W.Frag} (hn : l.most = some 63) (hdf : d.params.defaults = [])
    (hY : ∀ (w : World) (h : Heap), YP w h → (K w.params).In h)
    (F : ∀ (w : World) (mg : Str → Option Value) (fa : Addr) (h : Heap), (K w.params).In h → h.Ns mainGlobals mg → mg d.name = some (.ref fa) → OwnTabs q mg h → LawAtS l w (K w.params) L2.CX0 9 63 "_law_script" mg fa h) :
    PySem.W.WalkO q loose XP YP l.row.toRowW d [] (fun f vs => PySem.call f vs) :=
  walk_tabs (n := 63) (k := 9) (x := "_law_script") (CX := fun _ => L2.CX0) hn (by decide) hdf ⟨rfl, by decide, by decide⟩ hY (fun w mg fa h _ => F w mg fa h) fun _ _ _ _ _ z => z
end K1
open PySem PySem.W PyProof.Rows in
set_option maxRecDepth 100000 in
set_option maxHeartbeats 0 in
theorem PySem.Challenge.cw_betweenlooks_k30_values_after_rows_and_l_holds : PySem.Challenge.rw_betweenlooks_k30_values_after_rows_and_l.Holds := by
  w_on; o_law; k_head; (case hw => w_witness2)
  k_fill
  refine K1.walk (l := PySem.Challenge.rw_betweenlooks_k30_values_after_rows_and_l) rfl rfl (fun w h Y => PySem.W.km_in_of Y) ?F
  case F =>
    intro w mg fa h KX G hmg OT
    refine' K1.all_mk KX G hmg OT ?a1 ?l1 ?c1 ?k1 ?a2 ?l2 ?c2 ?k2 ?a3 ?l3 ?c3 ?k3 ?a4 ?l4 ?c4 ?k4 ?a5 ?l5 ?c5 ?k5 ?a6 ?l6 ?c6 ?k6 ?a7 ?l7 ?c7 ?k7 ?a8 ?l8 ?c8 ?k8 ?a9 ?l9 ?c9 ?k9 ?a10 ?l10 ?c10 ?k10 ?a11 ?l11 ?c11 ?k11 ?a12 ?l12 ?c12 ?k12 ?a13 ?l13 ?c13 ?k13 ?a14 ?l14 ?c14 ?k14 ?a15 ?l15 ?c15 ?k15 ?a16 ?l16 ?c16 ?k16 ?lc16 ?h16 ?np16 ?mr16 ?a17 ?l17 ?c17 ?k17 ?a18 ?l18 ?c18 ?k18 ?a19 ?l19 ?c19 ?k19 ?a20 ?l20 ?c20 ?k20 ?a21 ?l21 ?c21 ?k21 ?a22 ?l22 ?c22 ?k22 ?a23 ?l23 ?c23 ?k23 ?a24 ?l24 ?c24 ?k24 ?a25 ?l25 ?c25 ?k25 ?a26 ?l26 ?c26 ?k26 ?aC ?pgC ?hdC ?poC ?saC ?mkC ?kcC ?nC_deeds ?nC_rows ?nC_tells ?nC_start ?a27 ?i27 ?l27 ?c27 ?k27 ?lT27 ?a28 ?i28 ?l28 ?c28 ?k28 ?lT28 ?a29 ?i29 ?l29 ?c29 ?k29 ?lT29 ?a30 ?i30 ?l30 ?c30 ?k30 ?aCM ?pgCM ?hdCM ?poCM ?saCM ?mkCM ?kcCM ?nCM_machine ?nCM_rule ?a31 ?i31 ?l31 ?c31 ?k31 ?aCL ?pgCL ?hdCL ?poCL ?saCL ?mkCL ?kcCL ?nCL_marks ?nCL_begin ?a32 ?i32 ?l32 ?c32 ?k32 ?a33 ?i33 ?l33 ?c33 ?k33 ?a34 ?i34 ?l34 ?c34 ?k34 ?a00 ?aB ?xB ?saB ?gaB ?ggB ?eB ?tB ?kkB ?hB ?iB ?noB_state ?a35 ?t35 ?l35 ?c35 ?k35 ?aN ?xN ?saN ?gaN ?ggN ?eN ?tN ?kkN ?hN ?iN ?noN_index ?a36 ?t36 ?l36 ?c36 ?k36 ?sBB ?sNB ?sNN ?co_LETTERS ?co_DIGITS ?co_LONGEST_WORD ?co_LONGEST_TELL ?co_MOST_DEEDS ?co_MOST_STATES ?co_MOST_MARKS ?aRU ?lqpR ?cqpR ?dqpR ?zqpR ?vqpR ?z_int ?z_len ?z_list ?z_range ?z_tuple ?z_isinstance ?z_bool ?z_str ?z_all ?z_enumerate ?z_min ?z_zip
    (case a1 => k_is)
    (case l1 => k_is)
    (case c1 => k_is)
    (case k1 => k_is)
    (case a2 => k_is)
    (case l2 => k_is)
    (case c2 => k_is)
    (case k2 => k_is)
    (case a3 => k_is)
    (case l3 => k_is)
    (case c3 => k_is)
    (case k3 => k_is)
    (case a4 => k_is)
    (case l4 => k_is)
    (case c4 => k_is)
    (case k4 => k_is)
    (case a5 => k_is)
    (case l5 => k_is)
    (case c5 => k_is)
    (case k5 => k_is)
    (case a6 => k_is)
    (case l6 => k_is)
    (case c6 => k_is)
    (case k6 => k_is)
    (case a7 => k_is)
    (case l7 => k_is)
    (case c7 => k_is)
    (case k7 => k_is)
    (case a8 => k_is)
    (case l8 => k_is)
    (case c8 => k_is)
    (case k8 => k_is)
    (case a9 => k_is)
    (case l9 => k_is)
    (case c9 => k_is)
    (case k9 => k_is)
    (case a10 => k_is)
    (case l10 => k_is)
    (case c10 => k_is)
    (case k10 => k_is)
    (case a11 => k_is)
    (case l11 => k_is)
    (case c11 => k_is)
    (case k11 => k_is)
    (case a12 => k_is)
    (case l12 => k_is)
    (case c12 => k_is)
    (case k12 => k_is)
    (case a13 => k_is)
    (case l13 => k_is)
    (case c13 => k_is)
    (case k13 => k_is)
    (case a14 => k_is)
    (case l14 => k_is)
    (case c14 => k_is)
    (case k14 => k_is)
    (case a15 => k_is)
    (case l15 => k_is)
    (case c15 => k_is)
    (case k15 => k_is)
    (case a16 => k_is)
    (case l16 => k_is)
    (case c16 => k_is)
    (case k16 => k_is)
    (case lc16 => k_is)
    (case h16 => rfl)
    (case np16 => first | rfl | decide +kernel)
    (case mr16 => first | rfl | decide +kernel)
    (case a17 => k_is)
    (case l17 => k_is)
    (case c17 => k_is)
    (case k17 => k_is)
    (case a18 => k_is)
    (case l18 => k_is)
    (case c18 => k_is)
    (case k18 => k_is)
    (case a19 => k_is)
    (case l19 => k_is)
    (case c19 => k_is)
    (case k19 => k_is)
    (case a20 => k_is)
    (case l20 => k_is)
    (case c20 => k_is)
    (case k20 => k_is)
    (case a21 => k_is)
    (case l21 => k_is)
    (case c21 => k_is)
    (case k21 => k_is)
    (case a22 => k_is)
    (case l22 => k_is)
    (case c22 => k_is)
    (case k22 => k_is)
    (case a23 => k_is)
    (case l23 => k_is)
    (case c23 => k_is)
    (case k23 => k_is)
    (case a24 => k_is)
    (case l24 => k_is)
    (case c24 => k_is)
    (case k24 => k_is)
    (case a25 => k_is)
    (case l25 => k_is)
    (case c25 => k_is)
    (case k25 => k_is)
    (case a26 => k_is)
    (case l26 => k_is)
    (case c26 => k_is)
    (case k26 => k_is)
    (case aC => k_is)
    (case pgC => k_is)
    (case hdC => k_is)
    (case poC => k_is)
    (case saC => k_is)
    (case mkC => k_is)
    (case kcC => k_is)
    (case nC_deeds => k_is)
    (case nC_rows => k_is)
    (case nC_tells => k_is)
    (case nC_start => k_is)
    (case a27 => k_is)
    (case i27 => k_is)
    (case l27 => k_is)
    (case c27 => k_is)
    (case k27 => k_is)
    (case lT27 => k_is)
    (case a28 => k_is)
    (case i28 => k_is)
    (case l28 => k_is)
    (case c28 => k_is)
    (case k28 => k_is)
    (case lT28 => k_is)
    (case a29 => k_is)
    (case i29 => k_is)
    (case l29 => k_is)
    (case c29 => k_is)
    (case k29 => k_is)
    (case lT29 => k_is)
    (case a30 => k_is)
    (case i30 => k_is)
    (case l30 => k_is)
    (case c30 => k_is)
    (case k30 => k_is)
    (case aCM => k_is)
    (case pgCM => k_is)
    (case hdCM => k_is)
    (case poCM => k_is)
    (case saCM => k_is)
    (case mkCM => k_is)
    (case kcCM => k_is)
    (case nCM_machine => k_is)
    (case nCM_rule => k_is)
    (case a31 => k_is)
    (case i31 => k_is)
    (case l31 => k_is)
    (case c31 => k_is)
    (case k31 => k_is)
    (case aCL => k_is)
    (case pgCL => k_is)
    (case hdCL => k_is)
    (case poCL => k_is)
    (case saCL => k_is)
    (case mkCL => k_is)
    (case kcCL => k_is)
    (case nCL_marks => k_is)
    (case nCL_begin => k_is)
    (case a32 => k_is)
    (case i32 => k_is)
    (case l32 => k_is)
    (case c32 => k_is)
    (case k32 => k_is)
    (case a33 => k_is)
    (case i33 => k_is)
    (case l33 => k_is)
    (case c33 => k_is)
    (case k33 => k_is)
    (case a34 => k_is)
    (case i34 => k_is)
    (case l34 => k_is)
    (case c34 => k_is)
    (case k34 => k_is)
    (case a00 => k_is)
    (case aB => k_is)
    (case xB => k_is)
    (case saB => k_is)
    (case gaB => k_is)
    (case ggB => k_is)
    (case eB => k_is)
    (case tB => k_is)
    (case kkB => k_is)
    (case hB => k_is)
    (case iB => k_is)
    (case noB_state => k_is)
    (case a35 => k_is)
    (case t35 => k_is)
    (case l35 => k_is)
    (case c35 => k_is)
    (case k35 => k_is)
    (case aN => k_is)
    (case xN => k_is)
    (case saN => k_is)
    (case gaN => k_is)
    (case ggN => k_is)
    (case eN => k_is)
    (case tN => k_is)
    (case kkN => k_is)
    (case hN => k_is)
    (case iN => k_is)
    (case noN_index => k_is)
    (case a36 => k_is)
    (case t36 => k_is)
    (case l36 => k_is)
    (case c36 => k_is)
    (case k36 => k_is)
    (case sBB => k_is)
    (case sNB => k_is)
    (case sNN => k_is)
    (case co_LETTERS => k_is)
    (case co_DIGITS => k_is)
    (case co_LONGEST_WORD => k_is)
    (case co_LONGEST_TELL => k_is)
    (case co_MOST_DEEDS => k_is)
    (case co_MOST_STATES => k_is)
    (case co_MOST_MARKS => k_is)
    (case aRU => k_is)
    (case lqpR => k_is)
    (case cqpR => rfl)
    (case dqpR => rfl)
    (case zqpR => exact Nat.le_of_ble_eq_true rfl)
    (case vqpR => exact (.cons ⟨_, rfl⟩ (.cons ⟨_, rfl⟩ .nil)))
    (case z_int => k_is)
    (case z_len => k_is)
    (case z_list => k_is)
    (case z_range => k_is)
    (case z_tuple => k_is)
    (case z_isinstance => k_is)
    (case z_bool => k_is)
    (case z_str => k_is)
    (case z_all => k_is)
    (case z_enumerate => k_is)
    (case z_min => k_is)
    (case z_zip => k_is)
