import PyProof.Rows.All
import Wide.All
import OpenK.AllK
import Wide.FinOn
import HandS.ForMost
import HandS.Flow
import HandS.Wide
import HandS.Walk
import KE.GoesMore
import HandS.OwnEq
import PyProof.InstNe
import PyProof.NeKinds
import PyProof.IsRules
import HandS.Strs
import HandS.IsInst
import HandS.TupAny
import HandS.Defaults
import HandS.MakeKw
import HandS.ExcInit
import HandS.ExcField
import HandS.WordsExc
import HandS.Exc
import HandS.TryMany
import HandS.RaiseMore
import HandS.Lambda
import HandS.EndTab
import HandS.ExcOwn
import KE.KDflt
import PyProof.P3In
import HandS.Deep
import PySem.Challenge.RW_betweenlooks_k03_where_rows_lead
set_option Elab.async false
set_option maxRecDepth 100000
namespace K1
open PySem L2
def top (i : Nat) : Stmt := PySem.Challenge.pw_betweenlooks_k03_where_rows_lead.main.body.getD i (.Pass ⟨0, 0, 0, 0⟩)
abbrev sPen : Stmt := top 40
abbrev sDraw : Stmt := top 41
abbrev sPick : Stmt := top 42
abbrev sWords : Stmt := top 43
/-! the pen: a dict of three -/
abbrev kCells : Key := Sum.inr "cells"
abbrev kAt : Key := Sum.inr "at"
abbrev kLeft : Key := Sum.inr "left"
theorem n_ca : ¬ (kCells = kAt) := by decide +kernel
theorem n_cl : ¬ (kCells = kLeft) := by decide +kernel
theorem n_al : ¬ (kAt = kLeft) := by decide +kernel
theorem n_la : ¬ (kLeft = kAt) := by decide +kernel
theorem n_ac : ¬ (kAt = kCells) := by decide +kernel
theorem n_lc : ¬ (kLeft = kCells) := by decide +kernel
def penK (c : Addr) (a l : Int) : List (Key × V) := [(kCells, .ref c), (kAt, .int a), (kLeft, .int l)]
theorem penK_cells (c : Addr) (a l : Int) : valV (penK c a l) kCells = some (.ref c) := valV_pos rfl
theorem penK_at (c : Addr) (a l : Int) : valV (penK c a l) kAt = some (.int a) := by
  unfold penK; rw [valV_neg n_ca]; exact valV_pos rfl
theorem penK_left (c : Addr) (a l : Int) : valV (penK c a l) kLeft = some (.int l) := by
  unfold penK; rw [valV_neg n_cl, valV_neg n_al]; exact valV_pos rfl
theorem penK_put_at (c : Addr) (a l b : Int) : putK (penK c a l) kAt (.int b) = penK c b l := by
  have h1 : ¬ (("cells" : Str) = "at") := by decide +kernel
  have h2 : ¬ (("left" : Str) = "at") := by decide +kernel
  unfold penK putK; simp [h1, h2]
theorem penK_put_left (c : Addr) (a l b : Int) : putK (penK c a l) kLeft (.int b) = penK c a b := by
  have h1 : ¬ (("cells" : Str) = "left") := by decide +kernel
  have h2 : ¬ (("at" : Str) = "left") := by decide +kernel
  unfold penK putK; simp [h1, h2]
/-- at d stands a pen that was drawn from at most n times -/
def PenAt (H : Hp) (d c : Addr) (n : Nat) : Prop := ∃ (ns : List Int) (a l : Int), H d = some (.dK (penK c a l)) ∧ H c = some (.lst (ns.map V.int)) ∧ ns.length ≤ 63 ∧ 0 ≤ a ∧ a ≤ n
/-- all but d is kept -/
def Kept (d : Addr) (H H' : Hp) : Prop := ∀ b o, H b = some o → b ≠ d → H' b = some o
theorem Kept.refl (d : Addr) (H : Hp) : Kept d H H := fun _ _ e _ => e
theorem Kept.trans {d : Addr} {H H1 H2 : Hp} (a : Kept d H H1) (b : Kept d H1 H2) : Kept d H H2 := fun c o e n => b c o (a c o e n) n
theorem Kept.same {d : Addr} {H H1 : Hp} (a : Same H H1) : Kept d H H1 := fun c o e _ => a c o e
theorem same_upd {H : Hp} {p : Addr} {o : HO} (h : H p = none) : Same H (upd H p o) := fun b u e => by rw [upd_ne (ne_of_none e h)]; exact e
theorem PenAt.mono {H : Hp} {d c : Addr} {n m : Nat} (h : PenAt H d c n) (l : n ≤ m) : PenAt H d c m := by
  obtain ⟨ns, a, x, h1, h2, h3, h4, h5⟩ := h
  exact ⟨ns, a, x, h1, h2, h3, h4, by omega⟩
theorem PenAt.same {H H' : Hp} {d c : Addr} {n : Nat} (h : PenAt H d c n) (s : Same H H') : PenAt H' d c n := by
  obtain ⟨ns, a, x, h1, h2, h3⟩ := h
  exact ⟨ns, a, x, s _ _ h1, s _ _ h2, h3⟩
theorem PenAt.ne {H : Hp} {d c D : Addr} {n : Nat} (h : PenAt H d c n) (z : H D = none) : D ≠ d ∧ D ≠ c := by
  obtain ⟨ns, a, x, h1, h2, h3⟩ := h
  exact ⟨(ne_of_none h1 z).symm, (ne_of_none h2 z).symm⟩
theorem PenAt.upd {H : Hp} {d c D : Addr} {n : Nat} {o : HO} (h : PenAt H d c n) (n1 : D ≠ d) (n2 : D ≠ c) : PenAt (upd H D o) d c n := by
  obtain ⟨ns, a, x, h1, h2, h3⟩ := h
  exact ⟨ns, a, x, by rw [upd_ne n1.symm]; exact h1, by rw [upd_ne n2.symm]; exact h2, h3⟩
theorem Kept.upd {d D : Addr} {H0 H : Hp} {o : HO} (k : Kept d H0 H) (h : H0 D = none) : Kept d H0 (upd H D o) := fun b u e nb => by
  rw [upd_ne (ne_of_none e h)]; exact k b u e nb
theorem Kept.free {d c : Addr} {H H' : Hp} {n : Nat} (k : Kept d H H') (p : PenAt H' d c n) {l : Addr} (h : H' l = none) : H l = none := by
  cases q : H l with
  | none => rfl
  | some o =>
    by_cases e : l = d
    · obtain ⟨ns, a, x, h1, _⟩ := p
      subst e; rw [h] at h1; cases h1
    · have := k l o q e; rw [h] at this; cases this
theorem penK_len (c : Addr) (a l : Int) : (penK c a l).length < sizeLine := by show 3 < sizeLine; decide
theorem dp_ints {K : PySem.W.Frag} {H : Hp} : ∀ ns : List Int, DpAll K H (ns.map V.int) (ns.map PyData.int)
  | [] => .nil
  | n :: r => .cons (.int n) (dp_ints r)
theorem canLay_ints : ∀ ns : List Int, PyData.canLayAll0 (ns.map PyData.int) = true
  | [] => rfl
  | n :: r => by simp [PyData.canLayAll0, PyData.canLay0, canLay_ints r]
theorem eqv_ints_nil (ns : List Int) : PyData.eqv (.list (ns.map PyData.int)) (.list []) = ns.isEmpty := by
  cases ns <;> simp [PyData.eqv, PyData.eqvAll]
theorem shaped_ints (ns : List Int) : SeqAt.shaped (.list (ns.map PyData.int)) = true := by
  have h : ∀ ns : List Int, PyData.depthAll (ns.map PyData.int) ≤ 1 := by
    intro ns
    induction ns with
    | nil => decide
    | cons n r ih => simp only [List.map_cons, PyData.depthAll, PyData.depth]; omega
  have h1 := h ns
  unfold SeqAt.shaped
  rw [PyData.canLay0, canLay_ints, PyData.depth]
  simp only [Bool.true_and, decide_eq_true_eq]
  omega
theorem map_get {ns : List Int} {j : Nat} (h : j < ns.length) : (ns.map V.int)[j]? = some (V.int (ns.getD j 0)) := by
  simp [List.getElem?_eq_getElem h, h]
theorem fmod_nat {a m : Int} (hm : 0 < m) : ∃ j : Nat, a.fmod m = (j : Int) ∧ (j : Int) < m := by
  have h1 := Int.fmod_nonneg_of_pos a hm
  have h2 := Int.fmod_lt_of_pos a hm
  exact ⟨(a.fmod m).toNat, by omega, by omega⟩
theorem fmod_bd {a m : Int} (hm : 0 < m) (hM : m ≤ 2147483648) : -(2 ^ 64) < a.fmod m ∧ a.fmod m < 2 ^ 64 := by
  have h1 := Int.fmod_nonneg_of_pos a hm
  have h2 := Int.fmod_lt_of_pos a hm
  exact ⟨by omega, by omega⟩
structure Bt (mg : Str → Option Value) : Prop where
  int : mg "int" = none
  len : mg "len" = none
  list : mg "list" = none
  range : mg "range" = none
  tuple : mg "tuple" = none
/-- draw: r below many; the pen has been drawn from once more; all else is kept -/
def spDraw : Sp := fun vs H Q _ => ∃ (d c : Addr) (n : Nat) (many : Int), vs = [.ref d, .int many] ∧ PenAt H d c n ∧ n ≤ 1000000 ∧ 0 < many ∧ many < 1073741824 ∧
  ∀ (r : Int) (H' : Hp), 0 ≤ r → r < many → PenAt H' d c (n + 1) → Kept d H H' → Q (.int r) H'
section
variable {P : Program} {w : World} {K : PySem.W.Frag} {mg : Str → Option Value} {base : Heap}
theorem scDraw : FnScope ["_law_pen_here", "_law_many", "_law_digit", "_law_at", "_law_cell", "_law_mixed"] ["_law_pen_here", "_law_many"] (defScope sDraw) := ⟨rfl, rfl, rfl, by decide +kernel, rfl, by decide +kernel, by decide +kernel⟩
theorem ok_draw {f : Addr} {fd : FuncData} (F : Fun K "_law_draw" "_law_draw" sDraw f fd) (T : Bt mg) : FnOk P w K mg base CX0 1 f fd ["_law_pen_here", "_law_many"] spDraw := by
  refine F.ok scDraw (fun vs H Q E h => ?_) (fun cdv A outer s H vs Q E hr h => ?_)
  · obtain ⟨d, c, n, many, rfl, _⟩ := h
    rfl
  · obtain ⟨d, c, n, many, rfl, ⟨ns, a, l, hd, hc, hns, ha0, ha1⟩, hn, hm0, hm1, k⟩ := h
    have hu := hu_of hr
    have ncd : c ≠ d := ne_of hc hd (by intro z; cases z)
    have gL : DGet H d (.str "left") (some (.int l)) := by have := DGet.k (k := kLeft) hd; rw [penK_left] at this; exact this
    refine ⟨_, pss_cons (ps_if (pt_cmpR op_ge (pe_dget hu (pv 0) pe_str (fun _ _ => rfl)) (pv 1) (nomark _))
        (pss_cons (ps_set (i := 2) scDraw.nd rfl (Or.inl rfl) (pe_op op_modN (pe_callTy call_int1 (by rfl) T.int (by decide +kernel) (pa_cons (pe_dget hu (pv 0) pe_str (fun _ _ => rfl)) pa_nil)) (pv 1)))
        (pss_cons (ps_dput hu (pv 0) pe_str (pe_op op_fdivN (pe_dget hu (pv 0) pe_str (fun _ _ => rfl)) (pv 1)) rfl)
        (pss_one (ps_ret (pv 2))))) pss_nil)
      (pss_cons (ps_set (i := 3) scDraw.nd rfl (Or.inl rfl) (pe_dget hu (pv 0) pe_str (fun _ _ => rfl)))
      (pss_cons (ps_dput hu (pv 0) pe_str (pe_op op_add (pv 3) pe_int) rfl)
      (pss_cons (ps_set (i := 4) scDraw.nd rfl (Or.inl rfl) (pe_op op_add (pe_op op_mul pe_int (pv 3)) pe_int))
      (pss_cons (ps_if (pt_cmpR (op_neD hr.units) (pe_dget hu (pv 0) pe_str (fun _ _ => rfl)) (pe_lst pa_nil) (nomark _))
          (pss_one (ps_set (i := 4) scDraw.nd rfl (Or.inl rfl) (pe_ix ix_list (pe_dget hu (pv 0) pe_str (fun _ _ => rfl)) (pe_op op_modN (pe_callTy call_int1 (by rfl) T.int (by decide +kernel) (pa_cons (pv 3) pa_nil)) (pe_callB call_len (by rfl) T.len PySem.boot_len (pa_cons (pe_dget hu (pv 0) pe_str (fun _ _ => rfl)) pa_nil))) (fun _ _ => rfl)))) pss_nil)
      (pss_cons (ps_if (PW.pt (pw_and (pt_cmpR op_lt (pv 3) (pe_callB call_len (by rfl) T.len PySem.boot_len (pa_cons (pe_dget hu (pv 0) pe_str (fun _ _ => rfl)) pa_nil)) (nomark _)) (pw_and1 (pt_cmpR op_ge (pv 4) (pe_op op_pow pe_int pe_int) (nomark _)))))
          (pss_cons (ps_dput hu (pv 0) pe_str (pe_op op_fdivN (pe_op op_sub (pv 4) (pe_op op_pow pe_int pe_int)) (pv 1)) rfl)
          (pss_one (ps_ret (pe_op op_modN (pe_callTy call_int1 (by rfl) T.int (by decide +kernel) (pa_cons (pe_op op_sub (pv 4) (pe_op op_pow pe_int pe_int)) pa_nil)) (pv 1))))) pss_nil)
      (pss_cons (ps_set (i := 5) scDraw.nd rfl (Or.inl rfl) (pe_op op_add (pe_op op_add (pe_op op_add (pe_op op_mul (pe_op op_modN (pe_callTy call_int1 (by rfl) T.int (by decide +kernel) (pa_cons (pv 4) pa_nil)) pe_int) pe_int) (pe_op op_mul (pe_op op_mul pe_int (pv 3)) (pv 3))) (pe_op op_mul pe_int (pv 3))) pe_int))
      (pss_cons (ps_set (i := 5) scDraw.nd rfl (Or.inl rfl) (pe_op op_modN (pe_callTy call_int1 (by rfl) T.int (by decide +kernel) (pa_cons (pv 5) pa_nil)) pe_int))
      (pss_cons (ps_set (i := 5) scDraw.nd rfl (Or.inl rfl) (pe_op op_modN (pe_callTy call_int1 (by rfl) T.int (by decide +kernel) (pa_cons (pe_op op_mul (pv 5) (pe_op op_add (pv 5) pe_int)) pa_nil)) pe_int))
      (pss_one (ps_ret (pe_op op_modN (pe_callTy call_int1 (by rfl) T.int (by decide +kernel) (pa_cons (pe_op op_fdivN (pe_op op_modN (pe_callTy call_int1 (by rfl) T.int (by decide +kernel) (pa_cons (pe_op op_mul (pv 5) (pv 5)) pa_nil)) pe_int) pe_int) pa_nil)) (pv 1)))))))))))), ?_⟩
    -- pen['left'] >= many
    refine ⟨_, rfl, d, _, rfl, gL, _, rfl, _, _, rfl, rfl, _, rfl, ?_⟩
    refine ite2 (fun _ => ?_) (fun _ => ?_)
    · refine ⟨_, rfl, d, _, rfl, gL, .inl ⟨_, rfl, ?_⟩⟩
      refine ⟨_, rfl, _, _, rfl, rfl, (by omega), ?_⟩
      refine ⟨_, rfl, d, _, rfl, gL, _, rfl, _, _, rfl, rfl, ⟨by omega, by omega⟩, ?_⟩
      refine ⟨_, rfl, d, _, rfl, DPut.k (k := kLeft) hd (penK_len _ _ _), ?_⟩
      refine ⟨_, rfl, ?_⟩
      refine k _ _ (Int.fmod_nonneg_of_pos _ hm0) (Int.fmod_lt_of_pos _ hm0) ⟨ns, a, l.fdiv many, ?_, ?_, hns, ha0, by omega⟩ ?_
      · rw [upd_same, penK_put_left]
      · rw [upd_ne ncd]; exact hc
      · intro b o e nb; rw [upd_ne nb]; exact e
    · have gA : DGet H d (.str "at") (some (.int a)) := by have := DGet.k (k := kAt) hd; rw [penK_at] at this; exact this
      refine ⟨_, rfl, d, _, rfl, gA, ?_⟩
      refine ⟨_, rfl, _, _, rfl, rfl, _, rfl, d, _, rfl, DPut.k (k := kAt) hd (penK_len _ _ _), ?_⟩
      rw [penK_put_at]
      have hd1 : upd H d (.dK (penK c (a + 1) l)) d = some (.dK (penK c (a + 1) l)) := upd_same
      have hc1 : upd H d (.dK (penK c (a + 1) l)) c = some (.lst (ns.map V.int)) := by rw [upd_ne ncd]; exact hc
      have kp1 : Kept d H (upd H d (.dK (penK c (a + 1) l))) := fun b o e nb => by rw [upd_ne nb]; exact e
      generalize upd H d (.dK (penK c (a + 1) l)) = H1 at hd1 hc1 kp1 ⊢
      refine ⟨_, rfl, _, _, rfl, rfl, .inl ⟨by decide, by decide⟩, _, _, rfl, rfl, ?_⟩
      have gC1 : DGet H1 d (.str "cells") (some (.ref c)) := by have := DGet.k (k := kCells) hd1; rw [penK_cells] at this; exact this
      refine ⟨_, rfl, d, _, rfl, gC1, Nat.zero_le _, fun q hq => ?_⟩
      have sm : Same H1 (upd H1 q (.lst [])) := same_upd hq
      have hq1 : upd H1 q (.lst []) q = some (.lst []) := upd_same
      have hd2 := sm _ _ hd1
      have hc2 := sm _ _ hc1
      have kp2 : Kept d H (upd H1 q (.lst [])) := kp1.trans (.same sm)
      generalize upd H1 q (.lst []) = H2 at hq1 hd2 hc2 kp2 ⊢
      have gC2 : DGet H2 d (.str "cells") (some (.ref c)) := by have := DGet.k (k := kCells) hd2; rw [penK_cells] at this; exact this
      refine ⟨_, _, .lst (SqL.of hc2) (dp_ints ns), .lst (SqL.of hq1) .nil, shaped_ints ns, by decide +kernel, _, rfl, ?_⟩
      rw [eqv_ints_nil]
      have len2 : LenV K (.ref c) H2 ns.length := .inl ⟨_, SqL.of hc2, (List.length_map _).symm⟩
      have hpos : (!ns.isEmpty) = true → 0 < ns.length := fun hne => by
        cases ns with
        | nil => cases hne
        | cons _ _ => exact Nat.succ_pos _
      have hix : (!ns.isEmpty) = true → atI (ns.map V.int) (a.fmod (ns.length : Int)) = some (V.int (ns.getD (a.fmod (ns.length : Int)).toNat 0)) := fun hne => by
        have hp := hpos hne
        obtain ⟨j, ej, hj⟩ := fmod_nat (a := a) (m := (ns.length : Int)) (by omega)
        rw [ej]
        exact atI_nat (map_get (by omega))
      refine ite2 (fun hne => ⟨_, rfl, d, _, rfl, gC2, _, rfl, .inl ⟨_, rfl, ⟨_, rfl, d, _, rfl, gC2, _, _, rfl, len2, _, _, rfl, rfl, (by have := hpos hne; omega), c, _, _, _, rfl, rfl, SqL.of hc2, hix hne, ?_⟩⟩⟩) (fun _ => ?_)
      all_goals
        refine ⟨_, rfl, _, rfl, d, _, rfl, gC2, _, _, rfl, len2, _, _, rfl, rfl, _, rfl, ?_⟩
        have fin : ∀ (H3 : Hp) (l' : Int) (r : Int), H3 d = some (.dK (penK c (a + 1) l')) → H3 c = some (.lst (ns.map V.int)) → Kept d H H3 → Q (.int (r.fmod many)) H3 := fun H3 l' r e1 e2 e3 =>
          k _ _ (Int.fmod_nonneg_of_pos _ hm0) (Int.fmod_lt_of_pos _ hm0) ⟨ns, a + 1, l', e1, e2, hns, by omega, by omega⟩ e3
        refine ite2 (fun _ => ⟨_, rfl, _, _, rfl, rfl, ⟨by decide, by decide, by decide⟩, _, _, rfl, rfl, _, rfl, ite2 (fun _ => ?_) (fun _ => ?_)⟩) (fun _ => ?_)
        ·
          refine ⟨_, rfl, _, _, rfl, rfl, ⟨by decide, by decide, by decide⟩, _, _, rfl, rfl, _, rfl, _, _, rfl, rfl, ⟨by omega, by omega⟩, _, rfl, d, _, rfl, DPut.k (k := kLeft) hd2 (penK_len _ _ _), ?_⟩
          rw [penK_put_left]
          refine ⟨_, rfl, _, _, rfl, rfl, ⟨by decide, by decide, by decide⟩, _, _, rfl, rfl, .inl ⟨_, rfl, ?_⟩⟩
          refine ⟨_, rfl, _, _, rfl, rfl, (by omega), ?_⟩
          refine fin _ _ _ upd_same (by rw [upd_ne ncd]; exact hc2) (fun b o e nb => by rw [upd_ne nb]; exact kp2 b o e nb)
        all_goals
          refine ⟨_, rfl, .inl ⟨_, rfl, ?_⟩⟩
          refine ⟨_, _, rfl, rfl, (by omega), ?_⟩
          refine ⟨_, _, rfl, rfl, .inr ⟨by decide, by decide⟩, ?_⟩
          refine ⟨_, rfl, _, _, rfl, rfl, .inl ⟨by decide, by decide⟩, _, rfl, _, _, rfl, rfl, .inr ⟨by omega, by omega⟩, ?_⟩
          refine ⟨_, _, rfl, rfl, _, rfl, _, _, rfl, rfl, .inl ⟨by decide, by decide⟩, ?_⟩
          refine ⟨_, _, rfl, rfl, _, _, rfl, rfl, ?_⟩
          -- mixed = int(mixed) % 2147483647
          refine ⟨_, rfl, .inl ⟨_, rfl, ?_⟩⟩
          refine ⟨_, _, rfl, rfl, (by omega), ?_⟩
          refine ⟨_, rfl, _, rfl, _, _, rfl, rfl, _, _, rfl, rfl, .inl (fmod_bd (by decide) (by decide)), .inl ⟨_, rfl, ?_⟩⟩
          refine ⟨_, _, rfl, rfl, (by omega), ?_⟩
          refine ⟨_, rfl, _, rfl, _, _, rfl, rfl, .inl (fmod_bd (by decide) (by decide)), .inl ⟨_, rfl, ?_⟩⟩
          refine ⟨_, _, rfl, rfl, (by omega), _, _, rfl, rfl, ⟨by decide, by decide⟩, .inl ⟨_, rfl, ?_⟩⟩
          refine ⟨_, rfl, _, _, rfl, rfl, (by omega), ?_⟩
          exact fin _ _ _ hd2 hc2 kp2
end
end K1
set_option Elab.async false
set_option linter.all false
set_option maxRecDepth 100000
namespace EO
open PySem
open AutoSeq1 (wpAny_loadPart')
set_option maxHeartbeats 1000000 in
theorem meets_enumerate_newT (l : Addr) (items : Array Value) (n : Nat) (dct : Option Addr) (sl : Array (Option Value)) :
    Meets (Builtin.«enumerate.__new__» ⟨[.type "enumerate", .ref l], []⟩) (fun _ R s => s.heap.get? l = some { cls := .type "tuple", dict := dct, data := .seq items n, slots := sl } ∧
      R (.ok (.ret (.ref (s.heap.push { cls := .type "tuple_iterator", data := .fields #[.ref l, .int 0 0] }).objs.size)))
        { s with heap := (s.heap.push { cls := .type "tuple_iterator", data := .fields #[.ref l, .int 0 0] }).push { cls := .type "enumerate", data := .fields #[.none, .bool false, .ref s.heap.objs.size, rawInt 0, .none, .none] } }) :=
  .of_wp fun prog w A R s h => by
    obtain ⟨hp, g, d, tk, os⟩ := s; obtain ⟨hl, h⟩ := h
    have hsub := sub_enumerate
    have hL : Heap.IsTuple (Shared.heap ⟨hp, g, d, tk, os⟩) l items := ⟨_, hl, rfl, n, rfl⟩
    wp_walk using wpAny_loadPart' hl
    refine wpAny_stack_any fun st => wpAny_pure ?_
    split
    · rename_i c _ _ _ _ _
      cases (c == Value.type "enumerate")
      · wp_walk using wpAny_loadPart' hl, wpAny_pyIter_tuple hL
        exact ⟨_, rfl, h⟩
      · wp_walk using wpAny_loadPart' hl, wpAny_pyIter_tuple hL
        exact ⟨_, rfl, h⟩
    · wp_walk using wpAny_loadPart' hl, wpAny_pyIter_tuple hL
      exact ⟨_, rfl, h⟩
section
variable {prog : Program} {w : World} {A : Around} {E : Value → Shared → Prop} {s : Shared}
theorem call_enumerate_tuple {l : Addr} {items : Array Value} {Q : Value → Shared → Prop} (hL : s.heap.IsTuple l items)
    (h : ∀ h', IsEnum h' (s.heap.objs.size + 1) s.heap.objs.size 0 .none → h'.IsTupleIter s.heap.objs.size l 0 → h'.objs.size = s.heap.objs.size + 2 →
      (∀ b o, s.heap.get? b = some o → h'.get? b = some o) → Q (.ref (s.heap.objs.size + 1)) { s with heap := h' }) :
    wpAny (model prog w) A (call (.type "enumerate") [.ref l]) Q E s := by
  obtain ⟨⟨c, dct, dt, sl⟩, hl, hc, n, hd⟩ := hL
  replace hc : c = .type "tuple" := hc
  replace hd : dt = .seq items n := hd
  subst hc hd
  refine callType_new F.called_enumerate (by decide) (F.typeCall_enumerate_1 _) (F.newCall_enumerate_1 _) (fun obj => F.args_object_init_2 obj _) F.entry_enumerate_new
    (meets_enumerate_newT l items n dct sl) ⟨hl, ?_⟩
  have hz : (s.heap.push { cls := .type "tuple_iterator", data := .fields #[.ref l, .int 0 0] }).objs.size = s.heap.objs.size + 1 := Heap.size_push ..
  show _ ∧ _
  rw [hz]
  have he : IsEnum ((s.heap.push { cls := .type "tuple_iterator", data := .fields #[.ref l, .int 0 0] }).push
      { cls := .type "enumerate", data := .fields #[.none, .bool false, .ref s.heap.objs.size, rawInt 0, .none, .none] }) (s.heap.objs.size + 1) s.heap.objs.size 0 .none := by
    have := Heap.get?_push_size (s.heap.push { cls := .type "tuple_iterator", data := .fields #[.ref l, .int 0 0] })
      (o := { cls := .type "enumerate", data := .fields #[.none, .bool false, .ref s.heap.objs.size, rawInt 0, .none, .none] }) rfl
    rw [hz] at this; exact this
  refine ⟨⟨_, he, rfl⟩, h _ he ⟨_, Heap.get?_push_of_some _ (Heap.get?_push_size _ rfl), rfl, rfl⟩ (by rw [Heap.size_push, hz]) fun b o x => Heap.get?_push_of_some _ (Heap.get?_push_of_some _ x)⟩
theorem enumT_end {e it t : Addr} {i : Nat} {k : Int} {items : Array Value} {old : Value} {Q : Option Value → Shared → Prop} (hh : A.handled = none)
    (he : IsEnum s.heap e it k old) (hit : s.heap.IsTupleIter it t i) (ht : s.heap.IsTuple t items) (hx : items[i]? = none)
    (hQ : ∀ h', Heap.ExtBut it s.heap h' → Q none { s with heap := h' }) : wpAny (model prog w) A (pyNext (.ref e)) Q E s := by
  have hT : s.TypeIs (.ref e) "enumerate" := ⟨_, he, rfl⟩
  unfold pyNext
  refine wpAny_bind (wpAny_attempt (wpAny_callSpecial?_slot (name := Str.ofString "__next__") hT F.slot_enumerate_next
    (wpAny_call_entry F.slot_enumerate_next hT F.entry_enumerate_next ?_ (F.args_enumerate_next_1 _))))
  show wpAny _ _ (field (.ref e) 2 >>= _) _ _ _
  refine wpAny_bind (wpAny_field he rfl (x := .ref it) rfl ?_)
  refine wpAny_bind (wpAny_nextOf_tuple_end hh hit ht hx fun h' x he' hx' => ?_)
  obtain ⟨o, ho, hc⟩ := hx'
  refine wpAny_bind (wpAny_isInstance (T := "StopIteration") (b := true) ⟨o, ho, hc⟩ isSubtype_stop ?_)
  exact wpAny_pure (hQ _ he')
end
end EO
namespace L2
open PySem PySem.Spec PyProof.Rows
/-! ### enumerate(tuple) -/
def IteT (K : PySem.W.Frag) (a : Addr) : It :=
  ⟨fun i H => ∃ (xs : List V) (x : V), SqT K H a xs ∧ xs[i]? = some x, fun i H v H' => ∃ T x, v = .ref T ∧ H T = none ∧ H' = upd H T (.tup [.int (i : Nat), x]) ∧ ∀ xs, SqT K H a xs → xs[i]? = some x, fun i H => ∃ xs : List V, SqT K H a xs ∧ xs.length ≤ i⟩
theorem turn_enumT {P : Program} {w : World} {K : PySem.W.Frag} {elts : List Expr} {kk : Nat} {tpos : Pos} (a e it : Addr) :
    Turn P w K (.Tuple elts kk tpos) (IteT K a) [e, it] e (fun i h => (∃ old, IsEnum h e it ((i : Nat) : Int) old) ∧ h.IsTupleIter it a i ∧ e ≠ it) where
  mem := by simp
  obj := fun i h st b hb => by
    obtain ⟨⟨old, he⟩, ⟨o, ho, hc, hd⟩, _⟩ := st
    have e' : b = e ∨ b = it := by simpa using hb
    rcases e' with z | z
    · rw [z]; exact ⟨_, he, fun v q => nomatch q⟩
    · rw [z]; exact ⟨o, ho, fun v q => by rw [hd] at q; cases q⟩
  keep := fun i h h' st k => let ⟨⟨old, he⟩, hi, hne⟩ := st; ⟨⟨old, k e (by simp) _ he⟩, hi.at fun o q => k it (by simp) o q, hne⟩
  item := by
    intro X hP hw hK hc i pins s σ H E I hf st hg
    subst hP hw hK
    obtain ⟨⟨old, he⟩, hit, hne⟩ := st
    obtain ⟨xs, x, hq, hx⟩ := hg
    obtain ⟨its, rv, p, hz⟩ := I.tuple hq
    obtain ⟨u, hu, ru⟩ := rv.get hx
    have hil' : i < its.length := (List.getElem?_eq_some_iff.mp hu).1
    have hel : e < s.heap.objs.size := Heap.lt_size he
    have hil : it < s.heap.objs.size := by obtain ⟨_, q, _⟩ := hit; exact Heap.lt_size q
    have hai : a ≠ it := by
      intro z
      obtain ⟨o1, q1, c1, _⟩ := p
      obtain ⟨o2, q2, c2, _⟩ := hit
      rw [z, q2] at q1; cases q1; rw [c2] at c1; exact absurd c1 (by simp)
    have hea : e ≠ a := by
      intro z
      obtain ⟨o1, q1, c1, _⟩ := p
      rw [← z] at q1
      have q2 := he
      unfold IsEnum at q2
      rw [q1] at q2; cases q2; exact absurd c1 (by simp)
    refine wpAny_pyNext_enum_itemD (Draws.tuple (A := X.A.in1) (I.ok.hd hc) it a hai its.toArray) he ⟨hit, p⟩ (by simpa using hil') hne (by simp [hne, hea]) fun y h' tk hy ho hit' hT hsz hk => ?_
    have hyu : y = u := by
      have : its.toArray[i]? = some u := by simpa using hu
      rw [this] at hy; exact (Option.some.inj hy).symm
    subst hyu
    refine ⟨_, rfl, wpAny_letOwnedTupleGo_enum (s := { s with heap := h', toks := tk + 1 }) ho fun h'' he' sb => ?_⟩
    have hT2 : h''.get? s.heap.objs.size = some { cls := .type "tuple", data := .seq #[.int i tk, y] } := (sb.2 _ (Nat.ne_of_gt hel)).trans hT
    have new : ObjOk X.prog X.w (upd H s.heap.objs.size (.tup [.int (i : Nat), x])) h'' s.heap.objs.size (.tup [.int (i : Nat), x]) :=
      ⟨by show 2 ≤ sizeLine; decide, [.int i tk, y], .cons ⟨_, rfl⟩ (.cons ru .nil), ⟨_, hT2, rfl, _, rfl⟩⟩
    have I1 : Inv X pins σ (upd H s.heap.objs.size (.tup [.int (i : Nat), x])) { s with heap := h'', toks := tk + 1 } :=
      I.turnedNew (ch := [e, it]) (fun b ob hb q => (sb.2 b (fun z => hb (by simp [z]))).trans (hk b ob (fun z => hb (by simp [z])) (fun z => hb (by simp [z])) q)) hf (Nat.le_refl _) new
    refine ⟨.ref s.heap.objs.size, _, I1, rfl, ⟨_, x, rfl, I.hok.fresh (Nat.le_refl _), rfl, fun ys hy => by rw [I.tuple_inj hy hq]; exact hx⟩, ⟨⟨y, ?_⟩, hit'.1.at fun o q => (sb.2 it (Ne.symm hne)).trans q, hne⟩, fun b hb => ?_⟩
    · have e1 : ((i + 1 : Nat) : Int) = (i : Int) + 1 := by omega
      rw [e1]; exact he'
    · have hb' : b < s.heap.objs.size := by
        have e' : b = e ∨ b = it := by simpa using hb
        rcases e' with z | z
        · rw [z]; exact hel
        · rw [z]; exact hil
      rw [upd_ne (Nat.ne_of_lt hb')]
      exact (hf b hb).1
  done := by
    intro X hP hw hK hc i pins s σ H E I hf st hg
    subst hP hw hK
    obtain ⟨⟨old, he⟩, hit, hne⟩ := st
    obtain ⟨xs, hq, hx⟩ := hg
    obtain ⟨its, rv, p, hz⟩ := I.tuple hq
    obtain ⟨f0, f1, f2, f3, f4, f5⟩ := hf it (by simp)
    have hl := rv.length
    exact EO.enumT_end (I.ok.hd hc) he hit p (by simp; omega) fun h' eb => ⟨rfl, I.turned (t' := s.toks) (fun b o hb q => eb b o hb q) f0 f1 f3 f4 f5⟩
  self := fun A i s Q E st h => let ⟨⟨_, he⟩, _⟩ := st; wpAny_pyIter_enum he h
def iEnumT (K : PySem.W.Frag) (ta : TA) : TI := fun σ H R => ta σ H fun vs H1 => ∃ a xs, vs = [.ref a] ∧ SqT K H1 a xs ∧ R (IteT K a) H1
theorem pi_enumT {X : Cx} {e : Expr} {ta : TA} {p pos tpos : Pos} {elts : List Expr} {kk : Nat} (hg : Gl X "enumerate") (hm : X.mg "enumerate" = none) (ha : PA X [e] ta) (hs : starEach [e] X.env = [(false, eval e X.env)] := by rfl) :
    PI X (.Tuple elts kk tpos) (.Call (.Name "enumerate" p) [e] [] pos) (iEnumT X.K ta) := by
  refine ⟨fun pins s σ H R I h => ?_⟩
  refine Call_ (ld_blt I hg hm boot_enumerate (PyProof.Rows.callWith_type1 (thn (ha.run pos pins s σ H _ I h) fun us s1 ⟨vs, H1, I1, r1, q1⟩ => ?_) hs rfl))
  obtain ⟨a, xs, ex, hq, q⟩ := q1
  subst ex
  cases r1 with
  | cons r rr =>
    cases rr
    cases r
    obtain ⟨its, rv, p', hz⟩ := I1.tuple hq
    refine EO.call_enumerate_tuple (by exact p') fun h' he hit hsz hk => wpAny_pyIter_enum he ?_
    have I2 : Inv X pins σ H1 { s1 with heap := h' } := I1.kept (t' := s1.toks) hk
    refine ⟨s1.heap.objs.size + 1, [s1.heap.objs.size + 1, s1.heap.objs.size], _, _, H1, rfl, I2, turn_enumT a (s1.heap.objs.size + 1) s1.heap.objs.size, ⟨⟨.none, he⟩, hit, Nat.succ_ne_self _⟩, fun b hb => ?_, q⟩
    have e' : b = s1.heap.objs.size + 1 ∨ b = s1.heap.objs.size := by simpa using hb
    have hle : s1.heap.objs.size ≤ b := by
      rcases e' with z | z
      · rw [z]; exact Nat.le_add_right _ _
      · rw [z]; exact Nat.le_refl _
    exact I1.fpOk hle (I1.hok.fresh hle)
theorem walk_enumT {K : PySem.W.Frag} {a : Addr} {xs : List V} : Walk (IteT K a) xs.length (fun H => SqT K H a xs) (YPair (fun i => some (.int (i : Nat))) (fun i => xs[i]?)) := by
  refine ⟨fun i _ hi q => ⟨xs, xs[i], q, by simp [hi]⟩, fun _ q => ⟨xs, q, Nat.le_refl _⟩, fun i H v H' _ q y => ?_⟩
  obtain ⟨T, x, h1, h2, h3, h4⟩ := y
  exact ⟨T, .int (i : Nat), x, h1, h2, h3, rfl, h4 xs q⟩
end L2
set_option Elab.async false
set_option maxRecDepth 100000
namespace EO
open PySem PySem.W PySem.Spec PyProof.Rows L2
section
variable {prog : Program} {w : World} {A : Around} {E : Value → Shared → Prop} {s : Shared} {K : Frag} {x C L f : Addr} {h₀ : Heap} {m : Str → Option Value} {ox : Obj} {od : Option Obj} {name : Str} {b tb : Value}
theorem cmp_dec_K {Q : Value → Shared → Prop} (hu : A.units < cLine) (X : K.In s.heap) (I : InstAt s.heap x ox C od) (hb : Looks (model prog w) s.heap (typeOf b) tb) (hn : notFirst K C tb = true)
    (hs : findIn K (.ref C) "__eq__" = some (some (.ref f))) (hf : isFn K (.ref f) = true)
    (h : wpAny (model prog w) A (call (.ref f) [.ref x, b]) (fun v s' => v = .notImplemented ∧ wpAny (model prog w) A (tryCompare b "__eq__" (.ref x)) (fun r s2 => r = none ∧ wpAny (model prog w) A (isSame (.ref x) b) (fun k s3 => Q (.bool k) s3) E s2) E s') E s) :
    wpAny (model prog w) A (richCompare .Eq (.ref x) b) Q E s := by
  have one : wpAny (model prog w) A (tryCompare (.ref x) "__eq__" b) (fun r s' => r = none ∧ wpAny (model prog w) A (tryCompare b "__eq__" (.ref x)) (fun r s2 => r = none ∧ wpAny (model prog w) A (isSame (.ref x) b) (fun k s3 => Q (.bool k) s3) E s2) E s') E s := by
    unfold tryCompare
    refine wpAny_bind (ifBound_K X I hs hf (wpAny_mono h (fun v s' hv => ?_) fun _ _ e => e))
    obtain ⟨rfl, hv⟩ := hv
    exact wpAny_pure ⟨rfl, hv⟩
  unfold richCompare
  simp only [oneThing_ref]
  refine wpAny_holding (wpAny_bind (wpAny_cRoomFor hu ?_))
  refine wpAny_bind (I.type.here (wpAny_bind (hb.here ?_)))
  split
  · rename_i q
    have e : subIn K tb (.ref C) = some false := by
      rcases Bool.or_eq_true_iff.mp hn with e | e
      · rw [beq_iff_eq.mp e] at q; simp at q
      · exact beq_iff_eq.mp e
    refine wpAny_bind ((looks_subIn X e).here ?_)
    simp only [Bool.false_eq_true, if_false]
    refine wpAny_bind (wpAny_mono one (fun r s' z => ?_) fun _ _ e => e)
    obtain ⟨rfl, z⟩ := z
    simp only [Bool.not_false, if_true]
    refine wpAny_bind (wpAny_mono z (fun r s' z => ?_) fun _ _ e => e)
    obtain ⟨rfl, z⟩ := z
    refine wpAny_bind (wpAny_rule ?_)
    exact wpAny_bind (wpAny_mono z (fun k s3 q => wpAny_pure q) fun _ _ e => e)
  · refine wpAny_bind (wpAny_pure ?_)
    simp only [Bool.false_eq_true, if_false]
    refine wpAny_bind (wpAny_mono one (fun r s' z => ?_) fun _ _ e => e)
    obtain ⟨rfl, z⟩ := z
    simp only [Bool.not_false, if_true]
    refine wpAny_bind (wpAny_mono z (fun r s' z => ?_) fun _ _ e => e)
    obtain ⟨rfl, z⟩ := z
    refine wpAny_bind (wpAny_rule ?_)
    exact wpAny_bind (wpAny_mono z (fun k s3 q => wpAny_pure q) fun _ _ e => e)
/-- a special method that is a built-in slot -/
theorem ifBound_B {M : Model} {id : String} {args : List Value} {Q : Option Value → Shared → Prop} (X : K.In s.heap) (I : InstAt s.heap x ox C od) (hs : findIn K (.ref C) name = some (some (.builtin id))) (hb : bindSpecial (.builtin id) (.ref x) = pure (.builtin id, [.ref x]))
    (h : wpAny M A (call (.builtin id) (.ref x :: args)) (fun v => Q (some v)) E s) : wpAny M A (callSpecialIfBound? (.ref x) name args) Q E s := by
  simp only [callSpecialIfBound?, bindSpecialIfBound?, hb]
  refine wpAny_holding (wpAny_bind (wpAny_bind (wpAny_bind (I.type.here ((looks_findIn X hs).here ?_)))))
  refine wpAny_bind (wpAny_askSetting (wpAny_ite ?_))
  have fin : wpAny M A (call (.builtin id) ([.ref x] ++ args) >>= fun v => pure (some v)) Q E s := wpAny_bind (wpAny_mono h (fun v s' h' => wpAny_pure h') fun _ _ h' => h')
  simp only [hb, pure_bind]
  split
  · exact wpAny_pure (by exact fin)
  · exact wpAny_tryCatch (wpAny_pure (by exact fin))
/-- the check of a slot of object's, called of an instance -/
theorem check_obj {M : Model} {id n : String} {rest : List Value} {Q : Unit → Shared → Prop} (hk : builtinKind id = some .slot) (hs : splitId id = some ("object", n)) (ha : argsOk id ⟨.ref x :: rest, []⟩)
    (X : K.In s.heap) (I : InstAt s.heap x ox C od) (hm : mroIn K C (.type "object") = some true) (hq : Q () s) : wpAny M A (checkBuiltinCall id ⟨.ref x :: rest, []⟩) Q E s := by
  simp only [checkBuiltinCall, hk, hs]
  refine wpAny_bind ?_
  unfold isInstance
  refine wpAny_bind (I.type.here ((looks_mroIn X hm).here ?_))
  simp only [Bool.not_true, Bool.false_eq_true, if_false]
  cases hsig : Manifest.signature? id with
  | none => exact wpAny_pure hq
  | some sig =>
    simp only [argsOk, hsig] at ha
    have h2 : Bind.checkArgs id sig ⟨.ref x :: rest, []⟩ = pure () := ha
    show wpAny M A (Bind.checkArgs id sig ⟨.ref x :: rest, []⟩) Q E _
    rw [h2]; exact wpAny_pure hq
/-- a != b by object's own, over an own == that answers True or False -/
theorem ne_K {Q : Value → Shared → Prop} (hu : A.units + 1 < cLine) (X : K.In s.heap) (I : InstAt s.heap x ox C od) (hb : Looks (model prog w) s.heap (typeOf b) tb) (hn : notFirst K C tb = true)
    (hs : findIn K (.ref C) "__eq__" = some (some (.ref f))) (hf : isFn K (.ref f) = true) (hne : findIn K (.ref C) "__ne__" = some (some (.builtin "object.__ne__"))) (hm : mroIn K C (.type "object") = some true)
    (h : wpAny (model prog w) A.in1 (call (.ref f) [.ref x, b]) (fun v s' => ∃ c, v = .bool c ∧ Q (.bool (!c)) s') E s) :
    wpAny (model prog w) A (richCompare .NotEq (.ref x) b) Q E s := by
  have body : wpAny (model prog w) A (call (.builtin "object.__ne__") [.ref x, b]) (fun v s' => ∃ c, v = .bool c ∧ Q (.bool c) s') E s := by
    refine wpAny_call ?_
    refine codeAny_call_builtin F.cmp_object.ne.plain F.cmpEntry_ne ?_
    refine check_obj (id := "object.__ne__") (n := "__ne__") (rest := [b]) (x := x) F.cmpKind_ne F.cmpSplit_ne (F.cmpArgs_ne _ _) X I hm ?_
    have h' : wpAny (model prog w) A.in1 (callSpecialIfBound? (.ref x) (Str.ofString "__eq__") [b]) (fun r s' => ∃ c, r = some (.bool c) ∧ Q (.bool (!c)) s') E s :=
      ifBound_K X I hs hf (wpAny_mono h (fun r s' hr => by obtain ⟨c, rfl, hq⟩ := hr; exact ⟨c, rfl, hq⟩) fun _ _ e => e)
    unfold Builtin.«object.__ne__»
    repeat (first
      | with_reducible refine wpAny_cRoomFor (A := A.in1) hu ?_
      | (refine wpAny_bind (m := callSpecialIfBound? (.ref x) (Str.ofString "__eq__") [b]) (wpAny_mono h' (fun r s' hr => ?_) fun _ _ e => e)
         obtain ⟨c, rfl, hq⟩ := hr)
      | wp_step)
    exact ⟨_, rfl, hq⟩
  have one : wpAny (model prog w) A (tryCompare (.ref x) "__ne__" b) (fun r s' => ∃ v, r = some v ∧ Q v s') E s := by
    unfold tryCompare
    refine wpAny_bind (ifBound_B X I hne (F.cmp_object.ne.bind _) (wpAny_mono body (fun v s' hv => ?_) fun _ _ e => e))
    obtain ⟨c, rfl, hq⟩ := hv
    exact wpAny_pure ⟨_, rfl, hq⟩
  unfold richCompare
  simp only [oneThing_ref]
  refine wpAny_holding (wpAny_bind (wpAny_cRoomFor (Nat.lt_of_succ_lt hu) ?_))
  refine wpAny_bind (I.type.here (wpAny_bind (hb.here ?_)))
  split
  · rename_i q
    have e : subIn K tb (.ref C) = some false := by
      rcases Bool.or_eq_true_iff.mp hn with e | e
      · rw [beq_iff_eq.mp e] at q; simp at q
      · exact beq_iff_eq.mp e
    refine wpAny_bind ((looks_subIn X e).here ?_)
    simp only [Bool.false_eq_true, if_false]
    refine wpAny_bind (wpAny_mono one (fun r s' z => ?_) fun _ _ e => e)
    obtain ⟨v, rfl, hq⟩ := z
    exact wpAny_pure hq
  · refine wpAny_bind (wpAny_pure ?_)
    simp only [Bool.false_eq_true, if_false]
    refine wpAny_bind (wpAny_mono one (fun r s' z => ?_) fun _ _ e => e)
    obtain ⟨v, rfl, hq⟩ := z
    exact wpAny_pure hq
end
end EO

namespace L2
open PySem PySem.Spec PyProof.Rows
/-- two instances of the class at C, compared by the text's own ==, that answers True or False -/
structure OwnE (K : PySem.W.Frag) (C f : Addr) : Prop where
  eq : PySem.W.findIn K (.ref C) "__eq__" = some (some (.ref f))
  fn : PySem.W.isFn K (.ref f) = true
  ne : PySem.W.findIn K (.ref C) "__ne__" = some (some (.builtin "object.__ne__"))
  mo : PySem.W.mroIn K C (.type "object") = some true
def rOwn (C : Addr) (sp : Sp) (g : Bool → Bool) (E : XK) : R2 := fun x y H Q => ∃ a b dx dy fs gs, x = .ref a ∧ y = .ref b ∧ H a = some (.ins C dx fs) ∧ H b = some (.ins C dy gs) ∧
  sp [x, y] H (fun v H' => ∃ c, v = .bl c ∧ Q (.bl (g c)) H') E
section
variable {X : Cx} {n : Nat} {CX : CXT} {C f : Addr} {fd : FuncData} {ps : List Str} {sp : Sp} {E : XK}
theorem own_call {A : Around} {pins : List (Addr × Obj)} {s : Shared} {σ : St} {H : Hp} {vs : List V} {us : List Value} {Q : VK} (F : FnOk X.prog X.w X.K X.mg X.base CX n f fd ps sp) (hb : Binds X.K fd ps []) (hx : Passes CX X E) (hr : Room n A) (hfr : A.frames = X.A.frames)
    (I : Inv X pins σ H s) (r : Vals vs us) (h : sp vs H Q E) : wpAny (model X.prog X.w) A (call (.ref f) us) (fun u s' => ∃ v H', Inv X pins σ H' s' ∧ RelV v u ∧ Q v H') X.xe s := by
  have e0 : Env0 X.prog X.w X.K X.mg X.base A X.stack s H := by
    have e := I.env0
    exact ⟨by rw [hfr]; exact e.frames, e.mod, e.bs, e.bsz, e.funs, e.frf, e.hok, e.bare⟩
  have hl := F.len _ _ _ _ h
  refine wpAny_call (codeAny_mono (F.run A X.stack s H ⟨us, []⟩ us vs _ E hr e0 (by
    have := hb s us I.kIn (by have := r.length; rw [List.append_nil, ← this, hl])
    simpa using this) r h) fun r s' hq => ?_)
  cases r with
  | error e => exact hx pins σ H s e s' I hq
  | ok fl =>
    cases fl with
    | ret w =>
      obtain ⟨z, H', I', rz, q⟩ := I.after hq
      exact ⟨z, H', I', rz, q⟩
    | next => exact False.elim hq
    | brk => exact False.elim hq
    | cont => exact False.elim hq
theorem op_eqOwn (O : OwnE X.K C f) (F : FnOk X.prog X.w X.K X.mg X.base CX n f fd ps sp) (hr : Room n X.A) (hb : Binds X.K fd ps []) (hx : Passes CX X E) : OpR X (compareOp .Eq) (rOwn C sp (fun c => c) E) := by
  intro pins s σ H x y u v Q I rx ry h
  obtain ⟨a, b, dx, dy, fs, gs, rfl, rfl, ha, hb', hs⟩ := h
  cases rx
  cases ry
  obtain ⟨mA, J, _⟩ := ins_get I.hok ha
  obtain ⟨mB, J', _⟩ := ins_get I.hok hb'
  obtain ⟨od, J, _⟩ := J.look
  obtain ⟨od', J', _⟩ := J'.look
  obtain ⟨m, hF⟩ := I.fr
  show wpAny (model X.prog X.w) X.A (richCompare .Eq (.ref a) (.ref b)) (EP X pins σ Q) X.xe s
  refine PySem.W.cmp_K (op := .Eq) (tb := .ref C) hr.units0 hF I.ok.mod.kin J J'.type (by simp [PySem.W.notFirst]) O.eq O.fn ?_
  refine wpAny_mono (own_call (vs := [V.ref a, V.ref b]) F hb hx hr rfl I (.cons rfl (.cons rfl .nil)) hs) (fun u s' q => ?_) fun _ _ e => e
  obtain ⟨z, H', I', rz, c, rfl, q⟩ := q
  cases rz
  exact ⟨.bl c, H', I', rfl, q⟩
theorem op_neOwn (O : OwnE X.K C f) (F : FnOk X.prog X.w X.K X.mg X.base CX n f fd ps sp) (hr : Room (n + 1) X.A) (hb : Binds X.K fd ps []) (hx : Passes CX X E) : OpR X (compareOp .NotEq) (rOwn C sp (fun c => !c) E) := by
  intro pins s σ H x y u v Q I rx ry h
  obtain ⟨a, b, dx, dy, fs, gs, rfl, rfl, ha, hb', hs⟩ := h
  cases rx
  cases ry
  obtain ⟨mA, J, _⟩ := ins_get I.hok ha
  obtain ⟨mB, J', _⟩ := ins_get I.hok hb'
  obtain ⟨od, J, _⟩ := J.look
  obtain ⟨od', J', _⟩ := J'.look
  show wpAny (model X.prog X.w) X.A (richCompare .NotEq (.ref a) (.ref b)) (EP X pins σ Q) X.xe s
  refine EO.ne_K (tb := .ref C) (by have := hr.units; omega) I.kIn J J'.type (by simp [PySem.W.notFirst]) O.eq O.fn O.ne O.mo ?_
  refine wpAny_mono (own_call (vs := [V.ref a, V.ref b]) F hb hx hr.in1 rfl I (.cons rfl (.cons rfl .nil)) hs) (fun u s' q => ?_) fun _ _ e => e
  obtain ⟨z, H', I', rz, c, rfl, q⟩ := q
  cases rz
  exact ⟨c, rfl, ⟨.bl (!c), H', I', rfl, q⟩⟩
/-! a def that begins with «if TEST: return NotImplemented», called where TEST holds -/
structure FnNI (P : Program) (w : World) (K : PySem.W.Frag) (mg : Str → Option Value) (base : Heap) (k : Nat) (f : Addr) (fd : FuncData) (ps : List Str) (pre : List V → Hp → Prop) : Prop where
  len : ∀ vs H, pre vs H → vs.length = ps.length
  run : ∀ (A : Around) (outer : List Env) (s : Shared) (H : Hp) (args : Args) (us : List Value) (vs : List V), Room k A → Env0 P w K mg base A outer s H → BindsTo s fd args (ps.zip us) → Vals vs us → pre vs H →
    codeAny (model P w) A (.call (.ref f) args) (fun r s' => r = .ok (.ret .notImplemented) ∧ CE outer P w H s (fun v H' => v = .non ∧ Same H H') .none s') s
theorem fn_NI {P : Program} {w : World} {K : PySem.W.Frag} {mg : Str → Option Value} {base : Heap} {k : Nat} {f : Addr} {name qual : Str} {params : Arguments} {body rest : List Stmt} {tst : Expr} {p1 p2 p3 : Pos} {scope : Scope} {dV kV doc pm cdv ct oc : Value} {an od : Option Addr}
    {osl : Array (Option Value)} {N ps : List Str} {pre : List V → Hp → Prop} (lk : K.lookup f = some ⟨oc, od, .func (PySem.W.fnOf name qual params body scope dV kV doc pm an cdv ct), osl⟩) (hcd : PySem.W.codeIn K cdv qual = true) (S : FnScope N ps scope)
    (len : ∀ vs H, pre vs H → vs.length = ps.length) (hbd : body = .If tst [.Return (some (.Name "NotImplemented" p1)) p2] [] p3 :: rest)
    (hg : scope.names.lookup ("NotImplemented" : Str) = some .globalImplicit) (hm : mg "NotImplemented" = none) (hv : bootBuiltins "NotImplemented" = some .notImplemented)
    (htest : ∀ (A : Around) (outer : List Env) (s : Shared) (H : Hp) (vs : List V), Room k (A.deeper (envOfC qual scope s.heap.objs.size f cdv)) → pre vs H →
      ∃ t, PT (cxOf CX0 P w K mg base N qual scope f cdv A outer s H E0).nox tst t ∧ t (start N vs) H (fun b H1 => b = true ∧ Same H H1)) :
    FnNI P w K mg base (k + 1) f (PySem.W.fnOf name qual params body scope dV kV doc pm an cdv ct) ps pre := by
  refine ⟨len, fun A outer s H args us vs hr e0 hb r hsp => ?_⟩
  have hl := len _ _ hsp
  have KX : K.In s.heap := e0.mod.kin.keeps fun b o e => (e0.bs b o e).1
  have lim : s.heap.NoLimit := e0.mod.nolimit.keeps fun b o e => (e0.bs b o e).1
  have hkind : ∀ y ∈ ps.zip us, scope.names.lookup y.1 = some .local ∨ (scope.names.lookup y.1 = some .cell ∧ ((cellsFrom (s.heap.objs.size + 1) scope.names []).lookup y.1).isSome = true) := fun ⟨n, v⟩ hy => by
    rcases S.par n (List.of_mem_zip hy).1 with q | q
    · exact .inl q
    · exact .inr ⟨q, PySem.W.cellsFrom_some _ _ _ (.inl q)⟩
  refine codeAny_call_function hr.depth (KX _ _ lk) rfl S.co S.gen rfl (PySem.W.codeRec_of KX hcd) (hb _ _ _ _ ?_)
  refine wpAny_newFunctionEnv_cells S.kind hkind fun env he s1 x => ?_
  subst he
  refine ⟨lim.keeps x.toInCall.keep, codeAny_func ?_⟩
  obtain ⟨t, ht, hq⟩ := htest A outer s H vs (hr.deeper _) hsp
  have I : Inv (cxOf CX0 P w K mg base N qual scope f cdv A outer s H E0) [] (start N vs) H s1 := inv_start S hr.hd e0 hl r x
  subst hbd
  have run : wpAny (model P w) (cxOf CX0 P w K mg base N qual scope f cdv A outer s H E0).A (execs (.If tst [.Return (some (.Name "NotImplemented" p1)) p2] [] p3 :: rest) (cxOf CX0 P w K mg base N qual scope f cdv A outer s H E0).env)
      (fun fl s' => fl = .ret .notImplemented ∧ CE outer P w H s (fun v H' => v = .non ∧ Same H H') .none s') (fun _ _ => False) s1 := by
    refine wpAny_execs_cons (wpAny_mono (wpAny_If (wpAny_mono (ht.run [] s1 (start N vs) H (fun b H1 => b = true ∧ Same H H1) (I.wish _) hq) (fun d s2 q2 => ?_) fun _ _ z => z))
      (fun fl s' (z : fl = .ret .notImplemented ∧ CE outer P w H s (fun v H' => v = .non ∧ Same H H') .none s') => ?_) fun _ _ z => z)
    · obtain ⟨H2, I2, rfl, sm⟩ := q2
      refine wpAny_execs_cons (wpAny_mono (wpAny_Return_some (Q := fun fl s' => fl = .ret .notImplemented ∧ CE outer P w H s (fun v H' => v = .non ∧ Same H H') .none s') (ld_blt I2.unwish hg hm hv ?_)) (fun fl s' z => ?_) fun _ _ z => z)
      · exact ⟨rfl, ⟨.non, H2, I2.os, I2.bare, I2.base, I2.hok, rfl, rfl, sm⟩⟩
      · obtain ⟨rfl, z⟩ := z
        exact ⟨rfl, z⟩
    · obtain ⟨rfl, z⟩ := z
      exact ⟨rfl, z⟩
  exact wpAny_mono run (fun fl s' z => by obtain ⟨rfl, z⟩ := z; exact ⟨rfl, z⟩) fun _ _ z => z.elim
end
end L2
namespace EO
open PySem PySem.W PySem.Spec PyProof.Rows L2
open SeqAt
open AutoSeq1 (wpAny_loadPart')
section
variable {prog : Program} {w : World} {A : Around} {E : Value → Shared → Prop} {s : Shared} {K : Frag} {x C : Addr} {ox : Obj} {od : Option Obj}
theorem int_declines_ins (b : Int) (u : Tok) (l dx : Addr) : Meets (Builtin.«int.__eq__» ⟨[.int b u, .ref l], []⟩) (fun _ R s => s.heap.get? l = some (instObj C dx) ∧ R (.ok (.ret .notImplemented)) s) :=
  .of_wp fun prog w A R s h => by
    obtain ⟨hp, g, d, tk, os⟩ := s; obtain ⟨hl, h⟩ := h
    wp_walk using wpAny_loadPart' hl, wpAny_load hl
    exact ⟨_, rfl, h⟩
theorem list_declines_ins {l : Addr} {items : Array Value} {R : Result → Shared → Prop} (hl : s.heap.IsList l items) (X : K.In s.heap) (I : InstAt s.heap x ox C od) (hm : mroIn K C (.type "list") = some false) (h : R (.ok (.ret .notImplemented)) s) :
    wpAny (model prog w) A.in1 (Builtin.«list.__eq__» ⟨[.ref l, .ref x], []⟩) (fun fin s' => match fin with | .done f => R (.ok f) s' | .again c' => c'.quiet = true ∧ codeAny (model prog w) A c' R s') (fun e s' => R (.error e) s') s := by
  have hx := I.at_
  have hcl := I.cls
  obtain ⟨⟨cls, dd, data, sl⟩, ho, hc, n, hd⟩ := id hl
  simp only at hc hd
  subst hc hd
  obtain ⟨cls2, dd2, data2, sl2⟩ := ox
  simp only at hcl
  subst hcl
  obtain ⟨hp, g, d, tk, os⟩ := s
  wp_walk using wpAny_loadPart' ho, wpAny_loadPart' hx
  refine (looks_mroIn X hm).here ?_
  simp only [Bool.not_false, if_true]
  wp_walk
  exact h
theorem nf {K : Frag} {C : Addr} {T : String} {l : List Value} (h : fastBuiltinMro T = some l) (hc : l.contains (.ref C) = false) : notFirst K C (.type T) = true := by
  unfold notFirst subIn
  simp only [h, Option.map_some, hc]
  simp
theorem mro_None : fastBuiltinMro "NoneType" = some [.type "NoneType", .type "object"] := by decide +kernel
theorem mro_int : fastBuiltinMro "int" = some [.type "int", .type "object"] := by decide +kernel
theorem mro_list : fastBuiltinMro "list" = some [.type "list", .type "object"] := by decide +kernel
end
end EO
namespace L2
open PySem PySem.Spec PyProof.Rows
/-- an instance compared with None, an int, a list: its own == says NotImplemented, the other's too; so False -/
def rNI (C : Addr) (pre : List V → Hp → Prop) : R2 := fun x y H Q => ∃ a dx fs, x = .ref a ∧ H a = some (.ins C dx fs) ∧ pre [x, y] H ∧ (y = .non ∨ (∃ i, y = .int i) ∨ ∃ l xs, y = .ref l ∧ H l = some (.lst xs)) ∧ ∀ H', Same H H' → Q (.bl false) H'
theorem op_eqNI {X : Cx} {n : Nat} {C f : Addr} {fd : FuncData} {ps : List Str} {pre : List V → Hp → Prop} (O : OwnE X.K C f) (ml : PySem.W.mroIn X.K C (.type "list") = some false)
    (G : FnNI X.prog X.w X.K X.mg X.base n f fd ps pre) (hr : Room n X.A) (hb : Binds X.K fd ps []) : OpR X (compareOp .Eq) (rNI C pre) := by
  intro pins s σ H x y u v Q I rx ry h
  obtain ⟨a, dx, fs, rfl, ha, hp, hy, hQ⟩ := h
  cases rx
  obtain ⟨mA, J, _⟩ := ins_get I.hok ha
  obtain ⟨od, J, _⟩ := J.look
  show wpAny (model X.prog X.w) X.A (richCompare .Eq (.ref a) v) (EP X pins σ Q) X.xe s
  have hl := G.len _ _ hp
  have call : ∀ (T : String), PySem.W.Looks (model X.prog X.w) s.heap (typeOf v) (.type T) → PySem.W.notFirst X.K C (.type T) = true →
      (∀ s' H', Inv X pins σ H' s' → Same H H' → wpAny (model X.prog X.w) X.A (tryCompare v "__eq__" (.ref a)) (fun r s2 => r = none ∧ wpAny (model X.prog X.w) X.A (isSame (.ref a) v) (fun k s3 => k = false ∧ Inv X pins σ H' s3) X.xe s2) X.xe s') →
      wpAny (model X.prog X.w) X.A (richCompare .Eq (.ref a) v) (EP X pins σ Q) X.xe s := fun T lk nf tr => by
    refine EO.cmp_dec_K (tb := .type T) hr.units0 I.kIn J lk nf O.eq O.fn ?_
    refine wpAny_call (codeAny_mono (G.run X.A X.stack s H ⟨[.ref a, v], []⟩ [.ref a, v] [.ref a, y] hr I.env0 (by
      have := hb s [.ref a, v] I.kIn (by rw [List.append_nil, ← hl]; rfl)
      simpa using this) (.cons rfl (.cons ry .nil)) hp) fun r s' hq => ?_)
    obtain ⟨rfl, hq⟩ := hq
    obtain ⟨z, H', I', rz, ez, sm⟩ := I.after hq
    refine ⟨rfl, wpAny_mono (tr s' H' I' sm) (fun r s2 q => ⟨q.1, wpAny_mono q.2 (fun k s3 q => ?_) fun _ _ e => e⟩) fun _ _ e => e⟩
    obtain ⟨rfl, I3⟩ := q
    exact ⟨.bl false, H', I3, rfl, hQ H' sm⟩
  have at' : ∀ s' H', Inv X pins σ H' s' → Same H H' → ∃ od, PySem.W.InstAt s'.heap a (PySem.W.instObj C dx) C (some od) := fun s' H' I' sm => by
    obtain ⟨mA, J, _⟩ := ins_get I'.hok (sm _ _ ha)
    obtain ⟨od, J, _⟩ := J.look
    exact ⟨od, J⟩
  rcases hy with rfl | ⟨i, rfl⟩ | ⟨l, xs, rfl, hl'⟩
  · cases ry
    refine call "NoneType" (PySem.W.Looks.of_pure rfl) (EO.nf EO.mro_None (by simp)) fun s' H' I' sm => ?_
    exact wpAny_tryCompare_declines rfl F.slot_NoneType_eq (call_gives F.slot_NoneType_eq rfl F.entry_NoneType_eq (F.args_NoneType_eq_2 _ _) (SeqAt.NoneType___eq___none_ref_0 a)
      ⟨rfl, rfl, wpAny_of_eq (rfl : isSame (.ref a) .none = pure false) ⟨rfl, I'⟩⟩)
  · obtain ⟨t, rfl⟩ := ry
    refine call "int" (PySem.W.Looks.of_pure rfl) (EO.nf EO.mro_int (by simp)) fun s' H' I' sm => ?_
    obtain ⟨od', J'⟩ := at' s' H' I' sm
    exact wpAny_tryCompare_declines (typeIs_int s' i t) F.slot_int_eq (call_meets F.slot_int_eq (typeIs_int s' i t) F.entry_int_eq (F.args_int_eq_2 _ _) (EO.int_declines_ins (C := C) i t a dx)
      ⟨J'.at_, rfl, rfl, wpAny_of_eq (rfl : isSame (.ref a) (.int i t) = pure false) ⟨rfl, I'⟩⟩)
  · cases ry
    obtain ⟨_, its, k, r, e⟩ := I.hok l _ hl'
    refine call "list" ((PySem.W.Looks.ld (part := none) e).andThen .now) (EO.nf EO.mro_list (by simp)) fun s' H' I' sm => ?_
    obtain ⟨od', J'⟩ := at' s' H' I' sm
    obtain ⟨_, its', k', r', e'⟩ := I'.hok l _ (sm _ _ hl')
    have nal : a ≠ l := ne_of ha hl' (by intro z; cases z)
    refine wpAny_tryCompare_declines ⟨_, e', rfl⟩ F.slot_list_eq (GQ.call_here F.slot_list_eq ⟨_, e', rfl⟩ F.entry_list_eq (F.args_list_eq_2 _ _) ?_)
    exact EO.list_declines_ins (R := wants _ _) ⟨_, e', rfl, _, rfl⟩ I'.kIn J' ml ⟨rfl, rfl, SeqAt.wpAny_isSame_ref_other' nal J'.at_ e' (by show Value.type "list" ≠ Value.type "tuple"; decide) ⟨rfl, I'⟩⟩
end L2
set_option Elab.async false
set_option linter.all false
set_option maxRecDepth 100000
namespace K1
open PySem L2
/-- a def of the text, by its name -/
structure Df (K : PySem.W.Frag) (mg : Str → Option Value) (x : Str) (st : Stmt) (ps : List Str) (f : Addr) (fd : FuncData) : Prop where
  F : Fun K x x st f fd
  g : mg x = some (.ref f)
  b : Binds K fd ps []
theorem Kept.seq {K : PySem.W.Frag} {d : Addr} {H H' : Hp} {a : Addr} {xs : List V} (e : Kept d H H') (n : a ≠ d) (h : SqL K H a xs) : SqL K H' a xs := by
  rcases h with (h | ⟨o, h⟩) | h
  · exact .inl (.inl (e _ _ h n))
  · exact .inl (.inr ⟨o, e _ _ h n⟩)
  · exact .inr h
theorem Kept.seqT {K : PySem.W.Frag} {d : Addr} {H H' : Hp} {a : Addr} {xs : List V} (e : Kept d H H') (n : a ≠ d) (h : SqT K H a xs) : SqT K H' a xs := by
  rcases h with (h | ⟨o, h⟩) | h
  · exact .inl (.inl (e _ _ h n))
  · exact .inl (.inr ⟨o, e _ _ h n⟩)
  · exact .inr h
def spPickL (K : PySem.W.Frag) : Sp := fun vs H Q _ => ∃ (d c p : Addr) (n : Nat) (xs : List V), vs = [.ref d, .ref p] ∧ PenAt H d c n ∧ n ≤ 1000000 ∧ p ≠ d ∧ SqL K H p xs ∧ 0 < xs.length ∧ xs.length < 1073741824 ∧
  ∀ (x : V) (H' : Hp), x ∈ xs → PenAt H' d c (n + 1) → Kept d H H' → Q x H'
def spPickS : Sp := fun vs H Q _ => ∃ (d q : Addr) (n : Nat) (z : Str), vs = [.ref d, .str z] ∧ PenAt H d q n ∧ n ≤ 1000000 ∧ 0 < z.length ∧ z.length < 10000 ∧
  ∀ (c : Nat) (H' : Hp), c ∈ z.cps.toList → PenAt H' d q (n + 1) → Kept d H H' → Q (.str ⟨#[c]⟩) H'
section
variable {P : Program} {w : World} {K : PySem.W.Frag} {mg : Str → Option Value} {base : Heap}
theorem scPick : FnScope ["_law_pen_here", "_law_some"] ["_law_pen_here", "_law_some"] (defScope sPick) := ⟨rfl, rfl, rfl, by decide +kernel, rfl, by decide +kernel, by decide +kernel⟩
abbrev pDraw : List Str := ["_law_pen_here", "_law_many"]
abbrev pPick : List Str := ["_law_pen_here", "_law_some"]
theorem ok_pickL {f fD : Addr} {fd fdD : FuncData} (D : Df K mg "_law_pick" sPick pPick f fd) (DD : Df K mg "_law_draw" sDraw pDraw fD fdD) (T : Bt mg) : FnOk P w K mg base CX0 2 f fd pPick (spPickL K) := by
  have GD : FnOk P w K mg base CX0 1 fD fdD pDraw spDraw := ok_draw DD.F T
  refine D.F.ok scPick (fun vs H Q E h => ?_) (fun cdv A outer s H vs Q E hr h => ?_)
  · obtain ⟨d, c, p, n, xs, rfl, _⟩ := h
    rfl
  · obtain ⟨d, c, p, n, xs, rfl, hp, hn, npd, hx, h0, h1, k⟩ := h
    refine ⟨_, pss_one (ps_ret (pe_ix ix_list (pv 1) (pe_call GD hr rfl DD.g DD.F.kp DD.b .nil pass0 (pa_cons (pv 0) (pa_cons (pe_callB call_len (by rfl) T.len PySem.boot_len (pa_cons (pv 1) pa_nil)) pa_nil))) (fun _ _ => rfl))), ?_⟩
    refine ⟨_, rfl, _, rfl, _, rfl, _, xs.length, rfl, .inl ⟨_, hx, rfl⟩, d, c, n, xs.length, rfl, hp, hn, by omega, by omega, fun r H' r0 r1 hp' kp => ?_⟩
    obtain ⟨j, rfl⟩ : ∃ j : Nat, r = (j : Int) := ⟨r.toNat, by omega⟩
    have hj : j < xs.length := by omega
    exact ⟨p, xs, _, xs[j], rfl, rfl, kp.seq npd hx, atI_nat (by simp [hj]), k _ _ (List.getElem_mem _) hp' kp⟩
theorem ok_pickS {f fD : Addr} {fd fdD : FuncData} (D : Df K mg "_law_pick" sPick pPick f fd) (DD : Df K mg "_law_draw" sDraw pDraw fD fdD) (T : Bt mg) : FnOk P w K mg base CX0 2 f fd pPick spPickS := by
  have GD : FnOk P w K mg base CX0 1 fD fdD pDraw spDraw := ok_draw DD.F T
  refine D.F.ok scPick (fun vs H Q E h => ?_) (fun cdv A outer s H vs Q E hr h => ?_)
  · obtain ⟨d, q, n, z, rfl, _⟩ := h
    rfl
  · obtain ⟨d, q, n, z, rfl, hp, hn, h0, h1, k⟩ := h
    have hz : z.length ≤ sizeLine := Nat.le_trans (Nat.le_of_lt h1) (by decide)
    refine ⟨_, pss_one (ps_ret (pe_ix ix_str (pv 1) (pe_call GD hr rfl DD.g DD.F.kp DD.b .nil pass0 (pa_cons (pv 0) (pa_cons (pe_callB call_len (by rfl) T.len PySem.boot_len (pa_cons (pv 1) pa_nil)) pa_nil))) (fun _ _ => rfl))), ?_⟩
    refine ⟨_, rfl, _, rfl, _, rfl, _, z.length, rfl, ⟨hz, rfl⟩, d, q, n, z.length, rfl, hp, hn, by omega, by omega, fun r H' r0 r1 hp' kp => ?_⟩
    obtain ⟨j, rfl⟩ : ∃ j : Nat, r = (j : Int) := ⟨r.toNat, by omega⟩
    have hj : j < z.cps.toList.length := by
      have : z.length = z.cps.toList.length := by simp [Str.length]
      omega
    exact ⟨z, _, z.cps.toList[j], rfl, rfl, hz, atI_nat (by simp [hj]), k _ _ (List.getElem_mem _) hp' kp⟩
end
end K1
set_option Elab.async false
set_option linter.all false
set_option maxRecDepth 100000
namespace K1
open PySem L2
/-! the words -/
abbrev zLE : Str := "abcdefghijklmnopqrstuvwxyz"
abbrev zDG : Str := "0123456789"
def LE : List Nat := zLE.cps.toList
def AL : List Nat := LE ++ zDG.cps.toList
theorem LE_eq : LE = (List.range 26).map (· + 97) := by decide +kernel
def one (c : Nat) : Str := ⟨#[c]⟩
theorem joinL_nil : ∀ l : List (List Nat), TL.joinL [] l = l.flatten
  | [] => rfl
  | [p] => by simp [TL.joinL]
  | p :: q :: r => by rw [TL.joinL, joinL_nil (q :: r)]; simp
theorem join_ones (cs : List Nat) : (Txt.join ("" : Str) (cs.map one)).cps.toList = cs := by
  have e1 : ((cs.map one).map TL.tl).flatten = cs := by
    induction cs with
    | nil => rfl
    | cons c r ih => simp [one, TL.tl] at ih ⊢; exact ih
  have e := TL.tl_join ("" : Str) (cs.map one)
  rw [TL.join_eq]
  have e0 : TL.tl ("" : Str) = [] := by decide +kernel
  rw [e0, joinL_nil, e1] at e
  exact e
theorem sum_ones : ∀ cs : List Nat, ((cs.map one).map (·.length)).sum = cs.length
  | [] => rfl
  | c :: r => by
    have := sum_ones r
    simp only [List.map_cons, List.sum_cons, List.length_cons, this]
    show 1 + r.length = _
    omega
/-- a word as the pen makes it -/
def Wd (z : Str) : Prop := ∃ c r, z.cps.toList = c :: r ∧ c ∈ LE ∧ (∀ x ∈ r, x ∈ AL) ∧ r.length ≤ 6
theorem AL_eq : AL = (zLE ++ zDG).cps.toList := by decide +kernel
def wordAt (zF zB : Str) (a b k : Nat) : Str := zF ++ one (LE.getD ((a + b * k) % 26) 0) ++ zB
theorem tl_wordAt (zF zB : Str) (a b k : Nat) : (wordAt zF zB a b k).cps.toList = zF.cps.toList ++ (LE.getD ((a + b * k) % 26) 0 :: zB.cps.toList) := by
  unfold wordAt
  have e1 := TL.tl_append (zF ++ one (LE.getD ((a + b * k) % 26) 0)) zB
  have e2 := TL.tl_append zF (one (LE.getD ((a + b * k) % 26) 0))
  unfold TL.tl at e1 e2
  rw [e1, e2]
  simp [one]
theorem LE_len : LE.length = 26 := by decide +kernel
theorem LE_getD {i : Nat} (h : i < 26) : LE.getD i 0 = i + 97 := by
  rw [LE_eq]
  simp [h]
theorem LE_mem {i : Nat} (h : i < 26) : LE.getD i 0 ∈ LE := by
  have : i < LE.length := by rw [LE_len]; exact h
  rw [List.getD_eq_getElem?_getD, List.getElem?_eq_getElem this]
  exact List.getElem_mem _
theorem LE_AL {c : Nat} (h : c ∈ LE) : c ∈ AL := List.mem_append_left _ h
theorem wordAt_wd {zF zB : Str} {a b k : Nat} (hF : ∀ c ∈ zF.cps.toList, c ∈ LE) (lF : zF.cps.toList.length ≤ 3) (hB : ∀ c ∈ zB.cps.toList, c ∈ AL) (lB : zB.cps.toList.length ≤ 3) : Wd (wordAt zF zB a b k) := by
  unfold Wd
  rw [tl_wordAt]
  have hm := LE_mem (i := (a + b * k) % 26) (Nat.mod_lt _ (by decide))
  generalize LE.getD ((a + b * k) % 26) 0 = c at hm
  generalize zF.cps.toList = F at hF lF
  generalize zB.cps.toList = B at hB lB
  cases F with
  | nil => exact ⟨c, B, rfl, hm, hB, by omega⟩
  | cons x r =>
    simp only [List.length_cons] at lF
    refine ⟨x, r ++ c :: B, rfl, hF x (List.mem_cons_self ..), fun y hy => ?_, by simp; omega⟩
    rcases List.mem_append.mp hy with h | h
    · exact LE_AL (hF y (List.mem_cons_of_mem _ h))
    · rcases List.mem_cons.mp h with rfl | h
      · exact LE_AL hm
      · exact hB y h
theorem step_inj {a b i j : Nat} (hb : b = 1 ∨ b = 3 ∨ b = 5 ∨ b = 7 ∨ b = 9 ∨ b = 11) (hi : i < 26) (hj : j < 26) (h : (a + b * i) % 26 = (a + b * j) % 26) : i = j := by
  rcases hb with rfl | rfl | rfl | rfl | rfl | rfl <;> omega
theorem wordAt_inj {zF zB : Str} {a b i j : Nat} (hb : b = 1 ∨ b = 3 ∨ b = 5 ∨ b = 7 ∨ b = 9 ∨ b = 11) (hi : i < 26) (hj : j < 26) (h : wordAt zF zB a b i = wordAt zF zB a b j) : i = j := by
  have e := congrArg (fun z : Str => z.cps.toList) h
  simp only [tl_wordAt] at e
  have e2 := List.append_cancel_left e
  injection e2 with e3 _
  rw [LE_getD (Nat.mod_lt _ (by decide)), LE_getD (Nat.mod_lt _ (by decide))] at e3
  exact step_inj (a := a) hb hi hj (by omega)
theorem words_nodup {zF zB : Str} {a b : Nat} (hb : b = 1 ∨ b = 3 ∨ b = 5 ∨ b = 7 ∨ b = 9 ∨ b = 11) : ∀ m, m ≤ 26 → ((List.range m).map (wordAt zF zB a b)).Nodup := fun m hm => by
  rw [List.nodup_iff_pairwise_ne, List.pairwise_map]
  refine List.Pairwise.imp_of_mem ?_ (List.nodup_iff_pairwise_ne.mp List.nodup_range)
  intro i j hi hj hne h
  exact hne (wordAt_inj hb (Nat.lt_of_lt_of_le (List.mem_range.mp hi) hm) (Nat.lt_of_lt_of_le (List.mem_range.mp hj) hm) h)
theorem one_len (c : Nat) : (one c).length = 1 := rfl
theorem len_tl (z : Str) : z.length = z.cps.toList.length := by simp [Str.length]
/-- words: many new words, no two equal -/
def spWords (K : PySem.W.Frag) : Sp := fun vs H Q _ => ∃ (d c : Addr) (n m : Nat), vs = [.ref d, .int (m : Int)] ∧ PenAt H d c n ∧ n ≤ 900000 ∧ m ≤ 26 ∧
  ∀ (p : Addr) (ws : List Str) (H' : Hp), H p = none → H' p = some (.lst (ws.map V.str)) → ws.length = m → ws.Nodup → (∀ z ∈ ws, Wd z) → (∃ k, ∀ z ∈ ws, z.cps.toList.length = k) → PenAt H' d c (n + 20) → Kept d H H' → Q (.ref p) H'
section
variable {P : Program} {w : World} {K : PySem.W.Frag} {mg : Str → Option Value} {base : Heap}
abbrev nWords : List Str := ["_law_pen_here", "_law_many", "_law_letters", "_law_front", "_law_back", "_law_first", "_law_step", "_law_k"]
theorem scWords : FnScope nWords ["_law_pen_here", "_law_many"] (defScope sWords) := ⟨rfl, rfl, rfl, by decide +kernel, rfl, by decide +kernel, by decide +kernel⟩
theorem ok_words {f fD fP : Addr} {fd fdD fdP : FuncData} (D : Df K mg "_law_words" sWords pDraw f fd) (DD : Df K mg "_law_draw" sDraw pDraw fD fdD) (DP : Df K mg "_law_pick" sPick pPick fP fdP) (T : Bt mg) : FnOk P w K mg base CX0 3 f fd pDraw (spWords K) := by
  have GD : FnOk P w K mg base CX0 1 fD fdD pDraw spDraw := ok_draw DD.F T
  have GS : FnOk P w K mg base CX0 2 fP fdP pPick spPickS := ok_pickS DP DD T
  refine D.F.ok scWords (fun vs H Q E h => ?_) (fun cdv A outer s H vs Q E hr h => ?_)
  · obtain ⟨d, c, n, m, rfl, _⟩ := h
    rfl
  · obtain ⟨d, q, n, m, rfl, hp, hn, hm, k⟩ := h
    have hr1 : Room 1 _ := hr.mono (by decide)
    refine ⟨_, pss_cons (ps_set (i := 2) scWords.nd rfl (Or.inr rfl) pe_str)
      (pss_cons (ps_set (i := 3) scWords.nd rfl (Or.inr rfl) (pe_join pe_str (pe_lc (own := [("_law_k", 7)]) (g := gName 7) (by rfl) scWords.nd
        (pi_range1 rfl T.range (pa_cons (pe_call GD hr1 rfl DD.g DD.F.kp DD.b .nil pass0 (pa_cons (pv 0) (pa_cons pe_int pa_nil))) pa_nil))
        (blkOk_by (own := [("_law_k", 7)]) (N := nWords) (sc := defScope sWords) (by decide +kernel)) (fun _ _ _ _ _ => pg_name (i := 7) scWords.nd rfl (Or.inl rfl)) (fun _ _ _ _ _ => pts_nil)
        (fun _ _ _ _ _ => pe_call GS hr rfl DP.g DP.F.kp DP.b .nil pass0 (pa_cons (pv 0) (pa_cons (pv 2) pa_nil))))))
      (pss_cons (ps_set (i := 4) scWords.nd rfl (Or.inr rfl) (pe_join pe_str (pe_lc (own := [("_law_k", 7)]) (g := gName 7) (by rfl) scWords.nd
        (pi_range1 rfl T.range (pa_cons (pe_call GD hr1 rfl DD.g DD.F.kp DD.b .nil pass0 (pa_cons (pv 0) (pa_cons pe_int pa_nil))) pa_nil))
        (blkOk_by (own := [("_law_k", 7)]) (N := nWords) (sc := defScope sWords) (by decide +kernel)) (fun _ _ _ _ _ => pg_name (i := 7) scWords.nd rfl (Or.inl rfl)) (fun _ _ _ _ _ => pts_nil)
        (fun _ _ _ _ _ => pe_call GS hr rfl DP.g DP.F.kp DP.b .nil pass0 (pa_cons (pv 0) (pa_cons (pe_op op_add_str (pv 2) pe_str) pa_nil))))))
      (pss_cons (ps_asg (pe_tup (pa_cons (pe_call GD hr1 rfl DD.g DD.F.kp DD.b .nil pass0 (pa_cons (pv 0) (pa_cons pe_int pa_nil)))
          (pa_cons (pe_ix ix_list (pe_lst (pa_cons pe_int (pa_cons pe_int (pa_cons pe_int (pa_cons pe_int (pa_cons pe_int (pa_cons pe_int pa_nil))))))) (pe_call GD hr1 rfl DD.g DD.F.kp DD.b .nil pass0 (pa_cons (pv 0) (pa_cons pe_int pa_nil))) (fun _ _ => rfl)) pa_nil)))
          (pg_tup (by rfl) (pgs_cons (pg_name (i := 5) scWords.nd rfl (Or.inr rfl)) (pgs_cons (pg_name (i := 6) scWords.nd rfl (Or.inr rfl)) pgs_nil))))
      (pss_one (ps_ret (pe_lc (own := [("_law_k", 7)]) (g := gName 7) (by rfl) scWords.nd
        (pi_range1 rfl T.range (pa_cons (pv 1) pa_nil))
        (blkOk_by (own := [("_law_k", 7)]) (N := nWords) (sc := defScope sWords) (by decide +kernel)) (fun _ _ _ _ _ => pg_name (i := 7) scWords.nd rfl (Or.inl rfl)) (fun _ _ _ _ _ => pts_nil)
        (fun _ _ _ _ _ => pe_op op_add_str (pe_op op_add_str (pv 3) (pe_ix ix_str (pv 2) (pe_op op_modN (pe_callTy call_int1 (by rfl) T.int (by decide +kernel) (pa_cons (pe_op op_add (pv 5) (pe_op op_mul (pv 6) (pv 7))) pa_nil)) pe_int) (fun _ _ => rfl))) (pv 4)))))))), ?_⟩
    -- front
    refine ⟨⟨_, rfl⟩, _, rfl, d, q, n, 4, rfl, hp, by omega, by decide, by decide, fun r H1 r0 r1 hp1 kp1 => ⟨r, rfl, by omega, by omega, fun D1 hD1 => ?_⟩⟩
    obtain ⟨j, rfl⟩ : ∃ j : Nat, r = (j : Int) := ⟨r.toNat, by omega⟩
    rw [Int.toNat_natCast]
    have zD1 : H D1 = none := kp1.free hp1 hD1
    obtain ⟨nDd, nDq⟩ := hp.ne zD1
    refine lc_range (lo := 0) (n := j) (fun i H' => ∃ cs : List Nat, cs.length = i ∧ (∀ c ∈ cs, c ∈ LE) ∧ H' D1 = some (.lst ((cs.map one).map V.str)) ∧ PenAt H' d q (n + 1 + i) ∧ Kept d H H') ?_ ?_ ?_
    · exact ⟨[], rfl, by simp, upd_same, hp1.upd nDd nDq, kp1.upd zD1⟩
    · rintro i H2 hi ⟨cs, hcs, hc, hD, hp2, kp2⟩
      refine ⟨rfl, _, rfl, _, rfl, d, q, _, zLE, rfl, hp2, by omega, by decide +kernel, by decide +kernel, fun c H3 hcm hp3 kp3 => ?_⟩
      have hD3 := kp3 _ _ hD nDd
      refine ⟨_, hD3, ?_, cs ++ [c], by simp [hcs], ?_, ?_, ?_, ?_⟩
      · simp; exact small1000 (by omega)
      · intro x hx
        rcases List.mem_append.mp hx with h | h
        · exact hc x h
        · rw [List.mem_singleton.mp h]; exact hcm
      · rw [upd_same]; simp [one]
      · exact (hp3.upd nDd nDq).mono (by omega)
      · exact (kp2.trans kp3).upd zD1
    · rintro H2 ⟨F, hF, hFm, hD, hp2, kp2⟩
      clear hp1 kp1 hD1
      refine ⟨_, D1, F.map one, rfl, rfl, .inl (SqL.of hD), ?_, ?_⟩
      · rw [sum_ones, List.length_map]
        show F.length + F.length * 0 ≤ 16777216
        omega
      have eF := join_ones F
      generalize Txt.join ("" : Str) (F.map one) = zF at eF ⊢
      -- back
      refine ⟨⟨_, rfl⟩, _, rfl, d, q, _, 4, rfl, hp2, by omega, by decide, by decide, fun r H3 s0 s1 hp3 kp3 => ⟨r, rfl, by omega, by omega, fun D2 hD2 => ?_⟩⟩
      obtain ⟨j', rfl⟩ : ∃ j' : Nat, r = (j' : Int) := ⟨r.toNat, by omega⟩
      rw [Int.toNat_natCast]
      have zD2 : H D2 = none := (kp2.trans kp3).free hp3 hD2
      obtain ⟨mDd, mDq⟩ := hp.ne zD2
      refine lc_range (lo := 0) (n := j') (fun i H' => ∃ cs : List Nat, cs.length = i ∧ (∀ c ∈ cs, c ∈ AL) ∧ H' D2 = some (.lst ((cs.map one).map V.str)) ∧ PenAt H' d q (n + 5 + i) ∧ Kept d H H') ?_ ?_ ?_
      · exact ⟨[], rfl, by simp, upd_same, (hp3.upd mDd mDq).mono (by omega), (kp2.trans kp3).upd zD2⟩
      · rintro i H4 hi ⟨cs, hcs, hc, hD', hp4, kp4⟩
        refine ⟨rfl, _, rfl, _, rfl, _, _, rfl, rfl, by decide +kernel, d, q, _, zLE ++ zDG, rfl, hp4, by omega, by decide +kernel, by decide +kernel, fun c H5 hcm hp5 kp5 => ?_⟩
        have hD5 := kp5 _ _ hD' mDd
        refine ⟨_, hD5, ?_, cs ++ [c], by simp [hcs], ?_, ?_, ?_, ?_⟩
        · simp; exact small1000 (by omega)
        · intro x hx
          rcases List.mem_append.mp hx with h | h
          · exact hc x h
          · rw [List.mem_singleton.mp h, AL_eq]; exact hcm
        · rw [upd_same]; simp [one]
        · exact (hp5.upd mDd mDq).mono (by omega)
        · exact (kp4.trans kp5).upd zD2
      · rintro H4 ⟨B, hB, hBm, hD', hp4, kp4⟩
        clear hp3 kp3 hD2
        refine ⟨_, D2, B.map one, rfl, rfl, .inl (SqL.of hD'), ?_, ?_⟩
        · rw [sum_ones, List.length_map]
          show B.length + B.length * 0 ≤ 16777216
          omega
        have eB := join_ones B
        generalize Txt.join ("" : Str) (B.map one) = zB at eB ⊢
        -- first, step
        refine ⟨_, rfl, d, q, _, 26, rfl, hp4, by omega, by decide, by decide, fun a H5 a0 a1 hp5 kp5 => ?_⟩
        refine ⟨by decide, fun l hl => ?_⟩
        have zl : H l = none := (kp4.trans kp5).free hp5 hl
        obtain ⟨nld, nlq⟩ := hp.ne zl
        refine ⟨_, rfl, d, q, _, 6, rfl, hp5.upd nld nlq, by omega, by decide, by decide, fun b H6 b0 b1 hp6 kp6 => ?_⟩
        obtain ⟨a, rfl⟩ : ∃ j : Nat, a = (j : Int) := ⟨a.toNat, by omega⟩
        obtain ⟨b, rfl⟩ : ∃ j : Nat, b = (j : Int) := ⟨b.toNat, by omega⟩
        have hl6 := kp6 l _ upd_same nld
        obtain ⟨st, hst, hst2⟩ : ∃ st : Nat, ([V.int 1, V.int 3, V.int 5, V.int 7, V.int 9, V.int 11] : List V)[b]? = some (.int (st : Int)) ∧ (st = 1 ∨ st = 3 ∨ st = 5 ∨ st = 7 ∨ st = 9 ∨ st = 11) := by
          have : b < 6 := by omega
          rcases b with _ | _ | _ | _ | _ | _ | b
          · exact ⟨1, rfl, by simp⟩
          · exact ⟨3, rfl, by simp⟩
          · exact ⟨5, rfl, by simp⟩
          · exact ⟨7, rfl, by simp⟩
          · exact ⟨9, rfl, by simp⟩
          · exact ⟨11, rfl, by simp⟩
          · omega
        refine ⟨l, _, _, _, rfl, rfl, SqL.of hl6, atI_nat hst, ?_⟩
        refine ⟨by show 2 ≤ sizeLine; decide, fun t ht => ?_⟩
        refine ⟨t, _, rfl, SqT.of upd_same, rfl, ?_⟩
        have hp7 : PenAt (upd H6 t (.tup [V.int (a : Int), V.int (st : Int)])) d q (n + 20) := (hp6.same (same_upd ht)).mono (by omega)
        have kp7 : Kept d H (upd H6 t (.tup [V.int (a : Int), V.int (st : Int)])) := (((kp4.trans kp5).upd zl).trans kp6).trans (.same (same_upd ht))
        generalize upd H6 t (.tup [V.int (a : Int), V.int (st : Int)]) = H7 at hp7 kp7 ⊢
        refine ⟨_, _, rfl, _, _, rfl, rfl, ?_⟩
        -- the words
        refine ⟨_, rfl, (m : Int), rfl, by omega, by omega, fun D3 hD3 => ?_⟩
        rw [Int.toNat_natCast]
        have zD3 : H D3 = none := kp7.free hp7 hD3
        obtain ⟨oDd, oDq⟩ := hp.ne zD3
        have lzF : zF.length ≤ 3 := by rw [len_tl, eF, hF]; omega
        have lzB : zB.length ≤ 3 := by rw [len_tl, eB, hB]; omega
        refine lc_range (lo := 0) (n := m) (fun i H' => H' D3 = some (.lst (((List.range i).map (wordAt zF zB a st)).map V.str)) ∧ PenAt H' d q (n + 20) ∧ Kept d H H') ?_ ?_ ?_
        · exact ⟨upd_same, hp7.upd oDd oDq, kp7.upd zD3⟩
        · rintro i H8 hi ⟨hD8, hp8, kp8⟩
          have hi26 : i < 26 := by omega
          refine ⟨rfl, _, rfl, _, rfl, _, rfl, _, rfl, _, rfl, _, _, rfl, rfl, .inl ⟨by omega, by omega⟩, _, _, rfl, rfl, .inl ⟨_, rfl, ?_⟩⟩
          refine ⟨_, _, rfl, rfl, by show (26 : Int) ≠ 0; decide, ?_⟩
          have ei : ((a : Int) + (st : Int) * (0 + (i : Int))).fmod 26 = (((a + st * i) % 26 : Nat) : Int) := by
            rw [Int.fmod_eq_emod_of_nonneg _ (by decide)]
            simp
          have hlt : (a + st * i) % 26 < 26 := Nat.mod_lt _ (by decide)
          refine ⟨zLE, _, LE.getD ((a + st * i) % 26) 0, rfl, rfl, by decide +kernel, ?_, _, _, rfl, rfl, ?_, _, rfl, _, _, rfl, rfl, ?_, _, hD8, ?_, ?_, ?_, ?_⟩
          · show atI LE (((a : Int) + (st : Int) * (0 + (i : Int))).fmod 26) = _
            rw [ei]
            refine atI_nat ?_
            show LE[(a + st * i) % 26]? = _
            have : (a + st * i) % 26 < LE.length := by rw [LE_len]; exact hlt
            rw [List.getD_eq_getElem?_getD, List.getElem?_eq_getElem this]
            rfl
          · show zF.length + 1 ≤ sizeLine
            exact Nat.le_trans (by omega : zF.length + 1 ≤ 100) (by decide)
          · have e1 : (zF ++ (⟨#[LE.getD ((a + st * i) % 26) 0]⟩ : Str)).length = zF.length + 1 := by
              rw [len_tl, len_tl]
              have := TL.tl_append zF (⟨#[LE.getD ((a + st * i) % 26) 0]⟩ : Str)
              unfold TL.tl at this
              rw [this]
              simp
            rw [e1]
            exact Nat.le_trans (by omega : zF.length + 1 + zB.length ≤ 100) (by decide)
          · simp; exact small1000 (by omega)
          · rw [upd_same, List.range_succ]
            simp [wordAt, one]
          · exact hp8.upd oDd oDq
          · exact kp8.upd zD3
        · rintro H8 ⟨hD8, hp8, kp8⟩
          refine k D3 _ H8 zD3 hD8 (by simp) (words_nodup hst2 m hm) (fun z hz => ?_) ⟨zF.cps.toList.length + 1 + zB.cps.toList.length, fun z hz => by
            obtain ⟨i, _, rfl⟩ := List.mem_map.mp hz
            rw [tl_wordAt]; simp; omega⟩ hp8 kp8
          obtain ⟨i, _, rfl⟩ := List.mem_map.mp hz
          refine wordAt_wd (fun c hc => hFm c (eF ▸ hc)) (by rw [eF, hF]; omega) (fun c hc => hBm c (eB ▸ hc)) (by rw [eB, hB]; omega)
end
end K1
set_option Elab.async false
set_option linter.all false
set_option maxRecDepth 100000
/-! tuples whose object is known to have no dict: their methods can be called -/
namespace L2
open PySem PySem.Spec PyProof.Rows
def SqF (H : Hp) (a : Addr) (xs : List V) : Prop := ∃ o, H a = some (.frz o (.tup xs)) ∧ o.dict = none
theorem SqF.sq {K : PySem.W.Frag} {H : Hp} {a : Addr} {xs : List V} (h : SqF H a xs) : SqT K H a xs := by
  obtain ⟨o, h, _⟩ := h
  exact .inl (.inr ⟨o, h⟩)
section
variable {X : Cx}
/-- tuple(xs): a new tuple, known to be one that was made -/
def rTuF (K : PySem.W.Frag) : List V → Hp → VK → Prop := fun xs H Q => ∃ p ys, xs = [.ref p] ∧ ((SqL K H p ys ∧ ∀ l o, H l = none → o.dict = none → Q (.ref l) (upd H l (.frz o (.tup ys)))) ∨ (SqT K H p ys ∧ Q (.ref p) H))
theorem call_tuple_F : CallR X (.type "tuple") (rTuF X.K) := by
  intro pins s σ H xs us Q I r h
  obtain ⟨p, ys, rfl, h⟩ := h
  obtain ⟨u, rfl, rx⟩ := vals1 r
  cases rx
  rcases h with ⟨hq, q⟩ | ⟨hq, q⟩
  · obtain ⟨its, r', pl, hz⟩ := I.list hq
    have hlen := r'.length
    refine call_tuple_list pl.isList (fun h' kp => ?_) (by simp only [List.size_toArray] <;> omega)
    have I1 : Inv X pins σ H { s with heap := h' } := I.kept (t' := s.toks) kp
    have I2 : Inv X pins σ (upd H h'.objs.size (.frz { cls := .type "tuple", data := .seq its.toArray } (.tup ys))) { s with heap := h'.push { cls := .type "tuple", data := .seq its.toArray } } :=
      I1.laid (t' := s.toks) (fun b o e => Heap.get?_push_of_some _ e) (Nat.le_refl _) (show ObjOk X.prog X.w _ _ _ (.frz _ (.tup ys)) from ⟨Heap.get?_push_size _ rfl, hz, its, r', IsTup.new _ _⟩)
    exact ⟨.ref h'.objs.size, _, I2, rfl, q _ _ (I1.hok.fresh (Nat.le_refl _)) rfl⟩
  · obtain ⟨its, r', pl, hz⟩ := I.tuple hq
    exact call_tuple_same pl ⟨.ref p, H, I, rfl, q⟩
def tBMF (r : V → List V → Hp → VK → Prop) (to : TE) (t : TA) : TE := fun σ H Q => to σ H fun x H1 => (∃ p xs, x = .ref p ∧ SqF H1 p xs) ∧ t σ H1 fun xs H2 => r x xs H2 Q
theorem pe_bmF {o e : Expr} {es : List Expr} {to : TE} {t : TA} {name : Str} {apos cpos : Pos} {id : String} {r : V → List V → Hp → VK → Prop}
    (slot : Slot "tuple" name id) (hty : typeOf (.builtin id) = pure (.type "method_descriptor")) (hm : MtR X id r) (ho : PE X o to) (ha : PA X (e :: es) t)
    (hbase : attributeBase o name X.env (eval o X.env) = eval o X.env := by rfl)
    (hfew : ((backTo cpos (starEach (e :: es) X.env)).all (fun x => !x.1) && (backToKw cpos (keywordEach [] X.env)).all (fun x => x.1.isSome)
      && decide ((e :: es).length + ([] : List Keyword).length + (if ([] : List Keyword).isEmpty then 0 else 1) < 30)) = true := by rfl)
    (hline : (apos.endLine == cpos.line) = true := by rfl) (hs : starEach (e :: es) X.env = (false, eval e X.env) :: starEach es X.env := by rfl) (hplain : (backTo cpos (starEach es X.env)).any (·.1) = false := by rfl) :
    PE X (.Call (.Attribute o name apos) (e :: es) [] cpos) (tBMF r to t) := by
  refine ⟨fun pins s σ H Q I h => ?_⟩
  refine wpAny_Call_method_late hbase hfew hline rfl (thn (ho.run pins s σ H _ I h) fun v s1 ⟨x, H1, I1, r1, ⟨p, ys, ex, fz⟩, q1⟩ => ?_)
  subst ex
  cases (show v = Value.ref p from r1)
  obtain ⟨ob, hF, hd⟩ := fz
  obtain ⟨hg, _, its, _, o2, ho2, hc2, _⟩ := I1.hok p _ hF
  rw [hg] at ho2
  cases ho2
  refine ⟨"tuple", id, PySem.F.plainAttrs_tuple, slot, hty, ⟨ob, hg, hc2⟩, fun a ea => by cases ea; exact ⟨ob, hg, hd⟩, ?_⟩
  have hA := ha.run cpos pins s1 σ H1 _ I1 q1
  rw [hs] at hA ⊢
  refine Calls.callWith_builtin (by show (false || (backTo cpos (starEach es X.env)).any (·.1)) = false; rw [hplain] <;> rfl) (Calls.evalArgs_plain ?_)
  exact thn hA fun us s2 ⟨vs, H2, I2, r2, q2⟩ => hm pins s2 σ H2 (.ref p) vs (.ref p) us Q I2 r1 r2 q2
end
theorem SqF.same {H H' : Hp} {a : Addr} {xs : List V} (h : SqF H a xs) (s : Same H H') : SqF H' a xs := by
  obtain ⟨o, h, e⟩ := h
  exact ⟨o, s _ _ h, e⟩
theorem SqF.upd {H : Hp} {a D : Addr} {o : HO} {xs : List V} (h : SqF H a xs) (n : a ≠ D) : SqF (upd H D o) a xs := by
  obtain ⟨o, h, e⟩ := h
  exact ⟨o, by rw [upd_ne n]; exact h, e⟩
end L2
namespace K1
open PySem L2
theorem Kept.seqF {d : Addr} {H H' : Hp} {a : Addr} {xs : List V} (k : Kept d H H') {u : HO} (hd : H d = some u) (n : ∀ o ys, u ≠ .frz o (.tup ys)) (h : SqF H a xs) : SqF H' a xs := by
  obtain ⟨o, h, e⟩ := h
  exact ⟨o, k _ _ h (fun z => by rw [z, hd] at h; cases h; exact n _ _ rfl), e⟩
end K1
set_option Elab.async false
set_option linter.all false
set_option maxRecDepth 100000
namespace K1
open PySem L2
abbrev sPlain : Stmt := top 45
def valOf : Stmt → Expr
  | .Assign _ v _ => v
  | .Return (some v) _ => v
  | _ => .Constant .none 0 ⟨0, 0, 0, 0⟩
def compScope : Expr → Scope
  | .ListComp _ _ sc _ => sc
  | _ => { kind := .function, names := [], isGenerator := false, isCoroutine := false }
def eltOf : Expr → Expr
  | .ListComp e _ _ _ => e
  | e => e
def stOf (s : Stmt) (i : Nat) : Stmt := (defBody s).getD i (.Pass ⟨0, 0, 0, 0⟩)
def spPen (K : PySem.W.Frag) : Sp := fun vs H Q _ => ∃ (a : Addr) (ns : List Int), vs = [.ref a] ∧ SqL K H a (ns.map V.int) ∧ ns.length ≤ 63 ∧
  ∀ (d c : Addr) (H' : Hp), H d = none → H c = none → PenAt H' d c 0 → Same H H' → Q (.ref d) H'
abbrev kDeeds : Key := Sum.inr "deeds"
abbrev kRows : Key := Sum.inr "rows"
abbrev kTells : Key := Sum.inr "tells"
abbrev kStart : Key := Sum.inr "start"
def plainK (t r l : Addr) (s : Int) : List (Key × V) := [(kDeeds, .ref t), (kRows, .ref r), (kTells, .ref l), (kStart, .int s)]
/-- lists of ints at the addresses as, row by row -/
def RowsAt (H : Hp) (as : List Addr) (rs : List (List Int)) : Prop := as.length = rs.length ∧ ∀ (i : Nat) (a : Addr) (r : List Int), as[i]? = some a → rs[i]? = some r → H a = some (.lst (r.map V.int))
structure PlainAt (H : Hp) (p : Addr) (ws : List Str) (rs : List (List Int)) (ss : List Str) (st : Int) : Prop where
  ex : ∃ (t r l : Addr) (as : List Addr), H p = some (.dK (plainK t r l st)) ∧ SqF H t (ws.map V.str) ∧ H r = some (.lst (as.map V.ref)) ∧ H l = some (.lst (ss.map V.str)) ∧ RowsAt H as rs
/-- a machine's parts as they must be -/
structure GoodP (ws : List Str) (rs : List (List Int)) (ss : List Str) (st : Int) (tells : List Str) : Prop where
  many : 1 ≤ rs.length ∧ rs.length ≤ 12
  row : ∀ r ∈ rs, r.length = ws.length ∧ ∀ x ∈ r, 0 ≤ x ∧ x < rs.length
  tl : ss.length = rs.length ∧ ∀ z ∈ ss, z ∈ tells
  st : 0 ≤ st ∧ st < rs.length
def spPlain (K : PySem.W.Frag) : Sp := fun vs H Q _ => ∃ (d c dl tl : Addr) (n : Nat) (m : Int) (ws ts : List Str), vs = [.ref d, .ref dl, .int m, .ref tl] ∧ PenAt H d c n ∧ n ≤ 800000 ∧ SqL K H dl (ws.map V.str) ∧ dl ≠ d ∧ ws.length ≤ 26 ∧
  SqL K H tl (ts.map V.str) ∧ tl ≠ d ∧ 0 < ts.length ∧ ts.length ≤ 10 ∧ 1 ≤ m ∧ m ≤ 12 ∧
  ∀ (p : Addr) (rs : List (List Int)) (ss : List Str) (st : Int) (H' : Hp), H p = none → PlainAt H' p ws rs ss st → GoodP ws rs ss st ts → PenAt H' d c (n + 400) → Kept d H H' → Q (.ref p) H'
theorem plainK_merge (t r l : Addr) (s : Int) : mergeK [] (plainK t r l s) = plainK t r l s := by
  have h1 : ¬ (("deeds" : Str) = "rows") := by decide +kernel
  have h2 : ¬ (("deeds" : Str) = "tells") := by decide +kernel
  have h3 : ¬ (("deeds" : Str) = "start") := by decide +kernel
  have h4 : ¬ (("rows" : Str) = "tells") := by decide +kernel
  have h5 : ¬ (("rows" : Str) = "start") := by decide +kernel
  have h6 : ¬ (("tells" : Str) = "start") := by decide +kernel
  unfold mergeK plainK putK
  simp [h1, h2, h3, h4, h5, h6]
theorem RowsAt.kept {d : Addr} {H H' : Hp} {as : List Addr} {rs : List (List Int)} (h : RowsAt H as rs) (k : Kept d H H') (nd : ∀ a ∈ as, a ≠ d) : RowsAt H' as rs :=
  ⟨h.1, fun i a r e1 e2 => k _ _ (h.2 i a r e1 e2) (nd a (List.mem_of_getElem? e1))⟩
theorem RowsAt.snoc {H : Hp} {as : List Addr} {rs : List (List Int)} {a : Addr} {r : List Int} (h : RowsAt H as rs) (e : H a = some (.lst (r.map V.int))) : RowsAt H (as ++ [a]) (rs ++ [r]) := by
  refine ⟨by simp [h.1], fun i b q e1 e2 => ?_⟩
  by_cases hi : i < as.length
  · rw [List.getElem?_append_left hi] at e1
    rw [List.getElem?_append_left (by rw [← h.1]; exact hi)] at e2
    exact h.2 i b q e1 e2
  · rw [List.getElem?_append_right (by omega)] at e1
    rw [List.getElem?_append_right (by rw [← h.1]; omega), ← h.1] at e2
    cases hj : i - as.length with
    | zero =>
      rw [hj] at e1 e2
      simp at e1 e2
      rw [← e1, ← e2]; exact e
    | succ j => rw [hj] at e1; simp at e1
section
variable {P : Program} {w : World} {K : PySem.W.Frag} {mg : Str → Option Value} {base : Heap}
theorem scPen : FnScope ["_law_script"] ["_law_script"] (defScope sPen) := ⟨rfl, rfl, rfl, by decide +kernel, rfl, by decide +kernel, by decide +kernel⟩
theorem cut63 {xs : List V} (h : xs.length ≤ 63) : cutV xs none (some 63) = xs := by
  have e : HT.sIx xs.length xs.length (some 63) = min 63 xs.length := HT.sIx_nat xs.length xs.length 63
  unfold cutV
  rw [HT.sIx_none, e, Nat.min_eq_right h]
  simp
theorem ok_pen {f : Addr} {fd : FuncData} (D : Df K mg "_law_pen" sPen ["_law_script"] f fd) (T : Bt mg) : FnOk P w K mg base CX0 1 f fd ["_law_script"] (spPen K) := by
  refine D.F.ok scPen (fun vs H Q E h => ?_) (fun cdv A outer s H vs Q E hr h => ?_)
  · obtain ⟨a, ns, rfl, _⟩ := h
    rfl
  · obtain ⟨a, ns, rfl, ha, hl, k⟩ := h
    refine ⟨_, pss_one (ps_ret (pe_disp (pps_cons pe_str (pe_callTy call_list_of (by rfl) T.list (by decide +kernel) (pa_cons (pe_slice sl_list (pv 0) po_none (po_some pe_int)) pa_nil))
      (pps_cons pe_str pe_int (pps_cons pe_str pe_int pps_nil))) (by rfl) (by rfl) (fun z => by cases z) (by decide))), ?_⟩
    intro p hp
    have ha1 := (same_upd (o := .dK []) hp).seq ha
    refine ⟨_, rfl, 63, rfl, a, _, rfl, ha1, fun q hq => ?_⟩
    rw [cut63 (by simpa using hl)]
    refine ⟨q, _, rfl, .inl (SqL.of upd_same), fun c hc => ?_⟩
    have npq : p ≠ q := by intro z; rw [z, upd_same] at hq; cases hq
    have nqp := npq.symm
    have zq : H q = none := by rw [upd_ne nqp] at hq; exact hq
    have npc : p ≠ c := by
      intro z; rw [z] at npq; rw [← z, upd_ne (by rw [z]; exact npq), upd_same] at hc; cases hc
    have nqc : q ≠ c := by intro z; rw [← z, upd_same] at hc; cases hc
    have zc : H c = none := by rw [upd_ne nqc.symm, upd_ne npc.symm] at hc; exact hc
    refine ⟨by rw [upd_ne npc, upd_ne npq, upd_same], penK c 0 0, rfl, by show 3 ≤ 15; decide, ?_⟩
    have em : mergeK [] (penK c 0 0) = penK c 0 0 := by
      have h1 : ¬ (("cells" : Str) = "at") := by decide +kernel
      have h2 : ¬ (("cells" : Str) = "left") := by decide +kernel
      have h3 : ¬ (("at" : Str) = "left") := by decide +kernel
      unfold mergeK penK putK
      simp [h1, h2, h3]
    rw [em]
    refine k p c _ hp zc ⟨ns, 0, 0, upd_same, ?_, hl, by decide, by decide⟩ ?_
    · rw [upd_ne npc.symm, upd_same]
    · intro b o e
      rw [upd_ne (ne_of_none e hp), upd_ne (ne_of_none e zc), upd_ne (ne_of_none e zq), upd_ne (ne_of_none e hp)]
      exact e
abbrev nPlain : List Str := ["_law_pen_here", "_law_deeds", "_law_most", "_law_tells", "_law_many", "_law_rows", "_law_told", "_law_spot", "_law_deed"]
abbrev pPlain : List Str := ["_law_pen_here", "_law_deeds", "_law_most", "_law_tells"]
theorem scPlain : FnScope nPlain pPlain (defScope sPlain) := ⟨rfl, rfl, rfl, by decide +kernel, rfl, by decide +kernel, by decide +kernel⟩
abbrev scO : Scope := compScope (valOf (stOf sPlain 1))
theorem ok_plain {f fD fP : Addr} {fd fdD fdP : FuncData} (D : Df K mg "_law_plain" sPlain pPlain f fd) (DD : Df K mg "_law_draw" sDraw pDraw fD fdD) (DP : Df K mg "_law_pick" sPick pPick fP fdP) (T : Bt mg) : FnOk P w K mg base CX0 3 f fd pPlain (spPlain K) := by
  have GD : FnOk P w K mg base CX0 1 fD fdD pDraw spDraw := ok_draw DD.F T
  have GL : FnOk P w K mg base CX0 2 fP fdP pPick (spPickL K) := ok_pickL DP DD T
  refine D.F.ok scPlain (fun vs H Q E h => ?_) (fun cdv A outer s H vs Q E hr h => ?_)
  · obtain ⟨d, c, dl, tl, n, m, ws, ts, rfl, _⟩ := h
    rfl
  · obtain ⟨d, c, dl, tl, n, m, ws, ts, rfl, hp, hn, hdl, ndl, hws, htl, ntl, ht0, ht1, hm0, hm1, k⟩ := h
    have hr1 : Room 1 _ := hr.mono (by decide)
    have hin : ∀ (s' : Shared) (H' : Hp) (C' : Addr) (cl' : List (Str × Addr)) (fp' : List Addr), PE (Cx.blk (cxOf CX0 P w K mg base nPlain "_law_plain" (defScope sPlain) f cdv A outer s H E).nox s' H' scO (compEnvC scO cl' C' (cxOf CX0 P w K mg base nPlain "_law_plain" (defScope sPlain) f cdv A outer s H E).nox.env) fp')
        (eltOf (valOf (stOf sPlain 1))) (tLc (iList K (tVar 1)) (gName 8) tYes (tCall spDraw [] E0 (tCons (tVar 0) (tCons (tVar 4) tNil))) [8]) := fun s' H' C' cl' fp' =>
      pe_lc (own := [("_law_deed", 8)]) (g := gName 8) (by rfl) scPlain.nd (pi_list (pv 1))
          (blkOk_by (own := [("_law_deed", 8)]) (N := nPlain) (sc := relS scO (defScope sPlain)) (by decide +kernel)) (fun _ _ _ _ _ => pg_name (i := 8) scPlain.nd rfl (Or.inl rfl)) (fun _ _ _ _ _ => pts_nil)
          (fun _ _ _ _ _ => pe_call GD hr1 rfl DD.g DD.F.kp DD.b .nil pass0 (pa_cons (pv 0) (pa_cons (pv 4) pa_nil)))
    refine ⟨_, pss_cons (ps_set (i := 4) scPlain.nd rfl (Or.inr rfl) (pe_op op_add pe_int (pe_call GD hr1 rfl DD.g DD.F.kp DD.b .nil pass0 (pa_cons (pv 0) (pa_cons (pv 2) pa_nil)))))
      (pss_cons (ps_setLc (i := 5) (own := [("_law_spot", 7)]) (g := gName 7) (by rfl) scPlain.nd rfl rfl (sw_true rfl rfl rfl (by decide +kernel))
        (pi_range1 rfl T.range (pa_cons (pv 4) pa_nil))
        (blkOk_by (own := [("_law_spot", 7)]) (N := nPlain) (sc := defScope sPlain) (by decide +kernel)) (fun _ _ _ _ _ => pg_name (i := 7) scPlain.nd rfl (Or.inl rfl)) (fun _ _ _ _ _ => pts_nil)
        hin)
      (pss_cons (ps_setLc (i := 6) (own := [("_law_spot", 7)]) (g := gName 7) (by rfl) scPlain.nd rfl rfl (sw_true rfl rfl rfl (by decide +kernel))
        (pi_range1 rfl T.range (pa_cons (pv 4) pa_nil))
        (blkOk_by (own := [("_law_spot", 7)]) (N := nPlain) (sc := defScope sPlain) (by decide +kernel)) (fun _ _ _ _ _ => pg_name (i := 7) scPlain.nd rfl (Or.inl rfl)) (fun _ _ _ _ _ => pts_nil)
        (fun _ _ _ _ _ => pe_call GL hr rfl DP.g DP.F.kp DP.b .nil pass0 (pa_cons (pv 0) (pa_cons (pv 3) pa_nil))))
      (pss_one (ps_ret (pe_disp (pps_cons pe_str (pe_callTy (r := rTuF K) call_tuple_F (by rfl) T.tuple (by decide +kernel) (pa_cons (pv 1) pa_nil))
        (pps_cons pe_str (pv 5) (pps_cons pe_str (pv 6) (pps_cons pe_str (pe_call GD hr1 rfl DD.g DD.F.kp DD.b .nil pass0 (pa_cons (pv 0) (pa_cons (pv 4) pa_nil))) pps_nil)))) (by rfl) (by rfl) (fun z => by cases z) (by decide)))))), ?_⟩
    refine ⟨_, rfl, _, rfl, d, c, n, m, rfl, hp, by omega, by omega, by omega, fun r H1 r0 r1 hp1 kp1 => ⟨_, _, rfl, rfl, ?_⟩⟩
    obtain ⟨M, eM⟩ : ∃ M : Nat, 1 + r = (M : Int) := ⟨(1 + r).toNat, by omega⟩
    show _
    have hM : 1 ≤ M ∧ M ≤ 12 := by omega
    simp only [eM]
    refine ⟨_, rfl, (M : Int), rfl, by omega, by omega, fun D1 hD1 => ?_⟩
    rw [Int.toNat_natCast]
    have zD1 : H D1 = none := kp1.free hp1 hD1
    obtain ⟨n1d, n1c⟩ := hp.ne zD1
    refine lc_range (lo := 0) (n := M) (fun i H' => ∃ (as : List Addr) (rs : List (List Int)), rs.length = i ∧ H' D1 = some (.lst (as.map V.ref)) ∧ RowsAt H' as rs ∧ (∀ r ∈ rs, r.length = ws.length ∧ ∀ x ∈ r, 0 ≤ x ∧ x < (M : Int)) ∧
      (∀ a ∈ as, H a = none ∧ a ≠ D1) ∧ PenAt H' d c (n + 1 + 27 * i) ∧ Kept d H H') ?_ ?_ ?_
    · exact ⟨[], [], rfl, upd_same, ⟨rfl, fun i a r e => by simp at e⟩, by simp, by simp, hp1.upd n1d n1c, kp1.upd zD1⟩
    · rintro i H2 hi ⟨as, rs, hrs, hD, hR, hrow, has, hp2, kp2⟩
      refine ⟨rfl, _, rfl, dl, rfl, ⟨_, kp2.seq ndl hdl⟩, fun D2 hD2 => ?_⟩
      have zD2 : H D2 = none := kp2.free hp2 hD2
      obtain ⟨n2d, n2c⟩ := hp.ne zD2
      have n12 : D1 ≠ D2 := ne_of_none hD hD2
      refine lc_list (K := K) (a := dl) (xs := ws.map V.str) (fun j H' => ∃ r : List Int, r.length = j ∧ (∀ x ∈ r, 0 ≤ x ∧ x < (M : Int)) ∧ H' D2 = some (.lst (r.map V.int)) ∧ PenAt H' d c (n + 1 + 27 * i + j) ∧ Kept d H2 H' ∧ Kept d H H') ?_ ?_ ?_ ?_
      · exact ⟨[], rfl, by simp, upd_same, hp2.upd n2d n2c, (Kept.refl d H2).upd hD2, kp2.upd zD2⟩
      · rintro j H3 hj ⟨r, _, _, _, _, _, kp3⟩
        exact kp3.seq ndl hdl
      · rintro j x H3 hj ⟨r, hrj, hrb, hD3, hp3, kp3, kq3⟩
        have hj2 : j < ws.length := by
          have := (List.getElem?_eq_some_iff.mp hj).1
          rwa [List.length_map] at this
        refine ⟨rfl, _, rfl, _, rfl, d, c, _, (M : Int), rfl, hp3, by omega, by omega, by omega, fun y H4 y0 y1 hp4 kp4 => ?_⟩
        refine ⟨_, kp4 _ _ hD3 n2d, ?_, r ++ [y], by simp [hrj], ?_, ?_, ?_, ?_, ?_⟩
        · rw [List.length_map]; exact small1000 (by omega)
        · intro z hz
          rcases List.mem_append.mp hz with h | h
          · exact hrb z h
          · rw [List.mem_singleton.mp h]; exact ⟨y0, y1⟩
        · rw [upd_same]; simp
        · exact hp4.upd n2d n2c
        · exact (kp3.trans kp4).upd hD2
        · exact (kq3.trans kp4).upd zD2
      · rintro H3 ⟨r, hrj, hrb, hD3, hp3, kp3, kq3⟩
        rw [List.length_map] at hrj hp3
        have hDD := kp3 _ _ hD n1d
        have hR3 := hR.kept kp3 (fun a ha => (hp.ne (has a ha).1).1)
        refine ⟨_, hDD, ?_, as ++ [D2], rs ++ [r], by simp [hrs], ?_, ?_, ?_, ?_, ?_, ?_⟩
        · rw [List.length_map, hR.1]; exact small1000 (by omega)
        · rw [upd_same]; simp
        · have hq : RowsAt H3 (as ++ [D2]) (rs ++ [r]) := hR3.snoc hD3
          refine ⟨hq.1, fun i a q e1 e2 => ?_⟩
          have hm := List.mem_of_getElem? e1
          have : a ≠ D1 := by
            rcases List.mem_append.mp hm with h | h
            · exact (has a h).2
            · rw [List.mem_singleton.mp h]; exact n12.symm
          rw [upd_ne this]
          exact hq.2 i a q e1 e2
        · intro q hq
          rcases List.mem_append.mp hq with h | h
          · exact hrow q h
          · rw [List.mem_singleton.mp h]; exact ⟨hrj, hrb⟩
        · intro a ha
          rcases List.mem_append.mp ha with h | h
          · exact has a h
          · rw [List.mem_singleton.mp h]; exact ⟨zD2, n12.symm⟩
        · exact (hp3.upd n1d n1c).mono (by omega)
        · exact kq3.upd zD1
    · rintro H5 ⟨as, rs, hrs, hD5, hR5, hrow, has, hp5, kp5⟩
      -- told
      refine ⟨_, rfl, (M : Int), rfl, by omega, by omega, fun D3 hD3 => ?_⟩
      rw [Int.toNat_natCast]
      have zD3 : H D3 = none := kp5.free hp5 hD3
      obtain ⟨n3d, n3c⟩ := hp.ne zD3
      refine lc_range (lo := 0) (n := M) (fun i H' => ∃ ss : List Str, ss.length = i ∧ (∀ z ∈ ss, z ∈ ts) ∧ H' D3 = some (.lst (ss.map V.str)) ∧ PenAt H' d c (n + 340 + i) ∧ Kept d H5 H' ∧ Kept d H H') ?_ ?_ ?_
      · exact ⟨[], rfl, by simp, upd_same, (hp5.upd n3d n3c).mono (by omega), (Kept.refl d H5).upd hD3, kp5.upd zD3⟩
      · rintro i H6 hi ⟨ss, hss, hst, hD6, hp6, kp6, kq6⟩
        refine ⟨rfl, _, rfl, _, rfl, d, c, tl, _, ts.map V.str, rfl, hp6, by omega, ntl, kq6.seq ntl htl, by rw [List.length_map]; exact ht0, by rw [List.length_map]; omega, fun x H7 hx hp7 kp7 => ?_⟩
        obtain ⟨z, hz, rfl⟩ := List.mem_map.mp hx
        refine ⟨_, kp7 _ _ hD6 n3d, ?_, ss ++ [z], by simp [hss], ?_, ?_, ?_, ?_, ?_⟩
        · rw [List.length_map]; exact small1000 (by omega)
        · intro y hy
          rcases List.mem_append.mp hy with h | h
          · exact hst y h
          · rw [List.mem_singleton.mp h]; exact hz
        · rw [upd_same]; simp
        · exact hp7.upd n3d n3c
        · exact (kp6.trans kp7).upd hD3
        · exact (kq6.trans kp7).upd zD3
      · rintro H7 ⟨ss, hss, hst, hD7, hp7, kp7, kq7⟩
        intro p hp'
        have zp : H p = none := kq7.free hp7 hp'
        have kq8 : Kept d H (upd H7 p (.dK [])) := kq7.upd zp
        obtain ⟨npd, npc⟩ := hp.ne zp
        refine ⟨_, rfl, dl, _, rfl, .inl ⟨kq8.seq ndl hdl, fun t ob ht hob => ?_⟩⟩
        have zt : H t = none := by
          refine kq8.free (hp7.upd npd npc) ht
        obtain ⟨ntd, ntc⟩ := hp.ne zt
        have npt : p ≠ t := by intro z; rw [← z, upd_same] at ht; cases ht
        refine ⟨_, rfl, _, rfl, _, rfl, _, rfl, d, c, _, (M : Int), rfl, (hp7.upd npd npc).upd ntd ntc, by omega, by omega, by omega, fun st H9 s0 s1 hp9 kp9 => ?_⟩
        have zt7 : H7 t = none := by rw [upd_ne npt.symm] at ht; exact ht
        have sm : Same H7 (upd (upd H7 p (.dK [])) t (.frz ob (.tup (ws.map V.str)))) := fun b o e => by
          rw [upd_ne (ne_of_none e zt7), upd_ne (ne_of_none e hp')]; exact e
        have k79 : Kept d H7 H9 := (Kept.same sm).trans kp9
        have hp9' : H9 p = some (.dK []) := kp9 _ _ (by rw [upd_ne npt, upd_same]) npd
        have ht9 : H9 t = some (.frz ob (.tup (ws.map V.str))) := kp9 _ _ upd_same ntd
        have hD79 := k79 _ _ hD7 n3d
        have k59 : Kept d H5 H9 := kp7.trans k79
        have hD59 := k59 _ _ hD5 n1d
        have hR9 := hR5.kept k59 (fun a ha => (hp.ne (has a ha).1).1)
        refine ⟨hp9', plainK t D1 D3 st, rfl, by show 4 ≤ 15; decide, ?_⟩
        rw [plainK_merge]
        have kq9 : Kept d H H9 := kq7.trans k79
        have n1p : D1 ≠ p := ne_of hD59 hp9' (by intro z; cases z)
        have n3p : D3 ≠ p := ne_of hD79 hp9' (by intro z; cases z)
        refine k p rs ss st _ zp ⟨t, D1, D3, as, upd_same, ?_, ?_, ?_, hR9.1, fun i a q e1 e2 => ?_⟩ ⟨by rw [hrs]; exact hM, fun r hr => by rw [hrs]; exact hrow r hr, ⟨by rw [hss, hrs], hst⟩, by rw [hrs]; exact ⟨s0, s1⟩⟩ ((hp9.upd npd npc).mono (by omega)) (kq9.upd zp)
        · exact ⟨ob, by rw [upd_ne npt.symm]; exact ht9, hob⟩
        · rw [upd_ne n1p]; exact hD59
        · rw [upd_ne n3p]; exact hD79
        · have := hR9.2 i a q e1 e2
          rw [upd_ne (ne_of this hp9' (by intro z; cases z))]
          exact this
end
end K1
set_option Elab.async false
set_option linter.all false
set_option maxRecDepth 100000
namespace K1
open PySem L2
abbrev sIsInt : Stmt := top 26
abbrev sIsIndex : Stmt := top 27
abbrev sIsWord : Stmt := top 28
abbrev sIsTell : Stmt := top 29
/-- the names of the built-ins, and the constants -/
structure Bt2 (mg : Str → Option Value) : Prop extends Bt mg where
  isinstance : mg "isinstance" = none
  bool : mg "bool" = none
  str : mg "str" = none
  all : mg "all" = none
  enumerate : mg "enumerate" = none
  min : mg "min" = none
  LETTERS : ∃ t, mg "LETTERS" = some (.str zLE t)
  DIGITS : ∃ t, mg "DIGITS" = some (.str zDG t)
  LONGEST_WORD : ∃ t, mg "LONGEST_WORD" = some (.int 12 t)
  LONGEST_TELL : ∃ t, mg "LONGEST_TELL" = some (.int 60 t)
  MOST_DEEDS : ∃ t, mg "MOST_DEEDS" = some (.int 6 t)
  MOST_STATES : ∃ t, mg "MOST_STATES" = some (.int 60 t)
def spIsInt : Sp := fun vs H Q _ => ∃ i : Int, vs = [.int i] ∧ Q (.bl true) H
def spIsIndex : Sp := fun vs H Q _ => ∃ i m : Int, vs = [.int i, .int m] ∧ 0 ≤ i ∧ i < m ∧ Q (.bl true) H
def spIsWord : Sp := fun vs H Q _ => ∃ z : Str, vs = [.str z] ∧ Wd z ∧ ∀ H', Same H H' → Q (.bl true) H'
abbrev zSL : Str := "/"
def TL' : List Nat := AL ++ zSL.cps.toList
def Tl (z : Str) : Prop := 1 ≤ z.cps.toList.length ∧ z.cps.toList.length ≤ 60 ∧ ∀ x ∈ z.cps.toList, x ∈ TL'
def spIsTell : Sp := fun vs H Q _ => ∃ z : Str, vs = [.str z] ∧ Tl z ∧ ∀ H', Same H H' → Q (.bl true) H'
section
variable {P : Program} {w : World} {K : PySem.W.Frag} {mg : Str → Option Value} {base : Heap}
theorem scIsInt : FnScope ["value"] ["value"] (defScope sIsInt) := ⟨rfl, rfl, rfl, by decide +kernel, rfl, by decide +kernel, by decide +kernel⟩
theorem ok_isint {f : Addr} {fd : FuncData} (D : Df K mg "is_integer" sIsInt ["value"] f fd) (T : Bt2 mg) : FnOk P w K mg base CX0 1 f fd ["value"] spIsInt := by
  refine D.F.ok scIsInt (fun vs H Q E h => ?_) (fun cdv A outer s H vs Q E hr h => ?_)
  · obtain ⟨i, rfl, _⟩ := h
    rfl
  · obtain ⟨i, rfl, k⟩ := h
    refine ⟨_, pss_one (ps_ret (pe_and (pe_callB call_isi (by rfl) T.isinstance PyProof.Rows.boot_isinstance (pa_cons (pv 0) (pa_cons (pe_bltn (v := .ty "int") (by rfl) T.int PyProof.Rows.boot_int rfl) pa_nil)))
      (pe_one (pe_not (pe_callB call_isi (by rfl) T.isinstance PyProof.Rows.boot_isinstance (pa_cons (pv 0) (pa_cons (pe_bltn (v := .ty "bool") (by rfl) T.bool PyProof.Rows.boot_bool rfl) pa_nil))))))), ?_⟩
    refine ⟨_, rfl, _, _, _, _, true, rfl, .ty "int", .base (.int i), kit_ty (by decide +kernel), true, rfl, ?_⟩
    refine ⟨_, rfl, _, _, _, _, false, rfl, .ty "bool", .base (.int i), kit_ty (by decide +kernel), false, rfl, k⟩
theorem scIsIndex : FnScope ["value", "many"] ["value", "many"] (defScope sIsIndex) := ⟨rfl, rfl, rfl, by decide +kernel, rfl, by decide +kernel, by decide +kernel⟩
theorem ok_isindex {f fI : Addr} {fd fdI : FuncData} (D : Df K mg "is_index" sIsIndex ["value", "many"] f fd) (DI : Df K mg "is_integer" sIsInt ["value"] fI fdI) (T : Bt2 mg) : FnOk P w K mg base CX0 2 f fd ["value", "many"] spIsIndex := by
  have GI : FnOk P w K mg base CX0 1 fI fdI ["value"] spIsInt := ok_isint DI T
  refine D.F.ok scIsIndex (fun vs H Q E h => ?_) (fun cdv A outer s H vs Q E hr h => ?_)
  · obtain ⟨i, m, rfl, _⟩ := h
    rfl
  · obtain ⟨i, m, rfl, h0, h1, k⟩ := h
    refine ⟨_, pss_one (ps_ret (pe_and (pe_call GI hr rfl DI.g DI.F.kp DI.b .nil pass0 (pa_cons (pv 0) pa_nil)) (pe_one (pe_chain op_le op_lt pe_int (pv 0) (pv 1))))), ?_⟩
    refine ⟨_, rfl, i, rfl, true, rfl, ?_⟩
    refine ⟨_, rfl, _, _, rfl, rfl, _, rfl, ?_⟩
    rw [decide_eq_true h0]
    refine iteT ?_
    refine ⟨_, rfl, _, _, rfl, rfl, ?_⟩
    show Q (V.bl (decide (i < m))) H
    rw [decide_eq_true h1]
    exact k
theorem scIsWord : FnScope ["value", "sign"] ["value"] (defScope sIsWord) := ⟨rfl, rfl, rfl, by decide +kernel, rfl, by decide +kernel, by decide +kernel⟩
theorem ok_isword {f : Addr} {fd : FuncData} (D : Df K mg "is_word" sIsWord ["value"] f fd) (T : Bt2 mg) : FnOk P w K mg base CX0 1 f fd ["value"] spIsWord := by
  refine D.F.ok scIsWord (fun vs H Q E h => ?_) (fun cdv A outer s H vs Q E hr h => ?_)
  · obtain ⟨z, rfl, _⟩ := h
    rfl
  · obtain ⟨z, rfl, hz, k⟩ := h
    obtain ⟨tL, gL⟩ := T.LETTERS
    obtain ⟨tD, gD⟩ := T.DIGITS
    obtain ⟨tW, gW⟩ := T.LONGEST_WORD
    obtain ⟨c, r, ez, hc, hr', hl⟩ := id hz
    refine ⟨_, pss_cons (ps_if (PW.pt (pw_or (pt_not (pt_val (pe_callB call_isi (by rfl) T.isinstance PyProof.Rows.boot_isinstance (pa_cons (pv 0) (pa_cons (pe_bltn (v := .ty "str") (by rfl) T.str PyProof.Rows.boot_str rfl) pa_nil)))))
          (pw_or1 (pt_not (pt_chain op_le op_le pe_int (pe_callB call_len_str (by rfl) T.len PySem.boot_len (pa_cons (pv 0) pa_nil)) (pe_glob (v := .int 12) rfl gW ⟨_, rfl⟩))))))
        pss_never pss_nil)
      (pss_one (ps_ret (pe_and (pe_cmpR op_in_sign (pe_ix ix_str (pv 0) pe_int (fun _ _ => rfl)) (pe_glob (v := .str zLE) rfl gL ⟨_, rfl⟩) rfl)
        (pe_one (pe_callB (cr_all rfl) (by rfl) T.all PyProof.Rows.boot_all (pa_cons (pe_lc (own := [("sign", 1)]) (g := gName 1) (by rfl) scIsWord.nd (pi_str (pv 0))
          (blkOk_by (own := [("sign", 1)]) (N := ["value", "sign"]) (sc := defScope sIsWord) (by decide +kernel)) (fun _ _ _ _ _ => pg_name (i := 1) scIsWord.nd rfl (Or.inl rfl)) (fun _ _ _ _ _ => pts_nil)
          (fun _ _ _ _ _ => pe_cmpR op_in_sign (pv 1) (pe_op op_add_str (pe_glob (v := .str zLE) rfl gL ⟨_, rfl⟩) (pe_glob (v := .str zDG) rfl gD ⟨_, rfl⟩)) rfl)) pa_nil)))))), ?_⟩
    have lz : z.length = r.length + 1 := by rw [len_tl, ez]; rfl
    have hzl : z.length ≤ sizeLine := Nat.le_trans (by omega : z.length ≤ 100) (by decide)
    refine ⟨_, rfl, _, _, _, _, true, rfl, .ty "str", .base (.str z), kit_ty (by decide +kernel), true, rfl, ?_⟩
    refine iteF ?_
    refine ⟨_, rfl, _, rfl, hzl, _, _, rfl, rfl, _, rfl, ?_⟩
    refine ite2 (fun _ => ?_) (fun h => absurd (decide_eq_true (by show (1 : Int) ≤ (z.length : Int); omega)) h)
    refine ⟨_, _, rfl, rfl, _, rfl, ?_⟩
    have e12 : decide ((z.length : Int) ≤ 12) = true := decide_eq_true (by omega)
    show (if (!decide ((z.length : Int) ≤ 12)) = true then _ else _)
    rw [e12]
    refine iteF ?_
    refine ⟨_, rfl, z, _, c, rfl, rfl, hzl, ?_, c, zLE, rfl, rfl, true, ?_, ?_⟩
    · rw [ez]; exact atI_nat (j := 0) rfl
    · rw [decide_eq_true (show c ∈ zLE.cps.toList from hc)]
    refine iteT ?_
    refine ⟨_, rfl, z, rfl, fun D hD => ?_⟩
    have hall : ∀ x ∈ z.cps.toList, x ∈ AL := fun x hx => by
      rw [ez] at hx
      rcases List.mem_cons.mp hx with rfl | h
      · exact LE_AL hc
      · exact hr' x h
    have hsz : z.cps.size = z.cps.toList.length := by simp
    have hsz7 : z.cps.toList.length ≤ 7 := by rw [ez]; simp; exact hl
    refine lc_it (walk_str (z := z)) (fun i H' => Same H H' ∧ H' D = some (.lst ((List.replicate i true).map V.bl))) ?_ ?_ ?_ ?_
    · exact ⟨same_upd hD, upd_same⟩
    · exact fun _ _ _ _ => trivial
    · rintro i x H1 H2 hi ⟨sm, hD1⟩ ⟨rfl, c', hc', rfl⟩
      have hm : c' ∈ z.cps.toList := by
        have : z.cps.toList[i]? = some c' := by simpa using hc'
        exact List.mem_of_getElem? this
      refine ⟨rfl, _, rfl, _, _, rfl, rfl, by decide +kernel, c', zLE ++ zDG, rfl, rfl, _, hD1, ?_, ?_, ?_⟩
      · simp; exact small1000 (by omega)
      · exact fun b o e => by rw [upd_ne (ne_of_none e hD)]; exact sm b o e
      · rw [upd_same, decide_eq_true (show c' ∈ (zLE ++ zDG).cps.toList by rw [← AL_eq]; exact hall c' hm), List.replicate_succ']
        simp
    · rintro H1 ⟨sm, hD1⟩
      refine ⟨D, _, rfl, SqL.of hD1, ?_⟩
      have e : (List.replicate z.cps.size true).all id = true := by simp
      rw [e]
      exact k H1 sm
end
end K1
set_option Elab.async false
set_option linter.all false
set_option maxRecDepth 100000
namespace K1
open PySem L2
abbrev sCheckDiff : Stmt := top 30
abbrev sCheckGroup : Stmt := top 31
abbrev sCheckDeeds : Stmt := top 32
abbrev sCheckRows : Stmt := top 35
abbrev sCheckTells : Stmt := top 36
theorem TL_eq : TL' = (zLE ++ zDG ++ zSL).cps.toList := by decide +kernel
theorem cut_to {xs : List V} {i : Nat} (h : i ≤ xs.length) : cutV xs none (some (i : Int)) = xs.take i := by
  unfold cutV
  rw [HT.sIx_none, HT.sIx_nat, Nat.min_eq_left h]
  simp
theorem inV_str {ws : List Str} {z : Str} (h : z ∉ ws) : inV (.str z) (ws.map V.str) = false := by
  unfold inV
  rw [List.any_map, List.any_eq_false]
  intro y hy
  show ¬ ((y == z) = true)
  intro e
  rw [beq_iff_eq] at e
  exact h (e ▸ hy)
theorem nodup_take {ws : List Str} {i : Nat} {z : Str} (nd : ws.Nodup) (e : ws[i]? = some z) : z ∉ ws.take i := by
  intro hm
  obtain ⟨j, hj, ej⟩ := List.getElem_of_mem hm
  rw [List.getElem_take] at ej
  have hji : j < i := by simp at hj; omega
  have hi : i < ws.length := (List.getElem?_eq_some_iff.mp e).1
  have ei : ws[i] = z := (List.getElem?_eq_some_iff.mp e).2
  exact List.pairwise_iff_getElem.mp nd j i (by omega) hi hji (ej.trans ei.symm)
theorem flat_strs (ws : List Str) : (ws.map V.str).all flatV = true := by simp [flatV]
/-- a list or a tuple of words -/
def Sq (K : PySem.W.Frag) (H : Hp) (a : Addr) (xs : List V) : Prop := SqL K H a xs ∨ SqT K H a xs
theorem Sq.same {K : PySem.W.Frag} {H H' : Hp} {a : Addr} {xs : List V} (h : Sq K H a xs) (s : Same H H') : Sq K H' a xs := by
  rcases h with h | h
  · exact .inl (s.seq h)
  · exact .inr (h.ext s)
structure GoodD (ws : List Str) : Prop where
  nd : ws.Nodup
  wd : ∀ z ∈ ws, Wd z
  len : 1 ≤ ws.length ∧ ws.length ≤ 6
def spDeeds (K : PySem.W.Frag) : Sp := fun vs H Q _ => ∃ (a : Addr) (ws : List Str), vs = [.ref a] ∧ Sq K H a (ws.map V.str) ∧ GoodD ws ∧ ∀ H', Same H H' → Q .non H'
section
variable {P : Program} {w : World} {K : PySem.W.Frag} {mg : Str → Option Value} {base : Heap}
theorem scIsTell : FnScope ["value", "sign"] ["value"] (defScope sIsTell) := ⟨rfl, rfl, rfl, by decide +kernel, rfl, by decide +kernel, by decide +kernel⟩
theorem ok_istell {f : Addr} {fd : FuncData} (D : Df K mg "is_tell" sIsTell ["value"] f fd) (T : Bt2 mg) : FnOk P w K mg base CX0 1 f fd ["value"] spIsTell := by
  refine D.F.ok scIsTell (fun vs H Q E h => ?_) (fun cdv A outer s H vs Q E hr h => ?_)
  · obtain ⟨z, rfl, _⟩ := h
    rfl
  · obtain ⟨z, rfl, ⟨hz0, hz1, hall⟩, k⟩ := h
    obtain ⟨tL, gL⟩ := T.LETTERS
    obtain ⟨tD, gD⟩ := T.DIGITS
    obtain ⟨tW, gW⟩ := T.LONGEST_TELL
    refine ⟨_, pss_cons (ps_if (PW.pt (pw_or (pt_not (pt_val (pe_callB call_isi (by rfl) T.isinstance PyProof.Rows.boot_isinstance (pa_cons (pv 0) (pa_cons (pe_bltn (v := .ty "str") (by rfl) T.str PyProof.Rows.boot_str rfl) pa_nil)))))
          (pw_or1 (pt_not (pt_chain op_le op_le pe_int (pe_callB call_len_str (by rfl) T.len PySem.boot_len (pa_cons (pv 0) pa_nil)) (pe_glob (v := .int 60) rfl gW ⟨_, rfl⟩))))))
        pss_never pss_nil)
      (pss_one (ps_ret (pe_callB (cr_all rfl) (by rfl) T.all PyProof.Rows.boot_all (pa_cons (pe_lc (own := [("sign", 1)]) (g := gName 1) (by rfl) scIsTell.nd (pi_str (pv 0))
          (blkOk_by (own := [("sign", 1)]) (N := ["value", "sign"]) (sc := defScope sIsTell) (by decide +kernel)) (fun _ _ _ _ _ => pg_name (i := 1) scIsTell.nd rfl (Or.inl rfl)) (fun _ _ _ _ _ => pts_nil)
          (fun _ _ _ _ _ => pe_cmpR op_in_sign (pv 1) (pe_op op_add_str (pe_op op_add_str (pe_glob (v := .str zLE) rfl gL ⟨_, rfl⟩) (pe_glob (v := .str zDG) rfl gD ⟨_, rfl⟩)) pe_str) rfl)) pa_nil)))), ?_⟩
    have lz : z.length = z.cps.toList.length := len_tl z
    have hzl : z.length ≤ sizeLine := Nat.le_trans (by omega : z.length ≤ 100) (by decide)
    refine ⟨_, rfl, _, _, _, _, true, rfl, .ty "str", .base (.str z), kit_ty (by decide +kernel), true, rfl, ?_⟩
    refine iteF ?_
    refine ⟨_, rfl, _, rfl, hzl, _, _, rfl, rfl, _, rfl, ?_⟩
    refine ite2 (fun _ => ?_) (fun h => absurd (decide_eq_true (by show (1 : Int) ≤ (z.length : Int); omega)) h)
    refine ⟨_, _, rfl, rfl, _, rfl, ?_⟩
    have e12 : decide ((z.length : Int) ≤ 60) = true := decide_eq_true (by omega)
    show (if (!decide ((z.length : Int) ≤ 60)) = true then _ else _)
    rw [e12]
    refine iteF ?_
    refine ⟨_, rfl, z, rfl, fun D hD => ?_⟩
    have hsz : z.cps.size = z.cps.toList.length := by simp
    refine lc_it (walk_str (z := z)) (fun i H' => Same H H' ∧ H' D = some (.lst ((List.replicate i true).map V.bl))) ?_ ?_ ?_ ?_
    · exact ⟨same_upd hD, upd_same⟩
    · exact fun _ _ _ _ => trivial
    · rintro i x H1 H2 hi ⟨sm, hD1⟩ ⟨rfl, c', hc', rfl⟩
      have hm : c' ∈ z.cps.toList := by
        have : z.cps.toList[i]? = some c' := by simpa using hc'
        exact List.mem_of_getElem? this
      refine ⟨rfl, _, rfl, _, _, rfl, rfl, by decide +kernel, _, _, rfl, rfl, by decide +kernel, c', zLE ++ zDG ++ zSL, rfl, rfl, _, hD1, ?_, ?_, ?_⟩
      · simp; exact small1000 (by omega)
      · exact fun b o e => by rw [upd_ne (ne_of_none e hD)]; exact sm b o e
      · rw [upd_same, decide_eq_true (show c' ∈ (zLE ++ zDG ++ zSL).cps.toList by rw [← TL_eq]; exact hall c' hm), List.replicate_succ']
        simp
    · rintro H1 ⟨sm, hD1⟩
      refine ⟨D, _, rfl, SqL.of hD1, ?_⟩
      have e : (List.replicate z.cps.size true).all id = true := by simp
      rw [e]
      exact k H1 sm
theorem scDiff : FnScope ["deeds", "index", "deed"] ["deeds"] (defScope sCheckDiff) := ⟨rfl, rfl, rfl, by decide +kernel, rfl, by decide +kernel, by decide +kernel⟩
theorem ok_diff {f fW : Addr} {fd fdW : FuncData} (D : Df K mg "check_different" sCheckDiff ["deeds"] f fd) (DW : Df K mg "is_word" sIsWord ["value"] fW fdW) (T : Bt2 mg) : FnOk P w K mg base CX0 2 f fd ["deeds"] (spDeeds K) := by
  have GW : FnOk P w K mg base CX0 1 fW fdW ["value"] spIsWord := ok_isword DW T
  refine D.F.ok scDiff (fun vs H Q E h => ?_) (fun cdv A outer s H vs Q E hr h => ?_)
  · obtain ⟨a, ws, rfl, _⟩ := h
    rfl
  · obtain ⟨a, ws, rfl, ha, gd, k⟩ := h
    have hle : ws.length ≤ 6 := gd.len.2
    rcases ha with ha | ha
    · refine ⟨_, pss_one (ps_for PassesOwn.never rfl (pi_enum (by rfl) T.enumerate (pa_cons (pv 0) pa_nil)) (pg_tup (by rfl) (pgs_cons (pg_name (i := 1) scDiff.nd rfl (Or.inl rfl)) (pgs_cons (pg_name (i := 2) scDiff.nd rfl (Or.inl rfl)) pgs_nil)))
          (pss_one (ps_if (PW.pt (pw_or (pt_not (pt_val (pe_call GW hr rfl DW.g DW.F.kp DW.b .nil pass0 (pa_cons (pv 2) pa_nil)))) (pw_or1 (pt_cmpR op_in_seq (pv 2) (pe_slice sl_list (pv 0) po_none (po_some (pv 1))) (by rfl))))) pss_never pss_nil))), ?_⟩
      refine ⟨_, rfl, a, _, rfl, ha, for_it (walk_enum (K := K) (a := a) (xs := ws.map V.str)) (fun i σ H' => Same H H' ∧ ∃ v1 v2, σ = [some (.ref a), v1, v2]) ⟨Same.refl H, none, none, rfl⟩ (fun i σ H' _ p => p.1.seq ha) ?_ ?_⟩
      · rintro i x σ H1 H2 hi ⟨sm, v1, v2, rfl⟩ ⟨t, x1, x2, rfl, ht, rfl, e1, e2⟩
        cases e1
        replace e2 : (ws.map V.str)[i]? = some x2 := e2
        rw [List.getElem?_map] at e2
        obtain ⟨z, hz, rfl⟩ := Option.map_eq_some_iff.mp e2
        have hzm := List.mem_of_getElem? hz
        have hil : i < ws.length := (List.getElem?_eq_some_iff.mp hz).1
        have sm2 := sm.trans (same_upd (o := .tup [V.int (i : Nat), V.str z]) ht)
        refine ⟨t, _, rfl, SqT.of upd_same, rfl, _, _, rfl, _, _, rfl, rfl, ?_⟩
        refine ⟨_, rfl, z, rfl, gd.wd z hzm, fun H3 sm3 => ⟨true, rfl, ?_⟩⟩
        refine iteF ?_
        have sm4 := sm2.trans sm3
        refine ⟨_, rfl, _, rfl, _, rfl, (i : Int), rfl, a, _, rfl, sm4.seq ha, fun q hq => ?_⟩
        rw [cut_to (by rw [List.length_map]; omega), ← List.map_take]
        refine ⟨q, _, rfl, .inl (SqL.of upd_same), rfl, flat_strs _, false, ?_, ?_⟩
        · show V.bl (if false = true then _ else inV (V.str z) ((ws.take i).map V.str)) = V.bl false
          rw [inV_str (nodup_take gd.nd hz)]
          rfl
        · refine iteF ?_
          exact ⟨sm4.trans (same_upd hq), _, _, rfl⟩
      · rintro σ H1 ⟨sm, v1, v2, rfl⟩
        exact k H1 sm
    · refine ⟨_, pss_one (ps_for PassesOwn.never rfl (pi_enumT (by rfl) T.enumerate (pa_cons (pv 0) pa_nil)) (pg_tup (by rfl) (pgs_cons (pg_name (i := 1) scDiff.nd rfl (Or.inl rfl)) (pgs_cons (pg_name (i := 2) scDiff.nd rfl (Or.inl rfl)) pgs_nil)))
          (pss_one (ps_if (PW.pt (pw_or (pt_not (pt_val (pe_call GW hr rfl DW.g DW.F.kp DW.b .nil pass0 (pa_cons (pv 2) pa_nil)))) (pw_or1 (pt_cmpR op_in_seq (pv 2) (pe_slice sl_tupA (pv 0) po_none (po_some (pv 1))) (by rfl))))) pss_never pss_nil))), ?_⟩
      refine ⟨_, rfl, a, _, rfl, ha, for_it (walk_enumT (K := K) (a := a) (xs := ws.map V.str)) (fun i σ H' => Same H H' ∧ ∃ v1 v2, σ = [some (.ref a), v1, v2]) ⟨Same.refl H, none, none, rfl⟩ (fun i σ H' _ p => ha.ext p.1) ?_ ?_⟩
      · rintro i x σ H1 H2 hi ⟨sm, v1, v2, rfl⟩ ⟨t, x1, x2, rfl, ht, rfl, e1, e2⟩
        cases e1
        replace e2 : (ws.map V.str)[i]? = some x2 := e2
        rw [List.getElem?_map] at e2
        obtain ⟨z, hz, rfl⟩ := Option.map_eq_some_iff.mp e2
        have hzm := List.mem_of_getElem? hz
        have hil : i < ws.length := (List.getElem?_eq_some_iff.mp hz).1
        have sm2 := sm.trans (same_upd (o := .tup [V.int (i : Nat), V.str z]) ht)
        refine ⟨t, _, rfl, SqT.of upd_same, rfl, _, _, rfl, _, _, rfl, rfl, ?_⟩
        refine ⟨_, rfl, z, rfl, gd.wd z hzm, fun H3 sm3 => ⟨true, rfl, ?_⟩⟩
        refine iteF ?_
        have sm4 := sm2.trans sm3
        have eh : HT.sIx (ws.map V.str).length (ws.map V.str).length (some (i : Int)) = i := by rw [HT.sIx_nat, List.length_map]; omega
        refine ⟨_, rfl, _, rfl, _, rfl, (i : Int), rfl, a, _, rfl, ha.ext sm4, fun h => absurd h.2 (by rw [eh, List.length_map]; omega), fun _ q hq => ?_⟩
        rw [cut_to (by rw [List.length_map]; omega), ← List.map_take]
        refine ⟨q, _, rfl, .inr (SqT.of upd_same), rfl, flat_strs _, false, ?_, ?_⟩
        · show V.bl (if false = true then _ else inV (V.str z) ((ws.take i).map V.str)) = V.bl false
          rw [inV_str (nodup_take gd.nd hz)]
          rfl
        · refine iteF ?_
          exact ⟨sm4.trans (same_upd hq), _, _, rfl⟩
      · rintro σ H1 ⟨sm, v1, v2, rfl⟩
        exact k H1 sm
theorem Sq.len {K : PySem.W.Frag} {H : Hp} {a : Addr} {xs : List V} (h : Sq K H a xs) : LenV K (.ref a) H xs.length := by
  rcases h with h | h
  · exact .inl ⟨_, h, rfl⟩
  · exact .inr ⟨_, h, rfl⟩
theorem scGroup : FnScope ["deeds"] ["deeds"] (defScope sCheckGroup) := ⟨rfl, rfl, rfl, by decide +kernel, rfl, by decide +kernel, by decide +kernel⟩
theorem ok_group {f fC fW : Addr} {fd fdC fdW : FuncData} (D : Df K mg "check_group" sCheckGroup ["deeds"] f fd) (DC : Df K mg "check_different" sCheckDiff ["deeds"] fC fdC) (DW : Df K mg "is_word" sIsWord ["value"] fW fdW) (T : Bt2 mg) : FnOk P w K mg base CX0 3 f fd ["deeds"] (spDeeds K) := by
  have GC : FnOk P w K mg base CX0 2 fC fdC ["deeds"] (spDeeds K) := ok_diff DC DW T
  refine D.F.ok scGroup (fun vs H Q E h => ?_) (fun cdv A outer s H vs Q E hr h => ?_)
  · obtain ⟨a, ws, rfl, _⟩ := h
    rfl
  · obtain ⟨a, ws, rfl, ha, gd, k⟩ := h
    refine ⟨_, pss_cons (ps_expr (pe_call GC hr rfl DC.g DC.F.kp DC.b .nil pass0 (pa_cons (pv 0) pa_nil)))
      (pss_one (ps_if (pt_cmpR op_eq (pe_callB call_len (by rfl) T.len PySem.boot_len (pa_cons (pv 0) pa_nil)) pe_int (nomark _)) pss_never pss_nil)), ?_⟩
    refine ⟨_, rfl, a, ws, rfl, ha, gd, fun H1 sm => ?_⟩
    refine ⟨_, rfl, _, _, rfl, (ha.same sm).len, rfl, _, rfl, ?_⟩
    refine ite2 (fun h => ?_) (fun _ => k H1 sm)
    have := of_decide_eq_true h
    injection this with this
    have := gd.len.1
    rw [List.length_map] at *
    omega
theorem scDeeds : FnScope ["deeds"] ["deeds"] (defScope sCheckDeeds) := ⟨rfl, rfl, rfl, by decide +kernel, rfl, by decide +kernel, by decide +kernel⟩
theorem ok_deeds {f fG fC fW : Addr} {fd fdG fdC fdW : FuncData} (D : Df K mg "check_deeds" sCheckDeeds ["deeds"] f fd) (DG : Df K mg "check_group" sCheckGroup ["deeds"] fG fdG) (DC : Df K mg "check_different" sCheckDiff ["deeds"] fC fdC) (DW : Df K mg "is_word" sIsWord ["value"] fW fdW) (T : Bt2 mg) : FnOk P w K mg base CX0 4 f fd ["deeds"] (spDeeds K) := by
  have GC : FnOk P w K mg base CX0 3 fG fdG ["deeds"] (spDeeds K) := ok_group DG DC DW T
  refine D.F.ok scDeeds (fun vs H Q E h => ?_) (fun cdv A outer s H vs Q E hr h => ?_)
  · obtain ⟨a, ws, rfl, _⟩ := h
    rfl
  · obtain ⟨a, ws, rfl, ha, gd, k⟩ := h
    have hle : ws.length ≤ 6 := gd.len.2
    obtain ⟨tM, gM⟩ := T.MOST_DEEDS
    refine ⟨_, pss_cons (ps_expr (pe_call GC hr rfl DG.g DG.F.kp DG.b .nil pass0 (pa_cons (pv 0) pa_nil)))
      (pss_one (ps_if (pt_cmpR op_gt (pe_callB call_len (by rfl) T.len PySem.boot_len (pa_cons (pv 0) pa_nil)) (pe_glob (v := .int 6) rfl gM ⟨_, rfl⟩) (nomark _)) pss_never pss_nil)), ?_⟩
    refine ⟨_, rfl, a, ws, rfl, ha, gd, fun H1 sm => ?_⟩
    refine ⟨_, rfl, _, _, rfl, (ha.same sm).len, _, _, rfl, rfl, _, rfl, ?_⟩
    refine ite2 (fun h => ?_) (fun _ => k H1 sm)
    have := of_decide_eq_true h
    rw [List.length_map] at this
    exact absurd this (by omega)
end
end K1
set_option Elab.async false
set_option linter.all false
set_option maxRecDepth 100000
namespace K1
open PySem L2
theorem kit_list {K : PySem.W.Frag} : PySem.W.kitAny K (.type "list") [.type "list", .type "tuple"] = some true := by
  simp [PySem.W.kitAny, PySem.W.kitOne]
def spRows (K : PySem.W.Frag) : Sp := fun vs H Q _ => ∃ (b : Addr) (m : Nat) (as : List Addr) (rs : List (List Int)), vs = [.ref b, .int (m : Int)] ∧ SqL K H b (as.map V.ref) ∧ RowsAt H as rs ∧ 1 ≤ rs.length ∧ rs.length ≤ 60 ∧ m ≤ 100 ∧
  (∀ r ∈ rs, r.length = m ∧ ∀ x ∈ r, 0 ≤ x ∧ x < (rs.length : Int)) ∧ ∀ H', Same H H' → Q .non H'
def spTells (K : PySem.W.Frag) : Sp := fun vs H Q _ => ∃ (b : Addr) (ss : List Str), vs = [.ref b, .int (ss.length : Int)] ∧ SqL K H b (ss.map V.str) ∧ (∀ z ∈ ss, Tl z) ∧ ss.length ≤ 100 ∧ ∀ H', Same H H' → Q .non H'
theorem RowsAt.same {H H' : Hp} {as : List Addr} {rs : List (List Int)} (h : RowsAt H as rs) (s : Same H H') : RowsAt H' as rs := ⟨h.1, fun i a r e1 e2 => s _ _ (h.2 i a r e1 e2)⟩
def rLn (K : PySem.W.Frag) : List V → Hp → VK → Prop := fun xs H Q => ∃ x n, xs = [x] ∧ LenV K x H n ∧ Q (.int n) H
section
variable {P : Program} {w : World} {K : PySem.W.Frag} {mg : Str → Option Value} {base : Heap}
abbrev nRows : List Str := ["rows", "many", "index", "row", "state"]
theorem scRows : FnScope nRows ["rows", "many"] (defScope sCheckRows) := ⟨rfl, rfl, rfl, by decide +kernel, rfl, by decide +kernel, by decide +kernel⟩
theorem ok_rows {f fX fI : Addr} {fd fdX fdI : FuncData} (D : Df K mg "check_rows" sCheckRows ["rows", "many"] f fd) (DX : Df K mg "is_index" sIsIndex ["value", "many"] fX fdX) (DI : Df K mg "is_integer" sIsInt ["value"] fI fdI) (T : Bt2 mg) : FnOk P w K mg base CX0 3 f fd ["rows", "many"] (spRows K) := by
  have GX : FnOk P w K mg base CX0 2 fX fdX ["value", "many"] spIsIndex := ok_isindex DX DI T
  refine D.F.ok scRows (fun vs H Q E h => ?_) (fun cdv A outer s H vs Q E hr h => ?_)
  · obtain ⟨b, m, as, rs, rfl, _⟩ := h
    rfl
  · obtain ⟨b, m, as, rs, rfl, hb, hR, h1, h60, hm, hrow, k⟩ := h
    obtain ⟨tM, gM⟩ := T.MOST_STATES
    have hlen : (as.map V.ref).length = rs.length := by rw [List.length_map, hR.1]
    refine ⟨_, pss_cons (ps_if (pt_cmpR op_eq (pe_callB call_len (by rfl) T.len PySem.boot_len (pa_cons (pv 0) pa_nil)) pe_int (nomark _)) pss_never pss_nil)
      (pss_cons (ps_if (pt_cmpR op_gt (pe_callB call_len (by rfl) T.len PySem.boot_len (pa_cons (pv 0) pa_nil)) (pe_glob (v := .int 60) rfl gM ⟨_, rfl⟩) (nomark _)) pss_never pss_nil)
      (pss_one (ps_for PassesOwn.never rfl (pi_enum (by rfl) T.enumerate (pa_cons (pv 0) pa_nil)) (pg_tup (by rfl) (pgs_cons (pg_name (i := 2) scRows.nd rfl (Or.inl rfl)) (pgs_cons (pg_name (i := 3) scRows.nd rfl (Or.inl rfl)) pgs_nil)))
        (pss_cons (ps_if (PW.pt (pw_or (pt_not (pt_val (pe_callB call_isiT (by rfl) T.isinstance PyProof.Rows.boot_isinstance (pa_cons (pv 3) (pa_cons (pe_tup (pa_cons (pe_bltn (v := .ty "list") (by rfl) T.list PyProof.Rows.boot_list rfl) (pa_cons (pe_bltn (v := .ty "tuple") (by rfl) T.tuple PyProof.Rows.boot_tuple rfl) pa_nil))) pa_nil)))))
            (pw_or1 (pt_cmpR op_ne (pe_callB call_len (by rfl) T.len PySem.boot_len (pa_cons (pv 3) pa_nil)) (pv 1) (nomark _))))) pss_never pss_nil)
        (pss_one (ps_if (pt_not (pt_val (pe_callB (cr_all rfl) (by rfl) T.all PyProof.Rows.boot_all (pa_cons (pe_lc (own := [("state", 4)]) (g := gName 4) (by rfl) scRows.nd (pi_list (pv 3))
            (blkOk_by (own := [("state", 4)]) (N := nRows) (sc := defScope sCheckRows) (by decide +kernel)) (fun _ _ _ _ _ => pg_name (i := 4) scRows.nd rfl (Or.inl rfl)) (fun _ _ _ _ _ => pts_nil)
            (fun _ _ _ _ _ => pe_call GX hr rfl DX.g DX.F.kp DX.b .nil pass0 (pa_cons (pv 4) (pa_cons (pe_callB (r := rLn K) call_len (by rfl) T.len PySem.boot_len (pa_cons (pv 0) pa_nil)) pa_nil)))) pa_nil)))) pss_never pss_nil)))))), ?_⟩
    refine ⟨_, rfl, _, rs.length, rfl, .inl ⟨_, hb, hlen.symm⟩, rfl, _, rfl, ?_⟩
    refine ite2 (fun h => absurd (of_decide_eq_true h) (fun h => by injection h with h; omega)) (fun _ => ?_)
    refine ⟨_, rfl, _, rs.length, rfl, .inl ⟨_, hb, hlen.symm⟩, _, _, rfl, rfl, _, rfl, ?_⟩
    refine ite2 (fun h => absurd (of_decide_eq_true h) (by omega)) (fun _ => ?_)
    refine ⟨_, rfl, b, _, rfl, hb, for_it (walk_enum (K := K) (a := b) (xs := as.map V.ref)) (fun i σ H' => Same H H' ∧ ∃ v1 v2, σ = [some (.ref b), some (.int (m : Int)), v1, v2, none]) ⟨Same.refl H, none, none, rfl⟩ (fun i σ H' _ p => p.1.seq hb) ?_ ?_⟩
    · rintro i x σ H1 H2 hi ⟨sm, v1, v2, rfl⟩ ⟨t, x1, x2, rfl, ht, rfl, e1, e2⟩
      cases e1
      replace e2 : (as.map V.ref)[i]? = some x2 := e2
      rw [List.getElem?_map] at e2
      obtain ⟨a, ea, rfl⟩ := Option.map_eq_some_iff.mp e2
      have hir : i < rs.length := by rw [← hR.1]; exact (List.getElem?_eq_some_iff.mp ea).1
      have er : rs[i]? = some rs[i] := List.getElem?_eq_getElem hir
      obtain ⟨hl, hx⟩ := hrow _ (List.getElem_mem hir)
      have sm2 := sm.trans (same_upd (o := .tup [V.int (i : Nat), V.ref a]) ht)
      have ha2 := sm2 _ _ (hR.2 i a _ ea er)
      refine ⟨t, _, rfl, SqT.of upd_same, rfl, _, _, rfl, _, _, rfl, rfl, ?_⟩
      generalize upd H1 t (.tup [V.int (i : Nat), V.ref a]) = H3 at sm2 ha2 ⊢
      refine ⟨_, rfl, by show 2 ≤ sizeLine; decide, fun q hq => ?_⟩
      have sm4 := sm2.trans (same_upd (o := .tup [V.ty "list", V.ty "tuple"]) hq)
      have ha4 := (same_upd (o := .tup [V.ty "list", V.ty "tuple"]) hq) _ _ ha2
      refine ⟨_, q, _, _, _, true, rfl, upd_same, .cons (.ty "list") (.cons (.ty "tuple") .nil), .base (.lst ha4), kit_list, true, rfl, ?_⟩
      refine iteF ?_
      refine ⟨_, rfl, _, m, rfl, .inl ⟨_, SqL.of ha4, by rw [List.length_map]; exact hl.symm⟩, _, rfl, rfl, _, rfl, ?_⟩
      refine ite2 (fun h => ?_) (fun _ => ?_)
      · simp at h
      refine ⟨_, rfl, a, rfl, ⟨_, SqL.of ha4⟩, fun D hD => ?_⟩
      generalize upd H3 q (.tup [V.ty "list", V.ty "tuple"]) = H4 at sm4 ha4 hD ⊢
      refine lc_list (K := K) (a := a) (xs := (rs[i]).map V.int) (fun j H' => Same H4 H' ∧ H' D = some (.lst ((List.replicate j true).map V.bl))) ?_ ?_ ?_ ?_
      · exact ⟨same_upd hD, upd_same⟩
      · exact fun j H' _ p => p.1.seq (SqL.of ha4)
      · rintro j x H5 hj ⟨sm5, hD5⟩
        rw [List.getElem?_map] at hj
        obtain ⟨y, hy, rfl⟩ := Option.map_eq_some_iff.mp hj
        obtain ⟨y0, y1⟩ := hx y (List.mem_of_getElem? hy)
        have hjl : j < (rs[i]).length := (List.getElem?_eq_some_iff.mp hy).1
        refine ⟨rfl, _, rfl, _, rfl, _, rs.length, rfl, .inl ⟨_, (sm4.trans sm5).seq hb, hlen.symm⟩, y, rs.length, rfl, y0, y1, ?_⟩
        refine ⟨_, hD5, ?_, ?_, ?_⟩
        · simp; exact small1000 (by omega)
        · exact fun b' o e => by rw [upd_ne (ne_of_none e hD)]; exact sm5 b' o e
        · rw [upd_same, List.replicate_succ']
          simp
      · rintro H5 ⟨sm5, hD5⟩
        refine ⟨D, _, rfl, SqL.of hD5, ?_⟩
        have e : (List.replicate ((rs[i]).map V.int).length true).all id = true := by simp
        rw [e]
        refine ⟨true, rfl, ?_⟩
        refine iteF ?_
        exact ⟨sm4.trans sm5, _, _, rfl⟩
    · rintro σ H1 ⟨sm, v1, v2, rfl⟩
      exact k H1 sm
theorem scTells : FnScope ["tells", "many", "index", "tell"] ["tells", "many"] (defScope sCheckTells) := ⟨rfl, rfl, rfl, by decide +kernel, rfl, by decide +kernel, by decide +kernel⟩
theorem ok_tells {f fT : Addr} {fd fdT : FuncData} (D : Df K mg "check_tells" sCheckTells ["tells", "many"] f fd) (DT : Df K mg "is_tell" sIsTell ["value"] fT fdT) (T : Bt2 mg) : FnOk P w K mg base CX0 2 f fd ["tells", "many"] (spTells K) := by
  have GT : FnOk P w K mg base CX0 1 fT fdT ["value"] spIsTell := ok_istell DT T
  refine D.F.ok scTells (fun vs H Q E h => ?_) (fun cdv A outer s H vs Q E hr h => ?_)
  · obtain ⟨b, ss, rfl, _⟩ := h
    rfl
  · obtain ⟨b, ss, rfl, hb, ht, hl, k⟩ := h
    refine ⟨_, pss_cons (ps_for PassesOwn.never rfl (pi_enum (by rfl) T.enumerate (pa_cons (pv 0) pa_nil)) (pg_tup (by rfl) (pgs_cons (pg_name (i := 2) scTells.nd rfl (Or.inl rfl)) (pgs_cons (pg_name (i := 3) scTells.nd rfl (Or.inl rfl)) pgs_nil)))
        (pss_one (ps_if (pt_not (pt_val (pe_call GT hr rfl DT.g DT.F.kp DT.b .nil pass0 (pa_cons (pv 3) pa_nil)))) pss_never pss_nil)))
      (pss_one (ps_if (pt_cmpR op_ne (pe_callB call_len (by rfl) T.len PySem.boot_len (pa_cons (pv 0) pa_nil)) (pv 1) (nomark _)) pss_never pss_nil)), ?_⟩
    refine ⟨_, rfl, b, _, rfl, hb, for_it (walk_enum (K := K) (a := b) (xs := ss.map V.str)) (fun i σ H' => Same H H' ∧ ∃ v1 v2, σ = [some (.ref b), some (.int (ss.length : Int)), v1, v2]) ⟨Same.refl H, none, none, rfl⟩ (fun i σ H' _ p => p.1.seq hb) ?_ ?_⟩
    · rintro i x σ H1 H2 hi ⟨sm, v1, v2, rfl⟩ ⟨t, x1, x2, rfl, ht', rfl, e1, e2⟩
      cases e1
      replace e2 : (ss.map V.str)[i]? = some x2 := e2
      rw [List.getElem?_map] at e2
      obtain ⟨z, ez, rfl⟩ := Option.map_eq_some_iff.mp e2
      have sm2 := sm.trans (same_upd (o := .tup [V.int (i : Nat), V.str z]) ht')
      refine ⟨t, _, rfl, SqT.of upd_same, rfl, _, _, rfl, _, _, rfl, rfl, ?_⟩
      refine ⟨_, rfl, z, rfl, ht z (List.mem_of_getElem? ez), fun H3 sm3 => ⟨true, rfl, ?_⟩⟩
      refine iteF ?_
      exact ⟨sm2.trans sm3, _, _, rfl⟩
    · rintro σ H1 ⟨sm, v1, v2, rfl⟩
      refine ⟨_, rfl, _, ss.length, rfl, .inl ⟨_, sm.seq hb, (List.length_map _).symm⟩, _, rfl, rfl, _, rfl, ?_⟩
      refine ite2 (fun h => ?_) (fun _ => k H1 sm)
      simp at h
end
end K1
set_option Elab.async false
set_option linter.all false
set_option maxRecDepth 100000
namespace K1
open PySem L2
abbrev sMInit : Stmt := inClass (top 34) 0
abbrev sMLen : Stmt := inClass (top 34) 1
abbrev sMEq : Stmt := inClass (top 34) 2
theorem f_dr : ¬ (("deeds" : Str) = "rows") := by decide +kernel
theorem f_dt : ¬ (("deeds" : Str) = "tells") := by decide +kernel
theorem f_ds : ¬ (("deeds" : Str) = "start") := by decide +kernel
theorem f_rt : ¬ (("rows" : Str) = "tells") := by decide +kernel
theorem f_rs : ¬ (("rows" : Str) = "start") := by decide +kernel
theorem f_ts : ¬ (("tells" : Str) = "start") := by decide +kernel
theorem f_rd : ¬ (("rows" : Str) = "deeds") := by decide +kernel
theorem f_td : ¬ (("tells" : Str) = "deeds") := by decide +kernel
theorem f_tr : ¬ (("tells" : Str) = "rows") := by decide +kernel
def mf (t r l : Addr) (st : Int) : List (Str × V) := putF "start" (.int st) (putF "tells" (.ref l) (putF "rows" (.ref r) (putF "deeds" (.ref t) [])))
theorem mf_deeds (t r l : Addr) (st : Int) : (mf t r l st).lookup ("deeds" : Str) = some (.ref t) := by
  unfold mf
  rw [lookup_putF, if_neg f_ds, lookup_putF, if_neg f_dt, lookup_putF, if_neg f_dr, lookup_putF, if_pos rfl]
theorem mf_rows (t r l : Addr) (st : Int) : (mf t r l st).lookup ("rows" : Str) = some (.ref r) := by
  unfold mf
  rw [lookup_putF, if_neg f_rs, lookup_putF, if_neg f_rt, lookup_putF, if_pos rfl]
theorem mf_tells (t r l : Addr) (st : Int) : (mf t r l st).lookup ("tells" : Str) = some (.ref l) := by
  unfold mf
  rw [lookup_putF, if_neg f_ts, lookup_putF, if_pos rfl]
theorem mf_start (t r l : Addr) (st : Int) : (mf t r l st).lookup ("start" : Str) = some (.int st) := by
  unfold mf
  rw [lookup_putF, if_pos rfl]
theorem mf_no (t r l : Addr) (st : Int) {m : Str} (h1 : ¬ m = "start") (h2 : ¬ m = "tells") (h3 : ¬ m = "rows") (h4 : ¬ m = "deeds") : (mf t r l st).lookup m = none := by
  unfold mf
  rw [lookup_putF, if_neg h1, lookup_putF, if_neg h2, lookup_putF, if_neg h3, lookup_putF, if_neg h4]
  rfl
def RowsT (H : Hp) (as : List Addr) (rs : List (List Int)) : Prop := as.length = rs.length ∧ ∀ (i : Nat) (a : Addr) (r : List Int), as[i]? = some a → rs[i]? = some r → H a = some (.tup (r.map V.int))
theorem RowsT.same {H H' : Hp} {as : List Addr} {rs : List (List Int)} (h : RowsT H as rs) (s : Same H H') : RowsT H' as rs := ⟨h.1, fun i a r e1 e2 => s _ _ (h.2 i a r e1 e2)⟩
def MachAt (K : PySem.W.Frag) (C : Addr) (H : Hp) (x : Addr) (ws : List Str) (rs : List (List Int)) (ss : List Str) (st : Int) : Prop :=
  ∃ (dx t r l : Addr) (as : List Addr), H x = some (.ins C dx (mf t r l st)) ∧ SqF H t (ws.map V.str) ∧ H r = some (.tup (as.map V.ref)) ∧ RowsT H as rs ∧ H l = some (.tup (ss.map V.str))
/-- the parts that a machine takes -/
structure Parts (ws : List Str) (rs : List (List Int)) (ss : List Str) (st : Int) : Prop where
  gd : GoodD ws
  many : 1 ≤ rs.length ∧ rs.length ≤ 60
  row : ∀ r ∈ rs, r.length = ws.length ∧ ∀ x ∈ r, 0 ≤ x ∧ x < (rs.length : Int)
  tl : ss.length = rs.length ∧ ∀ z ∈ ss, Tl z
  st : 0 ≤ st ∧ st < (rs.length : Int)
def spMInit (K : PySem.W.Frag) (C : Addr) : Sp := fun vs H Q _ => ∃ (x dx a b l : Addr) (as : List Addr) (ws : List Str) (rs : List (List Int)) (ss : List Str) (st : Int), vs = [.ref x, .ref a, .ref b, .ref l, .int st] ∧ H x = some (.ins C dx []) ∧
  SqF H a (ws.map V.str) ∧ SqL K H b (as.map V.ref) ∧ RowsAt H as rs ∧ SqL K H l (ss.map V.str) ∧ Parts ws rs ss st ∧ ∀ H', MachAt K C H' x ws rs ss st → Kept x H H' → Q .non H'
/-- what the class brings -/
structure Tm (K : PySem.W.Frag) (mg : Str → Option Value) (C : Addr) : Prop where
  cl : Cls K C
  nD : NoAttr K C "deeds"
  nR : NoAttr K C "rows"
  nT : NoAttr K C "tells"
  nS : NoAttr K C "start"
  mgC : mg "Machine" = some (.ref C)
theorem tup_any {K : PySem.W.Frag} {H : Hp} {a : Addr} {ys : List V} {Qf : V → Hp → Prop} (h : Sq K H a ys) (k : ∀ t H', SqT K H' t ys → Same H H' → Qf (.ref t) H') :
    (SqL K H a ys ∧ ∀ l, H l = none → Qf (.ref l) (upd H l (.tup ys))) ∨ (SqT K H a ys ∧ Qf (.ref a) H) := by
  rcases h with h | h
  · exact .inl ⟨h, fun l hl => k l _ (SqT.of upd_same) (same_upd hl)⟩
  · exact .inr ⟨h, k a H h (Same.refl H)⟩
theorem Kept.seqI {K : PySem.W.Frag} {x C dx : Addr} {fs : List (Str × V)} {H H' : Hp} {a : Addr} {xs : List V} (e : Kept x H H') (hx : H x = some (.ins C dx fs)) (h : SqL K H a xs) : SqL K H' a xs := by
  rcases h with (h | ⟨o, h⟩) | h
  · exact .inl (.inl (e _ _ h (ne_of h hx (by intro z; cases z))))
  · exact .inl (.inr ⟨o, e _ _ h (ne_of h hx (by intro z; cases z))⟩)
  · exact .inr h
theorem Kept.seqTI {K : PySem.W.Frag} {x C dx : Addr} {fs : List (Str × V)} {H H' : Hp} {a : Addr} {xs : List V} (e : Kept x H H') (hx : H x = some (.ins C dx fs)) (h : SqT K H a xs) : SqT K H' a xs := by
  rcases h with (h | ⟨o, h⟩) | h
  · exact .inl (.inl (e _ _ h (ne_of h hx (by intro z; cases z))))
  · exact .inl (.inr ⟨o, e _ _ h (ne_of h hx (by intro z; cases z))⟩)
  · exact .inr h
theorem Kept.seqFI {x C dx : Addr} {fs : List (Str × V)} {H H' : Hp} {a : Addr} {xs : List V} (e : Kept x H H') (hx : H x = some (.ins C dx fs)) (h : SqF H a xs) : SqF H' a xs := e.seqF hx (by intro o ys z; cases z) h
theorem Kept.rowsI {x C dx : Addr} {fs : List (Str × V)} {H H' : Hp} {as : List Addr} {rs : List (List Int)} (e : Kept x H H') (hx : H x = some (.ins C dx fs)) (h : RowsAt H as rs) : RowsAt H' as rs :=
  ⟨h.1, fun i a r e1 e2 => e _ _ (h.2 i a r e1 e2) (ne_of (h.2 i a r e1 e2) hx (by intro z; cases z))⟩
theorem Kept.self {x : Addr} {H : Hp} {o : HO} : Kept x H (L2.upd H x o) := fun b u e n => by rw [upd_ne n]; exact e
theorem RowsT.kept {x C dx : Addr} {fs : List (Str × V)} {H H' : Hp} {as : List Addr} {rs : List (List Int)} (e : Kept x H H') (hx : H x = some (.ins C dx fs)) (h : RowsT H as rs) : RowsT H' as rs :=
  ⟨h.1, fun i a r e1 e2 => e _ _ (h.2 i a r e1 e2) (ne_of (h.2 i a r e1 e2) hx (by intro z; cases z))⟩
theorem RowsT.snoc {H : Hp} {as : List Addr} {rs : List (List Int)} {a : Addr} {r : List Int} (h : RowsT H as rs) (e : H a = some (.tup (r.map V.int))) : RowsT H (as ++ [a]) (rs ++ [r]) := by
  refine ⟨by simp [h.1], fun i b q e1 e2 => ?_⟩
  by_cases hi : i < as.length
  · rw [List.getElem?_append_left hi] at e1
    rw [List.getElem?_append_left (by rw [← h.1]; exact hi)] at e2
    exact h.2 i b q e1 e2
  · rw [List.getElem?_append_right (by omega)] at e1
    rw [List.getElem?_append_right (by rw [← h.1]; omega), ← h.1] at e2
    cases hj : i - as.length with
    | zero =>
      rw [hj] at e1 e2
      simp at e1 e2
      rw [← e1, ← e2]; exact e
    | succ j => rw [hj] at e1; simp at e1
def rTu (K : PySem.W.Frag) : List V → Hp → VK → Prop := fun xs H Q => ∃ p ys, xs = [.ref p] ∧ ((SqL K H p ys ∧ ∀ l, H l = none → Q (.ref l) (upd H l (.tup ys))) ∨ (SqT K H p ys ∧ Q (.ref p) H))
section
variable {P : Program} {w : World} {K : PySem.W.Frag} {mg : Str → Option Value} {base : Heap}
abbrev pInit : List Str := ["self", "deeds", "rows", "tells", "start"]
abbrev nInit : List Str := ["self", "deeds", "rows", "tells", "start", "row"]
theorem scMInit : FnScope nInit pInit (defScope sMInit) := ⟨rfl, rfl, rfl, by decide +kernel, rfl, by decide +kernel, by decide +kernel⟩
abbrev MI (K : PySem.W.Frag) (f : Addr) (fd : FuncData) : Prop := FunD K "__init__" "Machine.__init__" (defArgs sMInit) (defBody sMInit) (defScope sMInit) [.int 0] [] f fd
theorem ok_minit {C f fCd fG fD fW fR fX fI fT fL : Addr} {fd fdCd fdG fdD fdW fdR fdX fdI fdT fdL : FuncData} (F : MI K f fd) (M : Tm K mg C) (T : Bt2 mg)
    (DCd : Df K mg "check_deeds" sCheckDeeds ["deeds"] fCd fdCd) (DG : Df K mg "check_group" sCheckGroup ["deeds"] fG fdG) (DD : Df K mg "check_different" sCheckDiff ["deeds"] fD fdD) (DW : Df K mg "is_word" sIsWord ["value"] fW fdW)
    (DR : Df K mg "check_rows" sCheckRows ["rows", "many"] fR fdR) (DX : Df K mg "is_index" sIsIndex ["value", "many"] fX fdX) (DI : Df K mg "is_integer" sIsInt ["value"] fI fdI)
    (DT : Df K mg "check_tells" sCheckTells ["tells", "many"] fT fdT) (DL : Df K mg "is_tell" sIsTell ["value"] fL fdL) : FnOk P w K mg base CX0 5 f fd pInit (spMInit K C) := by
  have GC : FnOk P w K mg base CX0 4 fCd fdCd ["deeds"] (spDeeds K) := ok_deeds DCd DG DD DW T
  have GR : FnOk P w K mg base CX0 3 fR fdR ["rows", "many"] (spRows K) := ok_rows DR DX DI T
  have GT : FnOk P w K mg base CX0 2 fT fdT ["tells", "many"] (spTells K) := ok_tells DT DL T
  have GX : FnOk P w K mg base CX0 2 fX fdX ["value", "many"] spIsIndex := ok_isindex DX DI T
  refine F.ok scMInit (fun vs H Q E h => ?_) (fun cdv A outer s H vs Q E hr h => ?_)
  · obtain ⟨x, dx, a, b, l, as, ws, rs, ss, st, rfl, _⟩ := h
    rfl
  · obtain ⟨x, dx, a, b, l, as, ws, rs, ss, st, rfl, hx, ha, hb, hR, hl, pt, k⟩ := h
    have hr2 : Room 2 _ := hr.mono (by decide)
    have hr3 : Room 3 _ := hr.mono (by decide)
    obtain ⟨t2, ht2, hq2⟩ : ∃ t2, PSs (cxOf CX0 P w K mg base nInit "Machine.__init__" (defScope sMInit) f cdv A outer s H E) ((defBody sMInit).drop 5) t2 ∧ ∀ (t : Addr) (H5 : Hp), H5 x = some (.ins C dx (putF "deeds" (.ref t) [])) →
        SqF H5 t (ws.map V.str) → SqL K H5 b (as.map V.ref) → RowsAt H5 as rs → SqL K H5 l (ss.map V.str) → Kept x H H5 → t2 { nx := fun _ H' => Q .non H', rt := Q } (start nInit [.ref x, .ref a, .ref b, .ref l, .int st]) H5 := by
      refine ⟨_, pss_cons (ps_fld (pv 0) (pe_callTy call_tuple_of (by rfl) T.tuple PyProof.Rows.boot_tuple (pa_cons (pe_lc (own := [("row", 5)]) (g := gName 5) (by rfl) scMInit.nd (pi_list (pv 2))
            (blkOk_by (own := [("row", 5)]) (N := nInit) (sc := defScope sMInit) (by decide +kernel)) (fun _ _ _ _ _ => pg_name (i := 5) scMInit.nd rfl (Or.inl rfl)) (fun _ _ _ _ _ => pts_nil)
            (fun _ _ _ _ _ => pe_callTy (r := rTu K) call_tuple_of (by rfl) T.tuple PyProof.Rows.boot_tuple (pa_cons (pv 5) pa_nil))) pa_nil)) rfl)
        (pss_cons (ps_fld (pv 0) (pe_callTy call_tuple_of (by rfl) T.tuple PyProof.Rows.boot_tuple (pa_cons (pv 3) pa_nil)) rfl)
        (pss_one (ps_fld (pv 0) (pv 4) rfl))), ?_⟩
      intro t H5 hx5 ht5 hb5 hR5 hl5 kk5
      refine ⟨_, rfl, b, rfl, ⟨_, hb5⟩, fun D hD => ?_⟩
      refine lc_list (K := K) (a := b) (xs := as.map V.ref) (fun i H' => Same H5 H' ∧ ∃ bs : List Addr, bs.length = i ∧ H' D = some (.lst (bs.map V.ref)) ∧ RowsT H' bs (rs.take i) ∧ ∀ q ∈ bs, q ≠ D) ?_ ?_ ?_ ?_
      · exact ⟨same_upd hD, [], rfl, upd_same, ⟨by simp, fun i a r e => by simp at e⟩, by simp⟩
      · exact fun i H' _ p => p.1.seq hb5
      · rintro i y H6 hi ⟨sm6, bs, hbs, hD6, hR6, hnD⟩
        rw [List.getElem?_map] at hi
        obtain ⟨ai, eai, rfl⟩ := Option.map_eq_some_iff.mp hi
        have hir : i < rs.length := by rw [← hR.1]; exact (List.getElem?_eq_some_iff.mp eai).1
        have eri : rs[i]? = some rs[i] := List.getElem?_eq_getElem hir
        have ha6 := sm6 _ _ (hR5.2 i ai _ eai eri)
        refine ⟨rfl, _, rfl, ai, _, rfl, .inl ⟨SqL.of ha6, fun q hq => ?_⟩⟩
        have nDq : D ≠ q := ne_of_none hD6 hq
        have h60 := pt.many.2
        refine ⟨_, (by rw [upd_ne nDq]; exact hD6), ?_, ?_, bs ++ [q], by simp [hbs], by rw [upd_same]; simp, ?_, ?_⟩
        · rw [List.length_map]; exact small1000 (by omega)
        · exact fun c o e => by rw [upd_ne (ne_of_none e hD), upd_ne (ne_of_none (sm6 _ _ e) hq)]; exact sm6 _ _ e
        · have e7 : RowsT (upd H6 q (.tup ((rs[i]).map V.int))) (bs ++ [q]) (rs.take i ++ [rs[i]]) := (hR6.same (same_upd hq)).snoc upd_same
          rw [List.take_add_one, eri]
          refine ⟨e7.1, fun j c r e1 e2 => ?_⟩
          have hm := List.mem_of_getElem? e1
          have : c ≠ D := by
            rcases List.mem_append.mp hm with h | h
            · exact hnD c h
            · rw [List.mem_singleton.mp h]; exact nDq.symm
          rw [upd_ne this]
          exact e7.2 j c r e1 e2
        · intro c hc
          rcases List.mem_append.mp hc with h | h
          · exact hnD c h
          · rw [List.mem_singleton.mp h]; exact nDq.symm
      · rintro H6 ⟨sm6, bs, hbs, hD6, hR6, hnD⟩
        have etk : rs.take (as.map V.ref).length = rs := by rw [List.length_map, hR.1, List.take_length]
        rw [etk] at hR6
        refine ⟨D, _, rfl, .inl ⟨SqL.of hD6, fun r hr7 => ?_⟩⟩
        have sr := same_upd (o := .tup (bs.map V.ref)) hr7
        have sm7 := sm6.trans sr
        have hx7 := sm7 _ _ hx5
        have hr7' : upd H6 r (.tup (bs.map V.ref)) r = some (.tup (bs.map V.ref)) := upd_same
        have hR7 := hR6.same sr
        have hl7 := sm7.seq hl5
        have ht7 := ht5.same sm7
        have kk7 : Kept x H (upd H6 r (.tup (bs.map V.ref))) := kk5.trans (.same sm7)
        generalize upd H6 r (.tup (bs.map V.ref)) = H7 at sm7 hx7 hr7' hR7 hl7 ht7 kk7 ⊢
        refine ⟨_, rfl, x, C, dx, _, rfl, hx7, M.cl, M.nR, (by show 1 < 1000; decide), ?_⟩
        have k8 : Kept x H7 (upd H7 x (.ins C dx (putF "rows" (.ref r) (putF "deeds" (.ref t) [])))) := Kept.self
        have hx8 : upd H7 x (.ins C dx (putF "rows" (.ref r) (putF "deeds" (.ref t) []))) x = some (.ins C dx (putF "rows" (.ref r) (putF "deeds" (.ref t) []))) := upd_same
        have hr8 := k8 _ _ hr7' (ne_of hr7' hx7 (by intro z; cases z))
        have hR8 := RowsT.kept k8 hx7 hR7
        have hl8 := k8.seqI hx7 hl7
        have ht8 := k8.seqFI hx7 ht7
        have kk8 := kk7.trans k8
        generalize upd H7 x (.ins C dx (putF "rows" (.ref r) (putF "deeds" (.ref t) []))) = H8 at k8 hx8 hr8 hR8 hl8 ht8 kk8 ⊢
        -- self.tells
        refine ⟨_, rfl, l, _, rfl, .inl ⟨hl8, fun l' hl9 => ?_⟩⟩
        have sl := same_upd (o := .tup (ss.map V.str)) hl9
        have hx9 := sl _ _ hx8
        have hl9' : upd H8 l' (.tup (ss.map V.str)) l' = some (.tup (ss.map V.str)) := upd_same
        have hr9 := sl _ _ hr8
        have hR9 := hR8.same sl
        have ht9 := ht8.same sl
        have kk9 : Kept x H (upd H8 l' (.tup (ss.map V.str))) := kk8.trans (.same sl)
        generalize upd H8 l' (.tup (ss.map V.str)) = H9 at hx9 hl9' hr9 hR9 ht9 kk9 ⊢
        refine ⟨_, rfl, x, C, dx, _, rfl, hx9, M.cl, M.nT, (by show 2 < 1000; decide), ?_⟩
        have k10 : Kept x H9 (upd H9 x (.ins C dx (putF "tells" (.ref l') (putF "rows" (.ref r) (putF "deeds" (.ref t) []))))) := Kept.self
        have hx10 : upd H9 x (.ins C dx (putF "tells" (.ref l') (putF "rows" (.ref r) (putF "deeds" (.ref t) [])))) x = some (.ins C dx (putF "tells" (.ref l') (putF "rows" (.ref r) (putF "deeds" (.ref t) [])))) := upd_same
        have hl10 := k10 _ _ hl9' (ne_of hl9' hx9 (by intro z; cases z))
        have hr10 := k10 _ _ hr9 (ne_of hr9 hx9 (by intro z; cases z))
        have hR10 := RowsT.kept k10 hx9 hR9
        have ht10 := k10.seqFI hx9 ht9
        have kk10 := kk9.trans k10
        generalize upd H9 x (.ins C dx (putF "tells" (.ref l') (putF "rows" (.ref r) (putF "deeds" (.ref t) [])))) = H10 at k10 hx10 hl10 hr10 hR10 ht10 kk10 ⊢
        -- self.start
        refine ⟨_, rfl, _, rfl, x, C, dx, _, rfl, hx10, M.cl, M.nS, (by show 3 < 1000; decide), ?_⟩
        have k11 : Kept x H10 (upd H10 x (.ins C dx (mf t r l' st))) := Kept.self
        exact k _ ⟨dx, t, r, l', bs, upd_same, k11.seqFI hx10 ht10, k11 _ _ hr10 (ne_of hr10 hx10 (by intro z; cases z)), RowsT.kept k11 hx10 hR10, k11 _ _ hl10 (ne_of hl10 hx10 (by intro z; cases z))⟩ (kk10.trans k11)
    have lnR : ∀ {H' : Hp}, Same H H' → LenV K (.ref b) H' rs.length := fun sm => .inl ⟨_, sm.seq hb, by rw [List.length_map, hR.1]⟩
    refine ⟨_, (pss_cons (ps_expr (pe_call GC hr rfl DCd.g DCd.F.kp DCd.b .nil pass0 (pa_cons (pv 1) pa_nil)))
      (pss_cons (ps_expr (pe_call GR hr3 rfl DR.g DR.F.kp DR.b .nil pass0 (pa_cons (pv 2) (pa_cons (pe_callB call_len (by rfl) T.len PySem.boot_len (pa_cons (pv 1) pa_nil)) pa_nil))))
      (pss_cons (ps_expr (pe_call GT hr2 rfl DT.g DT.F.kp DT.b .nil pass0 (pa_cons (pv 3) (pa_cons (pe_callB call_len (by rfl) T.len PySem.boot_len (pa_cons (pv 2) pa_nil)) pa_nil))))
      (pss_cons (ps_if (pt_not (pt_val (pe_call GX hr2 rfl DX.g DX.F.kp DX.b .nil pass0 (pa_cons (pv 4) (pa_cons (pe_callB call_len (by rfl) T.len PySem.boot_len (pa_cons (pv 2) pa_nil)) pa_nil))))) pss_never pss_nil)
      (pss_cons (ps_fld (pv 0) (pe_callTy call_tuple_of (by rfl) T.tuple PyProof.Rows.boot_tuple (pa_cons (pv 1) pa_nil)) rfl) ht2))))), ?_⟩
    refine ⟨_, rfl, a, ws, rfl, .inr ha.sq, pt.gd, fun H1 sm1 => ?_⟩
    refine ⟨_, rfl, _, rfl, _, ws.length, rfl, (by have := Sq.len (K := K) (.inr (ha.same sm1).sq); rwa [List.length_map] at this), b, ws.length, as, rs, rfl, sm1.seq hb, hR.same sm1, pt.many.1, pt.many.2, (by have := pt.gd.len.2; omega), pt.row, fun H2 sm2 => ?_⟩
    have s2 := sm1.trans sm2
    refine ⟨_, rfl, _, rfl, _, rs.length, rfl, lnR s2, l, ss, by rw [pt.tl.1]; rfl, s2.seq hl, pt.tl.2, by rw [pt.tl.1]; have := pt.many.2; omega, fun H3 sm3 => ?_⟩
    have s3 := s2.trans sm3
    refine ⟨_, rfl, _, rfl, _, rs.length, rfl, lnR s3, st, rs.length, rfl, pt.st.1, pt.st.2, true, rfl, ?_⟩
    refine iteF ?_
    have fin : ∀ (t : Addr) (H4 : Hp), SqF H4 t (ws.map V.str) → Same H3 H4 → t2 { nx := fun _ H' => Q .non H', rt := Q } (start nInit [.ref x, .ref a, .ref b, .ref l, .int st]) (upd H4 x (.ins C dx (putF "deeds" (.ref t) []))) := fun t H4 ht4 sm4 => by
      have s4 := s3.trans sm4
      have hx4 := s4 _ _ hx
      have k5 : Kept x H4 (upd H4 x (.ins C dx (putF "deeds" (.ref t) []))) := Kept.self
      exact hq2 t _ upd_same (k5.seqFI hx4 ht4) (k5.seqI hx4 (s4.seq hb)) (k5.rowsI hx4 (hR.same s4)) (k5.seqI hx4 (s4.seq hl)) ((Kept.same s4).trans k5)
    exact ⟨_, rfl, a, ws.map V.str, rfl, .inr ⟨(ha.same s3).sq, ⟨_, rfl, x, C, dx, _, rfl, s3 _ _ hx, M.cl, M.nD, (by show 0 < 1000; decide), fin a _ (ha.same s3) (Same.refl _)⟩⟩⟩
end
end K1
set_option Elab.async false
set_option linter.all false
set_option maxRecDepth 100000
namespace K1
open PySem L2
abbrev sMade : Stmt := top 46
theorem pk_deeds (t r l : Addr) (s : Int) : valV (plainK t r l s) kDeeds = some (.ref t) := valV_pos rfl
theorem pk_rows (t r l : Addr) (s : Int) : valV (plainK t r l s) kRows = some (.ref r) := by
  have h1 : ¬ (kDeeds = kRows) := by decide +kernel
  unfold plainK; rw [valV_neg h1]; exact valV_pos rfl
theorem pk_tells (t r l : Addr) (s : Int) : valV (plainK t r l s) kTells = some (.ref l) := by
  have h1 : ¬ (kDeeds = kTells) := by decide +kernel
  have h2 : ¬ (kRows = kTells) := by decide +kernel
  unfold plainK; rw [valV_neg h1, valV_neg h2]; exact valV_pos rfl
theorem pk_start (t r l : Addr) (s : Int) : valV (plainK t r l s) kStart = some (.int s) := by
  have h1 : ¬ (kDeeds = kStart) := by decide +kernel
  have h2 : ¬ (kRows = kStart) := by decide +kernel
  have h3 : ¬ (kTells = kStart) := by decide +kernel
  unfold plainK; rw [valV_neg h1, valV_neg h2, valV_neg h3]; exact valV_pos rfl
theorem gDeeds {H : Hp} {p t r l : Addr} {s : Int} (h : H p = some (.dK (plainK t r l s))) : DGet H p (.str "deeds") (some (.ref t)) := by have := DGet.k (k := kDeeds) h; rw [pk_deeds] at this; exact this
theorem gRows {H : Hp} {p t r l : Addr} {s : Int} (h : H p = some (.dK (plainK t r l s))) : DGet H p (.str "rows") (some (.ref r)) := by have := DGet.k (k := kRows) h; rw [pk_rows] at this; exact this
theorem gTells {H : Hp} {p t r l : Addr} {s : Int} (h : H p = some (.dK (plainK t r l s))) : DGet H p (.str "tells") (some (.ref l)) := by have := DGet.k (k := kTells) h; rw [pk_tells] at this; exact this
theorem gStart {H : Hp} {p t r l : Addr} {s : Int} (h : H p = some (.dK (plainK t r l s))) : DGet H p (.str "start") (some (.int s)) := by have := DGet.k (k := kStart) h; rw [pk_start] at this; exact this
def spMade (K : PySem.W.Frag) (C : Addr) : Sp := fun vs H Q _ => ∃ (p : Addr) (ws : List Str) (rs : List (List Int)) (ss : List Str) (st : Int), vs = [.ref p] ∧ PlainAt H p ws rs ss st ∧ Parts ws rs ss st ∧
  ∀ (x : Addr) (H' : Hp), H x = none → MachAt K C H' x ws rs ss st → Same H H' → Q (.ref x) H'
section
variable {P : Program} {w : World} {K : PySem.W.Frag} {mg : Str → Option Value} {base : Heap}
abbrev nMade : List Str := ["_law_plain_here", "_law_row"]
theorem scMade : FnScope nMade ["_law_plain_here"] (defScope sMade) := ⟨rfl, rfl, rfl, by decide +kernel, rfl, by decide +kernel, by decide +kernel⟩
def rLi (K : PySem.W.Frag) : List V → Hp → VK → Prop := fun xs H Q => ∃ p ys, xs = [.ref p] ∧ (SqL K H p ys ∨ SqT K H p ys) ∧ ∀ l, H l = none → Q (.ref l) (upd H l (.lst ys))
theorem ok_made {C f fI : Addr} {fd fdI : FuncData} (D : Df K mg "_law_made" sMade ["_law_plain_here"] f fd) (M : Tm K mg C) (T : Bt2 mg) (Mk' : Mk K C fI) (GI : FnOk P w K mg base CX0 5 fI fdI pInit (spMInit K C)) (bI : Binds K fdI pInit []) : FnOk P w K mg base CX0 7 f fd ["_law_plain_here"] (spMade K C) := by
  refine D.F.ok scMade (fun vs H Q E h => ?_) (fun cdv A outer s H vs Q E hr h => ?_)
  · obtain ⟨p, ws, rs, ss, st, rfl, _⟩ := h
    rfl
  · obtain ⟨p, ws, rs, ss, st, rfl, ⟨t, r, l, as, hp, ht, hr', hl, hR⟩, pt, k⟩ := h
    have hu := hu_of hr
    refine ⟨_, pss_one (ps_ret (pe_make Mk' GI hr rfl M.mgC bI .nil pass0 (pa_cons (pe_dget hu (pv 0) pe_str (fun _ _ => rfl))
      (pa_cons (pe_lc (own := [("_law_row", 1)]) (g := gName 1) (by rfl) scMade.nd (pi_list (pe_dget hu (pv 0) pe_str (fun _ _ => rfl)))
            (blkOk_by (own := [("_law_row", 1)]) (N := nMade) (sc := defScope sMade) (by decide +kernel)) (fun _ _ _ _ _ => pg_name (i := 1) scMade.nd rfl (Or.inl rfl)) (fun _ _ _ _ _ => pts_nil)
            (fun _ _ _ _ _ => pe_callTy (r := rLi K) call_list_of (by rfl) T.list PyProof.Rows.boot_list (pa_cons (pv 1) pa_nil)))
      (pa_cons (pe_callTy call_list_of (by rfl) T.list PyProof.Rows.boot_list (pa_cons (pe_dget hu (pv 0) pe_str (fun _ _ => rfl)) pa_nil))
      (pa_cons (pe_dget hu (pv 0) pe_str (fun _ _ => rfl)) pa_nil)))))), ?_⟩
    refine ⟨_, rfl, p, _, rfl, gDeeds hp, _, rfl, p, _, rfl, gRows hp, r, rfl, ⟨_, SqL.of hr'⟩, fun D1 hD => ?_⟩
    refine lc_list (K := K) (a := r) (xs := as.map V.ref) (fun i H' => Same H H' ∧ ∃ bs : List Addr, bs.length = i ∧ H' D1 = some (.lst (bs.map V.ref)) ∧ RowsAt H' bs (rs.take i) ∧ ∀ q ∈ bs, q ≠ D1) ?_ ?_ ?_ ?_
    · exact ⟨same_upd hD, [], rfl, upd_same, ⟨by simp, fun i a r e => by simp at e⟩, by simp⟩
    · exact fun i H' _ q => SqL.of (q.1 _ _ hr')
    · rintro i y H6 hi ⟨sm6, bs, hbs, hD6, hR6, hnD⟩
      rw [List.getElem?_map] at hi
      obtain ⟨ai, eai, rfl⟩ := Option.map_eq_some_iff.mp hi
      have hir : i < rs.length := by rw [← hR.1]; exact (List.getElem?_eq_some_iff.mp eai).1
      have eri : rs[i]? = some rs[i] := List.getElem?_eq_getElem hir
      have ha6 := sm6 _ _ (hR.2 i ai _ eai eri)
      refine ⟨rfl, _, rfl, ai, _, rfl, .inl (SqL.of ha6), fun q hq => ?_⟩
      have nDq : D1 ≠ q := ne_of_none hD6 hq
      have h60 := pt.many.2
      refine ⟨_, (by rw [upd_ne nDq]; exact hD6), ?_, ?_, bs ++ [q], by simp [hbs], by rw [upd_same]; simp, ?_, ?_⟩
      · rw [List.length_map]; exact small1000 (by omega)
      · exact fun c o e => by rw [upd_ne (ne_of_none e hD), upd_ne (ne_of_none (sm6 _ _ e) hq)]; exact sm6 _ _ e
      · have e7 : RowsAt (upd H6 q (.lst ((rs[i]).map V.int))) (bs ++ [q]) (rs.take i ++ [rs[i]]) := (hR6.same (same_upd hq)).snoc upd_same
        rw [List.take_add_one, eri]
        refine ⟨e7.1, fun j c r e1 e2 => ?_⟩
        have hm := List.mem_of_getElem? e1
        have : c ≠ D1 := by
          rcases List.mem_append.mp hm with h | h
          · exact hnD c h
          · rw [List.mem_singleton.mp h]; exact nDq.symm
        rw [upd_ne this]
        exact e7.2 j c r e1 e2
      · intro c hc
        rcases List.mem_append.mp hc with h | h
        · exact hnD c h
        · rw [List.mem_singleton.mp h]; exact nDq.symm
    · rintro H6 ⟨sm6, bs, hbs, hD6, hR6, hnD⟩
      have etk : rs.take (as.map V.ref).length = rs := by rw [List.length_map, hR.1, List.take_length]
      rw [etk] at hR6
      refine ⟨_, rfl, p, _, rfl, gTells (sm6 _ _ hp), l, _, rfl, .inl (SqL.of (sm6 _ _ hl)), fun l2 hl2 => ?_⟩
      have sl := same_upd (o := .lst (ss.map V.str)) hl2
      have s7 := sm6.trans sl
      refine ⟨_, rfl, p, _, rfl, gStart (s7 _ _ hp), ?_⟩
      intro x dx hx hdx ndx
      have zx : H x = none := s7.free hx
      have s8 : Same (upd H6 l2 (.lst (ss.map V.str))) (upd (upd (upd H6 l2 (.lst (ss.map V.str))) dx (.own x)) x (.ins C dx [])) := fun b o e => by
        rw [upd_ne (ne_of_none e hx), upd_ne (ne_of_none e hdx)]; exact e
      refine ⟨x, dx, t, D1, l2, bs, ws, rs, ss, st, rfl, upd_same, ((ht.same s7).same s8), SqL.of (s8 _ _ (sl _ _ hD6)), (hR6.same sl).same s8, SqL.of (s8 _ _ upd_same), pt, fun H9 hm hk => ⟨rfl, ?_⟩⟩
      exact k x H9 zx hm fun b o e => hk b o (s8 _ _ (s7 _ _ e)) (ne_of_none e zx)
end
end K1
set_option Elab.async false
set_option linter.all false
set_option maxRecDepth 100000
/-! the package's own errors: made from their fields, kept in their dict -/
namespace K1
open PySem L2
structure Oer (K : PySem.W.Frag) (mg : Str → Option Value) (x : Str) (fs : List Str) (C fI : Addr) (fd : FuncData) (qual : Str) (st : Stmt) : Prop where
  T : OexC K C
  xf : XfC K C
  g : mg x = some (.ref C)
  ini : PySem.W.findIn K (.ref C) "__init__" = some (some (.ref fI))
  tI : PySem.W.typeIn K (.ref fI) = some (.type "function")
  no : ∀ f ∈ fs, PySem.W.findIn K (.ref C) f = some none
  F : Fun K "__init__" qual st fI fd
  b : Binds K fd ("self" :: fs) []
def spIni (C : Addr) (fs : List Str) : Sp := fun vs H Q _ => ∃ (a : Addr) (ys : List V), vs = .ref a :: ys ∧ ys.length = fs.length ∧ H a = some (exo a C none) ∧
  ∀ dx, H dx = none → dx ≠ a → ∀ H', (∀ b o, H b = some o → b ≠ a → H' b = some o) → H' a = some (exo a C (some dx)) → H' dx = some (exd dx (fs.zip ys).reverse) → Q .non H'
/-- the reading of C(e, ..): d is the error's dict, new -/
theorem err_read {C : Addr} {fs : List Str} {vs : List V} {H1 : Hp} {Q : XK} (hl : fs.length ≤ 10) (e : vs.length = fs.length) (k : ∀ d G, Same H1 G → H1 d = none → G d = some (.xd (fs.zip vs).reverse) → Q (.ref C) (some d) G) :
    vs.length ≤ 1000 ∧ ∀ a, H1 a = none → spIni C fs (.ref a :: (vs ++ [])) (upd H1 a (exo a C none))
      (fun v H2 => v = .non ∧ ∃ (d : Addr) (gs : List (Str × V)), H2 a = some (exo a C (some d)) ∧ H2 d = some (exd d gs) ∧ H1 d = none ∧ Q (.ref C) (some d) (upd (del H2 a) d (.xd gs))) (fun _ _ _ => False) := by
  refine ⟨by omega, fun a ha => ?_⟩
  rw [List.append_nil]
  refine ⟨a, vs, rfl, e, upd_same, fun dx hdx ne H' keep ea ed => ⟨rfl, dx, _, ea, ed, ?_, ?_⟩⟩
  · rw [upd_ne ne] at hdx; exact hdx
  · have h1 : H1 dx = none := by rw [upd_ne ne] at hdx; exact hdx
    refine k dx _ (fun b o eb => ?_) h1 upd_same
    have nb : b ≠ a := ne_of_none eb ha
    rw [upd_ne (ne_of_none eb h1), del_ne nb]
    exact keep b o (by rw [upd_ne nb]; exact eb) nb
end K1
set_option Elab.async false
set_option linter.all false
set_option maxRecDepth 100000
/-! several clauses, each `except X as e`, of one name e -/
namespace K1
open PySem L2 PySem.Spec PyProof.Rows
def endsI (D : Ends) (i : Nat) : Ends := { nx := fun u G => D.nx (u.set i none) G, rt := D.rt, bk := fun u G => D.bk (u.set i none) G, ct := fun u G => D.ct (u.set i none) G }
def wAsAll (K : PySem.W.Frag) (i : Nat) (Wo : WX) (D : Ends) : List (Value × (Addr → Value → Option Addr → TS)) → WX
  | [] => Wo
  | p :: r => fun cl dd u G => ∃ b, PySem.W.exmOne K cl p.1 = some b ∧ (b = true → ∀ a, G a = none → p.2 a cl dd (endsI D i) (u.set i (some (.ref a))) G) ∧ (b = false → wAsAll K i Wo D r cl dd u G)
inductive AsOk (X : Cx) (n : Str) : List ExceptHandler → List (Value × (Addr → Value → Option Addr → TS)) → Prop
  | nil : AsOk X n [] []
  | cons {x : Str} {c : Value} {ts : Addr → Value → Option Addr → TS} {b₀ : Stmt} {suite : List Stmt} {np q : Pos} {hds : List ExceptHandler} {l : List (Value × (Addr → Value → Option Addr → TS))} (hc : Names X x c)
      (hsu : ∀ (a : Addr) (oe : Obj) (cl : Value) (dd : Option Addr) (pn : List (Addr × Obj)), Zc cl dd oe → (∃ vs, oe.data = .fields vs) → PSs (X.suite a ((a, oe) :: pn)) (b₀ :: suite) (ts a cl dd)) (r : AsOk X n hds l) :
      AsOk X n (.ExceptHandler (some (.Name x np)) (some n) (b₀ :: suite) q :: hds) ((c, ts) :: l)
section
variable {X : Cx} {n : Str} {i : Nat} {body : List Stmt} {h₀ : ExceptHandler} {hds : List ExceptHandler} {l : List (Value × (Addr → Value → Option Addr → TS))} {pos : Pos} {tb : WX → TS} {Wo : WX}
theorem ps_try_asAll (e0 : X.stack = X.env :: X.outer) (e1 : X.env.frame = some X.env.locals) (nd : X.N.Nodup) (hi : X.N[i]? = some n) (hln : X.env.kindOf n = some .local) (tk : Takes X Wo)
    (hb : ∀ (W : WX) (pn : List (Addr × Obj)) (xe : Value → Shared → Prop), Takes (X.tr pn xe) W → PassesOwn (model X.prog X.w) X.A X.env xe → PSs (X.tr pn xe) body (tb W))
    (hh : AsOk X n (h₀ :: hds) l) : PS X (.Try body (h₀ :: hds) [] [] pos) (fun D u G => tb (wAsAll X.K i Wo D l) D u G) := by
  refine ⟨fun pins s u G D I0 go0 => ?_⟩
  have ok := I0.ok
  have fr : X.A.frames = some (X.env :: X.outer) := by rw [ok.frames, e0]
  have lc : Loc X.env.scope n := .inl hln
  refine wpAny_Try_except ?_
  have run0 := (hb (wAsAll X.K i Wo D l) (X.pn ++ pins) (fun e s₁ => wpAny (model X.prog X.w) X.A (noteFrame e X.env) (fun _ s₂ => wpAny (model X.prog X.w) X.A (setFlight e none) (fun _ s₃ =>
    wpAny (model X.prog X.w) X.A (handleBy e X.env (h₀ :: hds)) (SP X pins D) X.xe s₃) X.xe s₂) X.xe s₁) (fun v s' xx => ?_) PassesOwn.looking).run [] s u G D (I0.toTry _) go0
  · refine wpAny_mono run0 (fun f s1 hsp => ?_) (fun e s1 he => he)
    cases f with
    | next => exact let ⟨u', G', J', q⟩ := hsp; wpAny_execs_nil ⟨u', G', J'.ofTry ok, q⟩
    | brk => exact let ⟨u', G', J', q⟩ := hsp; ⟨u', G', J'.ofTry ok, q⟩
    | cont => exact let ⟨u', G', J', q⟩ := hsp; ⟨u', G', J'.ofTry ok, q⟩
    | ret w => exact let ⟨v, u', G', J', r, q⟩ := hsp; ⟨v, u', G', J'.ofTry ok, r, q⟩
  · obtain ⟨a, B, sI, pins', u', G', cl, dd, rfl, J', nb, up, sky, na, os, ag, w⟩ := xx
    have J : Inv X pins u' G' sI := J'.ofTry ok
    have sk : Sky B (X.env :: X.outer) a (Zc cl dd) X.env.locals s'.heap := by rw [← e0]; exact sky
    show wpAny (model X.prog X.w) X.A (noteFrame (.ref a) X.env) _ _ _
    refine Sky.land Zc.steady fr e1 sk fun h3 fl3 up3 => ?_
    have J3 : Inv X pins u' G' { s' with heap := h3 } := J.landed nb fl3.1 (up.trans up3) os ag
    obtain ⟨oe3, vs3, he3, hz3, hd3⟩ := fl3.there
    have out : ∀ {h : Heap} {o : Obj} {vs : Array Value}, h.FunFrames B (X.env :: X.outer) → h.get? a = some o → o.data = .fields vs → a ∉ frs (X.env :: X.outer) := fun {h o vs} ff e hdt hm => by
      obtain ⟨_, o', e', hnf⟩ := ff.mem hm
      cases e.symm.trans e'
      exact hnf _ hdt
    have nfr := out fl3.2.2.1 he3 hd3
    have nL : a ≠ X.env.locals := fun z => nfr (List.mem_filterMap.mpr ⟨X.env, List.mem_cons_self, by rw [e1, z]⟩)
    have nF : a ∉ X.fs := fun hm => let ⟨e, he, q⟩ := List.mem_filterMap.mp hm; nfr (List.mem_filterMap.mpr ⟨e, List.mem_cons_of_mem _ he, q⟩)
    have S3 := J3.suite he3 hd3 na nL nF
    have go : ∀ {hs' : List ExceptHandler} {l' : List (Value × (Addr → Value → Option Addr → TS))}, AsOk X n hs' l' → wAsAll X.K i Wo D l' cl dd u' G' →
        wpAny (model X.prog X.w) X.A (handleBy (.ref a) X.env hs') (SP X pins D) X.xe { s' with heap := h3 } := by
      intro hs' l' hk
      induction hk with
      | nil =>
        intro w
        refine wpAny_handleBy_nil ?_
        obtain ⟨k1, k2, k3, oe, vs, T, oT, tz, he, hz, hd, h1, hr⟩ := id fl3
        unfold PySem.passOn
        refine wpAny_bind (wpAny_field he hd h1 ?_)
        rw [if_neg (show ¬ ((Value.ref T == Value.none) = true) by simp)]
        have fin : wpAny (model X.prog X.w) X.A (setFlight (.ref a) X.env.frame) (fun _ s4 => wpAny (model X.prog X.w) X.A (throw (.ref a) : Sem Flow) (SP X pins D) X.xe s4) X.xe { s' with heap := h3 } := by
          rw [e1]
          refine HandSPX.setFlight_upZ fl3 fun h4 hh4 up4 => wpAny_throw (tk _ _ ?_)
          exact ⟨a, B, sI, pins, u', G', cl, dd, rfl, J, nb, (up.trans up3).trans up4, .inr (.inr (by rw [e0]; exact hh4)), na, os, ag, w⟩
        first
          | exact wpAny_bind (wpAny_pure (wpAny_bind fin))
          | exact wpAny_bind fin
      | @cons x c ts b₀ suite np q0 hds2 l2 hc hsu r ih =>
        intro w
        obtain ⟨b, hb1, yes, no⟩ := w
        refine wpAny_handleBy_cons (codeAny_handlers_test ?_) (by intro q; cases q)
        have LT : PySem.W.Looks (model X.prog X.w) h3 (typeOf (.ref a)) cl := fun A Q E s k q => wpAny_typeOf_ref (k _ _ he3) (by rw [hz3.1]; exact q)
        have LM := PySem.W.exm_one (M := model X.prog X.w) (J3.kIn) LT hb1
        have test : ∀ {Q : Value → Shared → Prop} {E : Value → Shared → Prop}, Q c { s' with heap := h3 } → wpAny (model X.prog X.w) (X.A.mark (some (.ref a))) (eval (.Name x np) X.env) Q E { s' with heap := h3 } := fun {Q E} q => by
          rcases hc with ⟨hg, hdbg, hm | ⟨hm, hv, hnn⟩⟩
          · exact ld_glob (X := X.suite a ((a, oe3) :: (X.pn ++ pins))) S3 hg hm q hdbg
          · exact ld_blt (X := X.suite a ((a, oe3) :: (X.pn ++ pins))) S3 hg hm hv q hnn hdbg
        refine test (LM.here ?_)
        cases b with
        | true =>
          refine codeAny_handlers_suite_as (HandSPX.lands_againZ fl3 fun h4 fl4 up4 => ?_)
          have J4 : Inv X pins u' G' { s' with heap := h4 } := J.landed nb fl4.1 ((up.trans up3).trans up4) os ag
          obtain ⟨oe4, vs4, he4, hz4, hd4⟩ := fl4.there
          have S4 := J4.suite he4 hd4 na nL nF
          refine store_ok (X := X.suite a ((a, oe4) :: (X.pn ++ pins))) (v := .ref a) S4 nd hi lc rfl (fun s5 S5 => ?_) (.inr hln)
          refine wpAny_mono ((hsu a oe4 cl dd (X.pn ++ pins) hz4 ⟨_, hd4⟩).run [] s5 _ G' _ S5 (yes rfl a na)) (fun f s6 hsp => ?_) (fun _ _ z => False.elim z)
          have close : ∀ {u6 : L2.St} {G6 : Hp} {Q : Shared → Prop}, Inv (X.suite a ((a, oe4) :: (X.pn ++ pins))) [] u6 G6 s6 → (∀ s7, Inv X pins (u6.set i none) G6 s7 → Q s7) →
              wpAny (model X.prog X.w) X.A (do bindName X.env n .none; unbindBehindTheSuite X.env n q0) (fun _ s7 => Q s7) X.xe s6 := fun {u6 G6 Q} S6 hq => gone_ok (S6.unsuite ok) nd hi hln hq
          cases f with
          | next => exact let ⟨u6, G6, S6, q6⟩ := hsp; close S6 fun s7 J7 => ⟨_, _, J7, q6⟩
          | brk => exact let ⟨u6, G6, S6, q6⟩ := hsp; close S6 fun s7 J7 => ⟨_, _, J7, q6⟩
          | cont => exact let ⟨u6, G6, S6, q6⟩ := hsp; close S6 fun s7 J7 => ⟨_, _, J7, q6⟩
          | ret z => exact let ⟨v6, u6, G6, S6, r6, q6⟩ := hsp; close S6 fun s7 J7 => ⟨_, _, _, J7, r6, q6⟩
        | false =>
          show wpAny _ X.A (handleBy (.ref a) X.env hds2) _ _ _
          exact ih (no rfl)
    exact go hh w
end
end K1
set_option Elab.async false
set_option linter.all false
set_option maxRecDepth 100000
/-! repr of plain values; what is told of a making -/
namespace L2
open PySem PySem.Spec PyProof.Rows
def reprV : V → Str
  | .non => "None"
  | .bl b => if b then "True" else "False"
  | .int i => toString i
  | .str z => PySem.reprText z
  | _ => ""
def reprOk : V → Prop
  | .non => True
  | .bl _ => True
  | .int i => i.natAbs.log2 < 1920
  | .str z => (PySem.reprText z).length ≤ sizeLine
  | _ => False
def rRepr : List V → Hp → VK → Prop := fun xs H Q => ∃ v, xs = [v] ∧ reprOk v ∧ Q (.str (reprV v)) H
theorem call_repr_any {X : Cx} : CallR X (.builtin "repr") rRepr := by
  intro pins s σ H xs us Q I r h
  obtain ⟨v, rfl, ok, q⟩ := h
  cases v with
  | non =>
    obtain ⟨u, rfl, rv⟩ := vals1 r
    obtain rfl : u = Value.none := rv
    exact PySem.P.repr_of_none ⟨.str _, H, I.tok _, ⟨_, rfl⟩, q⟩
  | bl b =>
    obtain ⟨u, rfl, rv⟩ := vals1 r
    obtain rfl : u = Value.bool b := rv
    exact PySem.P.repr_of_bool ⟨.str _, H, I.tok _, ⟨_, rfl⟩, q⟩
  | int i =>
    obtain ⟨u, rfl, t, rfl⟩ := vals1 r
    exact PySem.P.repr_of_int ok ⟨.str _, H, I.tok _, ⟨_, rfl⟩, q⟩
  | str z =>
    obtain ⟨u, rfl, t, rfl⟩ := vals1 r
    exact PySem.P.repr_of_str ⟨.str _, H, I.tok _, ⟨_, rfl⟩, q⟩ ok
  | _ => exact ok.elim
end L2
set_option Elab.async false
set_option linter.all false
set_option maxRecDepth 100000
/-! what counts as an integer, an index, a word, a tell: of any value -/
namespace K1
open PySem L2
inductive Th (K : PySem.W.Frag) (H : Hp) : V → String → Prop
  | non : Th K H .non "NoneType"
  | bl (b : Bool) : Th K H (.bl b) "bool"
  | int (i : Int) : Th K H (.int i) "int"
  | str (z : Str) (hl : z.length ≤ 1000) : Th K H (.str z) "str"
  | tup {a : Addr} {xs : List V} (e : H a = some (.tup xs)) : Th K H (.ref a) "tuple"
  | lst {a : Addr} {xs : List V} (e : H a = some (.lst xs)) : Th K H (.ref a) "list"
  | dic {a : Addr} {kv : List (Key × V)} (e : H a = some (.dK kv)) : Th K H (.ref a) "dict"
theorem Th.ty {K : PySem.W.Frag} {H : Hp} {v : V} {t : String} (h : Th K H v t) : TyX K H v (.type t) := by
  cases h with
  | non => exact .base .non
  | bl b => exact .base (.bl b)
  | int i => exact .base (.int i)
  | str z => exact .base (.str z)
  | tup e => exact .base (.tup e)
  | lst e => exact .base (.lst e)
  | dic e => exact .base (.dK e)
theorem Th.same {K : PySem.W.Frag} {H H' : Hp} {v : V} {t : String} (h : Th K H v t) (s : Same H H') : Th K H' v t := by
  cases h with
  | non => exact .non
  | bl b => exact .bl b
  | int i => exact .int i
  | str z hl => exact .str z hl
  | tup e => exact .tup (s _ _ e)
  | lst e => exact .lst (s _ _ e)
  | dic e => exact .dic (s _ _ e)
def isStr : V → Bool | .str _ => true | _ => false
def isInt : V → Bool | .int _ => true | .bl _ => true | _ => false
def isBl : V → Bool | .bl _ => true | _ => false
def intB : V → Bool | .int _ => true | _ => false
def ixB (v : V) (m : Int) : Bool := match v with | .int i => decide (0 ≤ i) && decide (i < m) | _ => false
def wordL : List Nat → Bool
  | [] => false
  | c :: r => decide ((c :: r).length ≤ 12) && (decide (c ∈ LE) && (c :: r).all fun x => decide (x ∈ AL))
def wordB : V → Bool | .str z => wordL z.cps.toList | _ => false
def tellL (l : List Nat) : Bool := decide (1 ≤ l.length) && (decide (l.length ≤ 60) && l.all fun x => decide (x ∈ TL'))
def tellB : V → Bool | .str z => tellL z.cps.toList | _ => false
section
variable {K : PySem.W.Frag} {H : Hp} {v : V} {t : String}
theorem Th.kStr (h : Th K H v t) : PySem.W.kitOne K (.type t) (.type "str") = some (isStr v) := by cases h <;> first | exact kit_ty (r := true) (by decide +kernel) | exact kit_ty (r := false) (by decide +kernel)
theorem Th.kInt (h : Th K H v t) : PySem.W.kitOne K (.type t) (.type "int") = some (isInt v) := by cases h <;> first | exact kit_ty (r := true) (by decide +kernel) | exact kit_ty (r := false) (by decide +kernel)
theorem Th.kBl (h : Th K H v t) : PySem.W.kitOne K (.type t) (.type "bool") = some (isBl v) := by cases h <;> first | exact kit_ty (r := true) (by decide +kernel) | exact kit_ty (r := false) (by decide +kernel)
end
def spInt (K : PySem.W.Frag) : Sp := fun vs H Q _ => ∃ v t, vs = [v] ∧ Th K H v t ∧ Q (.bl (intB v)) H
def spIx (K : PySem.W.Frag) : Sp := fun vs H Q _ => ∃ v t m, vs = [v, .int m] ∧ Th K H v t ∧ Q (.bl (ixB v m)) H
def spWord (K : PySem.W.Frag) : Sp := fun vs H Q _ => ∃ v t, vs = [v] ∧ Th K H v t ∧ ∀ H', Same H H' → Q (.bl (wordB v)) H'
def spTell (K : PySem.W.Frag) : Sp := fun vs H Q _ => ∃ v t, vs = [v] ∧ Th K H v t ∧ ∀ H', Same H H' → Q (.bl (tellB v)) H'
section
variable {P : Program} {w : World} {K : PySem.W.Frag} {mg : Str → Option Value} {base : Heap}
theorem g_isint {f : Addr} {fd : FuncData} (D : Df K mg "is_integer" sIsInt ["value"] f fd) (T : Bt2 mg) : FnOk P w K mg base CX0 1 f fd ["value"] (spInt K) := by
  refine D.F.ok scIsInt (fun vs H Q E h => ?_) (fun cdv A outer s H vs Q E hr h => ?_)
  · obtain ⟨v, t, rfl, _⟩ := h
    rfl
  · obtain ⟨v, t, rfl, th, k⟩ := h
    refine ⟨_, pss_one (ps_ret (pe_and (pe_callB call_isi (by rfl) T.isinstance PyProof.Rows.boot_isinstance (pa_cons (pv 0) (pa_cons (pe_bltn (v := .ty "int") (by rfl) T.int PyProof.Rows.boot_int rfl) pa_nil)))
      (pe_one (pe_not (pe_callB call_isi (by rfl) T.isinstance PyProof.Rows.boot_isinstance (pa_cons (pv 0) (pa_cons (pe_bltn (v := .ty "bool") (by rfl) T.bool PyProof.Rows.boot_bool rfl) pa_nil))))))), ?_⟩
    refine ⟨_, rfl, _, _, _, _, isInt v, rfl, .ty "int", th.ty, th.kInt, isInt v, rfl, ?_⟩
    cases v with
    | int i => exact ⟨_, rfl, _, _, _, _, false, rfl, .ty "bool", th.ty, th.kBl, false, rfl, k⟩
    | bl b => exact ⟨_, rfl, _, _, _, _, true, rfl, .ty "bool", th.ty, th.kBl, true, rfl, k⟩
    | _ => exact k
theorem g_isindex {f fI : Addr} {fd fdI : FuncData} (D : Df K mg "is_index" sIsIndex ["value", "many"] f fd) (DI : Df K mg "is_integer" sIsInt ["value"] fI fdI) (T : Bt2 mg) : FnOk P w K mg base CX0 2 f fd ["value", "many"] (spIx K) := by
  have GI : FnOk P w K mg base CX0 1 fI fdI ["value"] (spInt K) := g_isint DI T
  refine D.F.ok scIsIndex (fun vs H Q E h => ?_) (fun cdv A outer s H vs Q E hr h => ?_)
  · obtain ⟨v, t, m, rfl, _⟩ := h
    rfl
  · obtain ⟨v, t, m, rfl, th, k⟩ := h
    refine ⟨_, pss_one (ps_ret (pe_and (pe_call GI hr rfl DI.g DI.F.kp DI.b .nil pass0 (pa_cons (pv 0) pa_nil)) (pe_one (pe_chain op_le op_lt pe_int (pv 0) (pv 1))))), ?_⟩
    refine ⟨_, rfl, v, t, rfl, th, intB v, rfl, ?_⟩
    cases v with
    | int i =>
      refine ⟨_, rfl, _, _, rfl, rfl, _, rfl, ?_⟩
      refine ite2 (fun h => ?_) (fun h => ?_)
      · refine ⟨_, rfl, _, _, rfl, rfl, ?_⟩
        have e : ixB (.int i) m = decide (i < m) := by
          show (decide (0 ≤ i) && decide (i < m)) = _
          rw [h]; rfl
        rw [e] at k
        exact k
      · have e : ixB (.int i) m = false := by
          show (decide (0 ≤ i) && decide (i < m)) = _
          rw [Bool.eq_false_iff.mpr h]; rfl
        rw [e] at k
        exact k
    | _ => exact k
end
end K1
set_option Elab.async false
set_option linter.all false
set_option maxRecDepth 100000
set_option maxHeartbeats 2000000
/-! a lambda handed to a def that calls it in a try: what is raised is told of the very slots -/
namespace K1
open PySem PySem.Spec PyProof.Rows L2 LamX
/-- a def whose code object is known -/
structure FunC (K : PySem.W.Frag) (x qual : Str) (st : Stmt) (f : Addr) (fd : FuncData) (c : Addr) : Prop where
  ex : ∃ (oc : Value) (od : Option Addr) (kV doc pm : Value) (an : Option Addr) (ct : Value) (osl : Array (Option Value)),
    fd = PySem.W.fnOf x qual (defArgs st) (defBody st) (defScope st) .none kV doc pm an (.ref c) ct ∧ K.lookup f = some ⟨oc, od, .func fd, osl⟩ ∧ PySem.W.codeIn K (.ref c) qual = true
  kp : PySem.W.keepIn K (.ref f) = true
theorem FunC.toFun {K : PySem.W.Frag} {x qual : Str} {st : Stmt} {f c : Addr} {fd : FuncData} (F : FunC K x qual st f fd c) : L2.Fun K x qual st f fd :=
  let ⟨oc, od, kV, doc, pm, an, ct, osl, e, l, cc⟩ := F.ex
  ⟨⟨oc, od, kV, doc, pm, an, _, ct, osl, e, l, cc⟩, F.kp⟩
section
variable {P : Program} {w : World} {K : PySem.W.Frag} {mg : Str → Option Value} {base : Heap}
theorem FunC.ok {x qual : Str} {st : Stmt} {f c : Addr} {fd : FuncData} {N ps : List Str} {k : Nat} {sp : Sp} (F : FunC K x qual st f fd c) (S : FnScope N ps (defScope st)) (len : ∀ vs H Q E, sp vs H Q E → vs.length = ps.length)
    (body : ∀ (A : Around) (outer : List Env) (s : Shared) (H : Hp) (vs : List V) (Q : VK) (E : XK), Room k (A.deeper (envOfC qual (defScope st) s.heap.objs.size f (.ref c))) → sp vs H Q E →
      ∃ t, PSs (cxOf L2.CX0 P w K mg base N qual (defScope st) f (.ref c) A outer s H E).nox (defBody st) t ∧ t { nx := fun _ H' => Q .non H', rt := Q } (L2.start N vs) H) : FnOk P w K mg base L2.CX0 (k + 1) f fd ps sp := by
  obtain ⟨oc, od, kV, doc, pm, an, ct, osl, rfl, l, cc⟩ := F.ex
  exact fn_of l cc S len fun A outer s H vs Q E hr h => (body A outer s H vs Q E hr h).imp fun t ht => ⟨ht.1.nox, ht.2⟩
end
end K1
namespace LamX
open PySem L2 K1
/-! what is kept when a lambda is made -/
theorem ExtN.tup {H H' : Hp} (e : ExtN H H') {a : Addr} {xs : List V} (h : H a = some (.tup xs)) : H' a = some (.tup xs) := e _ _ h fun ps => by intro z; cases z
theorem ExtN.lst {H H' : Hp} (e : ExtN H H') {a : Addr} {xs : List V} (h : H a = some (.lst xs)) : H' a = some (.lst xs) := e _ _ h fun ps => by intro z; cases z
theorem ExtN.ins {H H' : Hp} (e : ExtN H H') {a C dx : Addr} {fs : List (Str × V)} (h : H a = some (.ins C dx fs)) : H' a = some (.ins C dx fs) := e _ _ h fun ps => by intro z; cases z
theorem ExtN.dk {H H' : Hp} (e : ExtN H H') {a : Addr} {kv : List (Key × V)} (h : H a = some (.dK kv)) : H' a = some (.dK kv) := e _ _ h fun ps => by intro z; cases z
theorem ExtN.seqT {K : PySem.W.Frag} {H H' : Hp} {a : Addr} {xs : List V} (e : ExtN H H') (h : SqT K H a xs) : SqT K H' a xs := by
  rcases h with (h | ⟨o, h⟩) | h
  · exact .inl (.inl (e.tup h))
  · exact .inl (.inr ⟨o, e _ _ h fun ps => by intro z; cases z⟩)
  · exact .inr h
theorem ExtN.seqL {K : PySem.W.Frag} {H H' : Hp} {a : Addr} {xs : List V} (e : ExtN H H') (h : SqL K H a xs) : SqL K H' a xs := by
  rcases h with (h | ⟨o, h⟩) | h
  · exact .inl (.inl (e.lst h))
  · exact .inl (.inr ⟨o, e _ _ h fun ps => by intro z; cases z⟩)
  · exact .inr h
theorem ExtN.pen {H H' : Hp} (e : ExtN H H') {d c : Addr} {n : Nat} (h : PenAt H d c n) : PenAt H' d c n := by
  obtain ⟨ns, a, l, h1, h2, h3⟩ := h
  exact ⟨ns, a, l, e.dk h1, e.lst h2, h3⟩
end LamX
namespace K1
open PySem PySem.Spec PyProof.Rows L2 LamX
/-- all but d and the tables is kept -/
def KeptN (d : Addr) (H H' : Hp) : Prop := ∀ b o, H b = some o → b ≠ d → (∀ ps, o ≠ .tbl ps) → H' b = some o
theorem KeptN.refl (d : Addr) (H : Hp) : KeptN d H H := fun _ _ e _ _ => e
theorem KeptN.trans {d : Addr} {H H1 H2 : Hp} (a : KeptN d H H1) (b : KeptN d H1 H2) : KeptN d H H2 := fun c o e n m => b c o (a c o e n m) n m
theorem KeptN.seqL {K : PySem.W.Frag} {d : Addr} {H H' : Hp} {a : Addr} {xs : List V} (e : KeptN d H H') (n : a ≠ d) (h : SqL K H a xs) : SqL K H' a xs := by
  rcases h with (h | ⟨o, h⟩) | h
  · exact .inl (.inl (e _ _ h n fun ps => by intro z; cases z))
  · exact .inl (.inr ⟨o, e _ _ h n fun ps => by intro z; cases z⟩)
  · exact .inr h
theorem KeptN.seqT {K : PySem.W.Frag} {d : Addr} {H H' : Hp} {a : Addr} {xs : List V} (e : KeptN d H H') (n : a ≠ d) (h : SqT K H a xs) : SqT K H' a xs := by
  rcases h with (h | ⟨o, h⟩) | h
  · exact .inl (.inl (e _ _ h n fun ps => by intro z; cases z))
  · exact .inl (.inr ⟨o, e _ _ h n fun ps => by intro z; cases z⟩)
  · exact .inr h
theorem KeptN.upd {d D : Addr} {H0 H : Hp} {o : HO} (k : KeptN d H0 H) (h : H0 D = none) : KeptN d H0 (upd H D o) := fun b u e nb m => by
  rw [upd_ne (ne_of_none e h)]; exact k b u e nb m
theorem KeptN.tup {d : Addr} {H H' : Hp} {a : Addr} {xs : List V} (e : KeptN d H H') (n : a ≠ d) (h : H a = some (.tup xs)) : H' a = some (.tup xs) := e _ _ h n fun ps => by intro z; cases z
theorem KeptN.lst {d : Addr} {H H' : Hp} {a : Addr} {xs : List V} (e : KeptN d H H') (n : a ≠ d) (h : H a = some (.lst xs)) : H' a = some (.lst xs) := e _ _ h n fun ps => by intro z; cases z
theorem KeptN.ins {d : Addr} {H H' : Hp} {a C dx : Addr} {fs : List (Str × V)} (e : KeptN d H H') (n : a ≠ d) (h : H a = some (.ins C dx fs)) : H' a = some (.ins C dx fs) := e _ _ h n fun ps => by intro z; cases z
theorem Kept.n {d : Addr} {H H' : Hp} (k : Kept d H H') : KeptN d H H' := fun b o e n _ => k b o e n
end K1
namespace LamX
open PySem L2 K1
theorem ExtN.n {d : Addr} {H H' : Hp} (k : ExtN H H') : KeptN d H H' := fun b o e _ m => k b o e m
theorem Tabs.kept {T : List (Addr × Str)} {d : Addr} {kv : List (Key × V)} {H H' : Hp} (t : Tabs T H) (hd : H d = some (.dK kv)) (k : Kept d H H') : Tabs T H' := fun p hp => by
  obtain ⟨ps, h1, h2, h3⟩ := t p hp
  refine ⟨ps, k _ _ h1 (ne_of h1 hd (by intro z; cases z)), h2, fun pos cv hc => ?_⟩
  obtain ⟨c, e1, e2⟩ := h3 pos cv hc
  exact ⟨c, e1, k _ _ e2 (ne_of e2 hd (by unfold CodeO; intro z; cases z))⟩
theorem Tabs.same {T : List (Addr × Str)} {H H' : Hp} (t : Tabs T H) (s : L2.Same H H') : Tabs T H' := t.ext s
theorem Tabs.updL {T : List (Addr × Str)} {H : Hp} {L : Addr} {xs ys : List V} (t : Tabs T H) (h : H L = some (.lst xs)) : Tabs T (upd H L (.lst ys)) := fun p hp => by
  obtain ⟨ps, h1, h2, h3⟩ := t p hp
  refine ⟨ps, by rw [upd_ne (ne_of h1 h (by intro z; cases z))]; exact h1, h2, fun pos cv hc => ?_⟩
  obtain ⟨c, e1, e2⟩ := h3 pos cv hc
  exact ⟨c, e1, by rw [upd_ne (ne_of e2 h (by unfold CodeO; intro z; cases z))]; exact e2⟩
theorem Tabs.pen {T : List (Addr × Str)} {d c : Addr} {n : Nat} {H H' : Hp} (t : Tabs T H) (p : PenAt H d c n) (k : Kept d H H') : Tabs T H' := by
  obtain ⟨ns, x, l, hd, _⟩ := p
  exact t.kept hd k
end LamX
namespace K1
open PySem PySem.Spec PyProof.Rows L2 LamX
section
variable {X : Cx} {pins : List (Addr × Obj)} {σ : L2.St} {H : Hp} {s : Shared}
/-- the call of the handed lambda; what it raises is taken at the slots as they are -/
theorem pe_actS {GX : CXT} {GE : XK} {GN : List Str} {gq : Str} {gs : Scope} {g f c' : Addr} {gcd pm ctv : Value} {params : Arguments} {body : Expr} {scope : Scope} {k i : Nat} {a : Str} {pn : List (Addr × Obj)} {xe : Value → Shared → Prop} {W : WX} {tb : XK → TE} {p1 p2 : Pos}
    (I : Inv X pins σ H s) (L : LamS X.env.scope scope) (hf : s.heap.get? f = some (PySem.W.kla_obj "<lambda>" (X.env.qual ++ "<lambda>") params body scope (cloFrom X.env.cells scope.names []) pm c' ctv)) (hfn : H f = none) (hfr : f ∉ frs X.stack)
    (bind0 : bindArgs (PySem.W.kla_fn "<lambda>" (X.env.qual ++ "<lambda>") params body scope (cloFrom X.env.cells scope.names []) pm (.ref c') ctv) ⟨[], []⟩ = pure [])
    (tk : Takes ((cxOf GX X.prog X.w X.K X.mg X.base GN gq gs g gcd X.A X.stack s H GE).tr pn xe) W) (hr : Room (k + 1) (X.A.deeper (envOfC gq gs s.heap.objs.size g gcd)))
    (inner : ∀ (A : Around) (outer : List Env) (s2 : Shared) (H2 : Hp) (E : XK), Room k (A.deeper (lamEnv X scope s2.heap.objs.size f c')) → PE (lamCx X A outer s2 H2 E scope f c') body (tb E))
    (hN : GN[i]? = some a) (hv : Vis gs a) (hd : (a == ("__debug__" : Str)) = false := by decide) (hcd : (a == ("__classdict__" : Str)) = false := by decide) :
    PE ((cxOf GX X.prog X.w X.K X.mg X.base GN gq gs g gcd X.A X.stack s H GE).tr pn xe) (.Call (.Name a p1) [] [] p2)
      (fun τ G Q => τ[i]? = some (some (.ref f)) ∧ G c' = some (CodeO c' (X.env.qual ++ "<lambda>")) ∧ tb (fun cls dd G' => W cls dd τ G') σ G Q) := by
  constructor
  intro pz sz τ G Q J ⟨at_, co, go⟩
  refine wpAny_Call_Name_kw (thn ((pe_var (pos := p1) (i := i) hN hv hd hcd).run pz sz τ G (fun v G1 => v = .ref f ∧ G1 = G) J ⟨.ref f, at_, rfl, rfl⟩) ?_)
  rintro u s1 ⟨v, G1, J1, rel, rfl, rfl⟩
  cases (show u = Value.ref f from rel)
  have held : s1.heap.get? f = some (PySem.W.kla_obj "<lambda>" (X.env.qual ++ "<lambda>") params body scope (cloFrom X.env.cells scope.names []) pm c' ctv) :=
    J1.base.keep f _ hf hfn hfr fun z => absurd (show f ∈ ([] : List Addr) from z) (by simp)
  refine PySem.W.callWith_F0 ⟨_, _, _, _, held⟩ ?_
  have base : Un (frs X.stack) [] H G1 s.heap s1.heap := J1.base
  obtain ⟨⟨oc, vs, t, k1, k2, k3⟩, -, -⟩ := J1.hok c' _ co
  have ran : codeAny (model X.prog X.w) (X.A.deeper (envOfC gq gs s.heap.objs.size g gcd)) (.call (.ref f) ⟨[], []⟩)
      (CR (L2.CX X.prog X.w) (envOfC gq gs s.heap.objs.size g gcd :: X.stack) X.prog X.w G1 s1 Q (fun cls dd G' => W cls dd τ G')) s1 := by
    refine PySem.W.kla_callFunE hr.depth held rfl L.co L.gen rfl ⟨c', oc, vs, t, rfl, k1, k2, k3⟩ ?_
    rw [bind0]
    refine wpAny_pure (wpAny_newFunctionEnv (fun y hy => (L.own y hy).2) (fun y hy => absurd hy (by simp)) (fun h₁ ns bt => ?_) L.kind)
    have up : ∀ b o, s1.heap.get? b = some o → h₁.get? b = some o := fun b o e =>
      bt.extBut b o (Nat.ne_of_lt (Heap.lt_size e)) (Heap.get?_push_of_some _ e)
    refine ⟨J1.nolimit.fresh _ bt, PySem.W.kla_codeExpr ?_⟩
    have start : Inv (lamCx X (X.A.deeper (envOfC gq gs s.heap.objs.size g gcd)) (envOfC gq gs s.heap.objs.size g gcd :: X.stack) s1 G1 (fun cls dd G' => W cls dd τ G') scope f c') [] σ G1
        { s1 with heap := h₁, toks := s1.toks + ([] : List (Str × Value)).length } := lam_start2 I L J1.env0 hr.hd base ns up
    refine wpAny_mono ((inner _ _ s1 G1 _ (hr.deeper _)).run [] _ _ G1 Q start go) ?_ fun e s' q => q
    rintro v s' ⟨w', G2, J2, rv, q⟩
    exact ⟨w', G2, J2.os, J2.bare, J2.base, J2.hok, rv, q⟩
  refine wpAny_call (codeAny_mono ran fun r s' q => ?_)
  match r, q with
  | .error e, q => exact passAt tk τ pz G1 s1 e s' J1 q
  | .ok (.ret u), q => exact J1.after q
end
/-- what the def g, which calls what it got, makes of the lambda's reading -/
def Gives (X : Cx) (GN : List Str) (x : Str) (gs : Scope) (g : Addr) (gcd : Value) (gb : List Stmt) (a q : Str) (TT : (XK → Hp → VK → Prop) → Hp → VK → Prop) : Prop :=
  ∀ (f c' : Addr) (s : Shared) (H : Hp) (Q : VK) (tl : XK → Hp → VK → Prop),
    (∀ (W : WX) (pn : List (Addr × Obj)) (xe : Value → Shared → Prop) (p1 p2 : Pos), Takes ((cxOf L2.CX0 X.prog X.w X.K X.mg X.base GN x gs g gcd X.A X.stack s H L2.E0).tr pn xe) W →
      PE ((cxOf L2.CX0 X.prog X.w X.K X.mg X.base GN x gs g gcd X.A X.stack s H L2.E0).tr pn xe) (.Call (.Name a p1) [] [] p2) (fun τ G Q => τ[0]? = some (some (.ref f)) ∧ G c' = some (CodeO c' q) ∧ tl (fun cls dd G' => W cls dd τ G') G Q)) →
    H c' = some (CodeO c' q) → TT tl H Q → ∃ t, PSs (cxOf L2.CX0 X.prog X.w X.K X.mg X.base GN x gs g gcd X.A X.stack s H L2.E0).nox gb t ∧ t { nx := fun _ G => Q .non G, rt := Q } (L2.start GN [.ref f]) H
section
variable {X : Cx}
/-- g(lambda: body) -/
theorem pe_lamS {T : List (Addr × Str)} {TT : (XK → Hp → VK → Prop) → Hp → VK → Prop} {x a : Str} {g c P : Addr} {k : Nat} {st : Stmt} {fd : FuncData} {GN : List Str} {params : Arguments} {body : Expr} {scope : Scope} {t : XK → TE} {p lp pos : Pos}
    (D : Df X.K X.mg x st [a] g fd) (S : FnScope GN [a] (defScope st)) (at0 : GN[0]? = some a) (va : Vis (defScope st) a) (gl : Gl X x)
    (gives : ∀ gcd, Gives X GN x (defScope st) g gcd (defBody st) a (X.env.qual ++ "<lambda>") TT) (B : TabB X.base X.mg c P) (code : X.env.code = .ref c) (mem : (P, X.env.qual ++ "<lambda>") ∈ T) (uni : ∀ p ∈ T, p.1 = P → p.2 = X.env.qual ++ "<lambda>")
    (hr : Room (k + 2) X.A) (L : LamS X.env.scope scope) (inner : ∀ (A : Around) (outer : List Env) (s2 : Shared) (H2 : Hp) (E : XK) (f c' : Addr), Room k (A.deeper (lamEnv X scope s2.heap.objs.size f c')) → PE (lamCx X A outer s2 H2 E scope f c') body (t E))
    (d0 : defaultsOf params X.env = ([], []) := by rfl) (bind0 : ∀ (q : Str) (cl : List (Str × Addr)) (pm cv ctv : Value), bindArgs (PySem.W.kla_fn "<lambda>" q params body scope cl pm cv ctv) ⟨[], []⟩ = pure [] := by intros; rfl)
    (hdb : (x == ("__debug__" : Str)) = false := by decide) (hd : (a == ("__debug__" : Str)) = false := by decide) (hcd : (a == ("__classdict__" : Str)) = false := by decide) :
    PE X (.Call (.Name x p) [.Lambda params body scope lp] [] pos) (tLam T TT t) := by
  obtain ⟨oc, od, kV, doc, pm, an, gcd, ct, osl, rfl, lk, cg⟩ := D.F.ex
  constructor
  intro pins s σ H Q I ⟨hT, h⟩
  refine wpAny_Call_Name_kw (ld_glob I gl D.g ?_ hdb)
  refine PySem.W.callWith_K (h₀ := X.base) I.ok.mod.kin D.F.kp ?_ (by rfl) (by rfl)
  show wpAny _ _ (spliced ((false, eval (.Lambda params body scope lp) X.env) :: backTo pos (starEach [] X.env))) _ _ s
  refine Calls.spliced_cons (lam_make2 I B code mem uni hT d0 (L.has I.ok) ?_)
  intro f c' pm' ctv H1 s' I1 eN T1 hf hfn hfr hco
  refine Calls.spliced_nil ⟨I1.kIn, wpAny_call (codeAny_mono ?_ fun r s2 (q : CR L2.CX0 X.stack X.prog X.w H1 s' Q L2.E0 r s2) => ?_)⟩
  · refine run_ofS (N := GN) (ps := [a]) (us := [.ref f]) (vs := [.ref f]) lk cg S hr I1.env0 (D.b s' [.ref f] I1.kIn rfl) (.cons rfl .nil) rfl fun hr' => ?_
    obtain ⟨t', ht', hq'⟩ := gives gcd f c' s' H1 Q (fun E G Q' => t E σ G Q')
      (fun W pn xe p1 p2 tk => pe_actS (i := 0) I1 L hf hfn hfr (bind0 _ _ _ _ _) tk hr' (fun A outer s2 H2 E hr2 => inner A outer s2 H2 E f c' hr2) at0 va hd hcd) hco (h H1 eN T1)
    exact ⟨t', ht'.nox, hq'⟩
  · match r, q with
    | .ok (.ret u), q => exact I1.after q
end
/-- try: a() / except C as e: .. / .. ; return None -/
def TTf (K : PySem.W.Frag) (i : Nat) (l : List (Value × (Addr → Value → Option Addr → TS))) : (XK → Hp → VK → Prop) → Hp → VK → Prop := fun tl H Q =>
  ∀ f : Addr, tl (fun cls dd G => wAsAll K i (fun _ _ _ _ => False) { nx := fun _ G' => Q .non G', rt := Q } l cls dd [some (.ref f), none] G) H fun _ G => Q .non G
theorem fault_gives {X : Cx} {a n x q : Str} {gs : Scope} {g : Addr} {gcd : Value} {h0 : ExceptHandler} {hds : List ExceptHandler} {l : List (Value × (Addr → Value → Option Addr → TS))} {j : Nat} {p1 p2 p3 p4 p5 p6 : Pos} (nd : [a, n].Nodup) (hln : gs.names.lookup n = some .local)
    (hh : ∀ (s : Shared) (H : Hp), AsOk (cxOf L2.CX0 X.prog X.w X.K X.mg X.base [a, n] x gs g gcd X.A X.stack s H L2.E0).nox n (h0 :: hds) l) :
    Gives X [a, n] x gs g gcd [.Try [.Expr (.Call (.Name a p1) [] [] p2) p3] (h0 :: hds) [] [] p4, .Return (some (.Constant .none j p5)) p6] a q (TTf X.K 1 l) := by
  intro f c' s H Q tl act hc h
  refine ⟨_, pss_cons (ps_try_asAll (X := (cxOf L2.CX0 X.prog X.w X.K X.mg X.base [a, n] x gs g gcd X.A X.stack s H L2.E0).nox) (i := 1)
    (tb := fun W D τ G => τ[0]? = some (some (.ref f)) ∧ G c' = some (CodeO c' q) ∧ tl (fun cls dd G' => W cls dd τ G') G fun _ G' => D.nx τ G') rfl rfl nd rfl hln LamX.takes0 (fun W pn xe tk _ => ?_) (hh s H)) (pss_one (ps_ret pe_non)), ?_⟩
  · constructor
    intro pins s' τ G D I go
    exact (pss_one (ps_expr (act W pn xe p1 p2 tk))).run pins s' τ G D I go
  · exact ⟨rfl, hc, h f⟩
end K1
set_option Elab.async false
set_option linter.all false
set_option maxRecDepth 100000
/-! a clause's suite that tells a tag and the error's fields -/
namespace K1
open PySem L2
def Has (gs : List (Str × V)) : List Str → List V → Prop
  | [], [] => True
  | f :: r, v :: vs => gs.lookup f = some v ∧ Has gs r vs
  | _, _ => False
def tFs (i : Nat) (C a : Addr) (cl : Value) (dd : Option Addr) : List Str → TA
  | [] => tNil
  | f :: r => tCons (tXf a cl dd C f (tVar i)) (tFs i C a cl dd r)
/-- return (tag, e.f, ..) -/
def suiteT (i : Nat) (C : Addr) (tag : Str) (fs : List Str) : Addr → Value → Option Addr → TS := fun a cl dd => tRet (tTup (tCons (tC (.str tag)) (tFs i C a cl dd fs)))
theorem tFs_read {i : Nat} {C a d : Addr} {gs : List (Str × V)} {σ : St} {G : Hp} (hσ : σ[i]? = some (some (.ref a))) (hd : G d = some (.xd gs)) : ∀ (fs : List Str) (vs : List V), Has gs fs vs → ∀ {Q : List V → Hp → Prop}, Q vs G → tFs i C a (.ref C) (some d) fs σ G Q
  | [], [], _, _, k => k
  | [], _ :: _, h, _, _ => h.elim
  | _ :: _, [], h, _, _ => h.elim
  | f :: r, v :: vs, h, Q, k => by
    obtain ⟨h1, h2⟩ := h
    exact ⟨_, hσ, rfl, rfl, d, gs, v, rfl, hd, h1, tFs_read hσ hd r vs h2 k⟩
theorem suiteT_read {i : Nat} {C a d : Addr} {tag : Str} {fs : List Str} {vs : List V} {gs : List (Str × V)} {D : Ends} {σ : St} {G : Hp} (hσ : σ[i]? = some (some (.ref a))) (hd : G d = some (.xd gs)) (h : Has gs fs vs) (hl : vs.length ≤ 10)
    (k : ∀ p, G p = none → D.rt (.ref p) (upd G p (.tup (.str tag :: vs)))) : suiteT i C tag fs a (.ref C) (some d) D σ G :=
  tFs_read hσ hd fs vs h ⟨by simp; exact Nat.le_of_lt (small1000 (by omega)), k⟩
end K1
set_option Elab.async false
set_option linter.all false
set_option maxRecDepth 100000
set_option maxHeartbeats 2000000
/-! a lambda with one parameter that a written integer fills, handed to a def that calls it without arguments -/
namespace K1
open PySem PySem.Spec PyProof.Rows L2 LamX
/-- the lambda's names: the parameter y0, captured ones, globals -/
structure LamP (sc scope : Scope) (y0 : Str) : Prop where
  kind : scope.kind = .function
  co : scope.isCoroutine = false
  gen : scope.isGenerator = false
  own : ∀ y ∈ scope.names, y.2 ≠ .cell ∧ (y.2 = .local → y.1 = y0)
  par : scope.names.lookup y0 = some .local
  free : ∀ y ∈ scope.names, y.2 = .free → sc.names.lookup y.1 = some .cell ∨ sc.names.lookup y.1 = some .free
def lamPB (sc scope : Scope) (y0 : Str) : Bool :=
  decide (scope.kind = .function) && !scope.isCoroutine && !scope.isGenerator && decide (scope.names.lookup y0 = some .local) && scope.names.all fun y => !decide (y.2 = .cell) && (!decide (y.2 = .local) || y.1 == y0) && (!decide (y.2 = .free) || decide (sc.names.lookup y.1 = some .cell) || decide (sc.names.lookup y.1 = some .free))
theorem lamP_by {sc scope : Scope} {y0 : Str} (h : lamPB sc scope y0 = true) : LamP sc scope y0 := by
  unfold lamPB at h
  simp only [Bool.and_eq_true, Bool.or_eq_true, Bool.not_eq_true', decide_eq_true_eq, decide_eq_false_iff_not, List.all_eq_true, beq_iff_eq] at h
  obtain ⟨⟨⟨⟨h1, h2⟩, h3⟩, h5⟩, h4⟩ := h
  refine ⟨h1, h2, h3, fun y hy => ⟨(h4 y hy).1.1, fun e => ?_⟩, h5, fun y hy e => ?_⟩
  · rcases (h4 y hy).1.2 with z | z
    · exact absurd e z
    · exact z
  · rcases (h4 y hy).2 with (z | z) | z
    · exact absurd e z
    · exact .inl z
    · exact .inr z
theorem LamP.has {X : Cx} {scope : Scope} {y0 : Str} (L : LamP X.env.scope scope y0) (ok : X.Ok) : ∀ y ∈ scope.names, y.2 = .free → ∃ c, X.env.cells.lookup y.1 = some c := fun y hy e => by
  rcases L.free y hy e with k | k
  · exact ok.has _ (.inl k)
  · exact ok.has _ (.inr k)
abbrev dfn (X : Cx) (params : Arguments) (body : Expr) (scope : Scope) (t : Addr) (doc pm cdv ctv : Value) : FuncData := PySem.W.kdv_fn "<lambda>" (X.env.qual ++ "<lambda>") params (.expr body) scope (cloFrom X.env.cells scope.names []) (.ref t) doc pm cdv ctv
section
variable {X : Cx} {pins : List (Addr × Obj)} {σ : L2.St} {H : Hp} {s : Shared}
/-- the lambda is made: its defaults' tuple, its code object (new or found), itself -/
theorem lam_makeD {T : List (Addr × Str)} {c P : Addr} {params : Arguments} {body : Expr} {scope : Scope} {y0 : Str} {i0 : Int} {j : Nat} {pd pos : Pos} {Q : Value → Shared → Prop} (I : Inv X pins σ H s) (TB : TabB X.base X.mg c P) (hcode : X.env.code = .ref c)
    (mem : (P, X.env.qual ++ "<lambda>") ∈ T) (uni : ∀ p ∈ T, p.1 = P → p.2 = X.env.qual ++ "<lambda>") (hT : Tabs T H) (hdef : defaultsOf params X.env = ([eval (.Constant (.int i0) j pd) X.env], [])) (L : LamP X.env.scope scope y0)
    (h : ∀ (f c' t : Addr) (tk : Tok) (doc pm ctv : Value) (H1 : Hp) (s' : Shared), Inv X pins σ H1 s' → ExtN H H1 → Tabs T H1 →
      s'.heap.get? f = some { cls := .type "function", data := .func (dfn X params body scope t doc pm (.ref c') ctv) } → H1 f = none → f ∉ frs X.stack → s'.heap.get? t = some (PySem.W.kdv_tup [.int i0 tk]) → H1 t = none → t ∉ frs X.stack → H1 c' = some (CodeO c' (X.env.qual ++ "<lambda>")) → Q (.ref f) s') :
    wpAny (model X.prog X.w) X.A (eval (.Lambda params body scope pos) X.env) Q X.xe s := by
  rw [arm_eval_Lambda, hdef]
  show wpAny (model X.prog X.w) X.A (do let dv ← evalAll [eval (.Constant (.int i0) j pd) X.env]; let kdv ← holding dv (evalAllOpt []); makeFunction "<lambda>" (X.env.qual ++ "<lambda>") params (.expr body) scope X.env dv kdv [] pos pos.line) Q X.xe s
  refine wpAny_bind (PyProof.Rows.evalAll_cons (thn ((pe_int (X := X) (i := i0) (j := j) (pos := pd)).run pins s σ H (fun v G => v = .int i0 ∧ G = H) I ⟨rfl, rfl⟩) ?_))
  rintro u s1 ⟨v, G, I1, r1, e1, rfl⟩
  subst e1
  obtain ⟨tk, rfl⟩ := r1
  refine PySem.W.kdv_all0 (env := X.env) ?_
  show wpAny (model X.prog X.w) X.A (do let kdv ← holding [Value.int i0 tk] (evalAllOpt []); makeFunction "<lambda>" (X.env.qual ++ "<lambda>") params (.expr body) scope X.env [Value.int i0 tk] kdv [] pos pos.line) Q X.xe s1
  refine wpAny_bind (wpAny_holding (wpAny_pure ?_))
  rw [makeFunction_eq]
  simp only [List.zip_nil_right, List.filterMap_nil, List.isEmpty_nil, List.isEmpty_cons, if_true, pure_bind, Bool.false_eq_true, if_false]
  refine wpAny_bind (wpAny_newTextTuple ?_)
  have grow : ∀ b o, s1.heap.get? b = some o → (s1.heap.push (PySem.W.kdv_tup [Value.int i0 tk])).get? b = some o := fun b o e => Heap.get?_push_of_some _ e
  have I2 : Inv X pins σ G { s1 with heap := s1.heap.push (PySem.W.kdv_tup [Value.int i0 tk]) } := I1.kept (t' := s1.toks) grow
  have ht : (s1.heap.push (PySem.W.kdv_tup [Value.int i0 tk])).get? s1.heap.objs.size = some (PySem.W.kdv_tup [Value.int i0 tk]) := Heap.get?_push_size _ rfl
  have nt : G s1.heap.objs.size = none := I1.hok.fresh (Nat.le_refl _)
  have free : ∀ {s' : Shared}, Inv X pins σ G s' → ∀ f, s'.heap.objs.size ≤ f → f ∉ frs X.stack := fun {s'} J f hf z => by
    rcases List.mem_cons.mp (J.stkSub _ z) with e | e
    · have h1 := J.lt
      rw [← e] at h1
      exact Nat.lt_irrefl _ (Nat.lt_of_lt_of_le h1 hf)
    · exact J.nofs hf e
  have nft := free I1 s1.heap.objs.size (Nat.le_refl _)
  show wpAny (model X.prog X.w) X.A (makeTail "<lambda>" (X.env.qual ++ "<lambda>") params (.expr body) scope X.env (.ref s1.heap.objs.size) .none none pos pos.line) Q X.xe { s1 with heap := s1.heap.push (PySem.W.kdv_tup [Value.int i0 tk]) }
  generalize s1.heap.objs.size = t at ht nt nft ⊢
  generalize hs2 : ({ s1 with heap := s1.heap.push (PySem.W.kdv_tup [Value.int i0 tk]) } : Shared) = s2 at I2 ⊢
  have ht2 : s2.heap.get? t = some (PySem.W.kdv_tup [Value.int i0 tk]) := by rw [← hs2]; exact ht
  clear ht grow hs2 I1 I
  obtain ⟨ps, hP, hpt, ha⟩ := hT _ mem
  have bP : s2.heap.BuiltinsAt X.mg P := TB.bm.keeps I2.bk
  have hP2 : s2.heap.get? P = some { cls := .none, data := .fields ps } := I2.hok P _ hP
  cases hc : codeAmong pos ps.toList with
  | none =>
    refine PySem.W.kdv_makeTail (mg := X.mg) (c := c) (P := P) (ps := ps) (closure_ok (L.has I2.ok)) I2.ok.glob (I2.mod.glob.keeps I2.bk) hcode (TB.code.keeps I2.bk) hP2 hpt hc TB.gP bP ?_
    intro c' ctv doc h' tk' hx hge hlt hrec htb
    obtain ⟨c2, oc, vs, tq, e2, hoc, hd, hv⟩ := hrec
    cases e2
    have nP : t ≠ P := fun z => by rw [z, hP] at nt; cases nt
    have hsz : s2.heap.objs.size ≤ h'.objs.size := Nat.le_trans hge (Nat.le_of_lt hlt)
    have nC : G c' = none := I2.hok.fresh hge
    have I3 := inv_table (t' := tk') (more := #[rawInt pos.line, rawInt pos.col, .ref c']) (h' := h'.push (PySem.W.kdv_obj "<lambda>" (X.env.qual ++ "<lambda>") params (.expr body) scope (cloFrom X.env.cells scope.names []) (.ref t) doc ((X.mg "__name__").getD .none) c' ctv)) I2 hP
      (fun b o hb e => Heap.get?_push_of_some _ (hx b o hb e)) (Heap.get?_push_of_some _ htb) hge ⟨oc, vs, tq, Heap.get?_push_of_some _ hoc, hd, hv⟩
    have hE : ExtN G (upd (upd G P (.tbl (ps ++ #[rawInt pos.line, rawInt pos.col, .ref c']))) c' (CodeO c' (X.env.qual ++ "<lambda>"))) := fun b o e n => by
      rw [upd_ne (ne_of_none e nC), upd_ne (fun z => n ps (Option.some.inj (e.symm.trans (by rw [z]; exact hP))))]
      exact e
    have eL : (ps ++ #[rawInt pos.line, rawInt pos.col, .ref c']).toList = ps.toList ++ [rawInt pos.line, rawInt pos.col, .ref c'] := by simp
    have ntc : t ≠ c' := Nat.ne_of_lt (Nat.lt_of_lt_of_le (Heap.lt_size ht2) hge)
    refine h h'.objs.size c' t tk doc ((X.mg "__name__").getD .none) ctv _ _ I3 hE (fun p hp => ?_) (Heap.get?_push_size _ rfl) ?_ (free I2 _ hsz) (Heap.get?_push_of_some _ (hx _ _ nP ht2)) (by rw [upd_ne ntc, upd_ne nP]; exact nt) nft upd_same
    · by_cases hb : p.1 = P
      · rw [uni p hp hb, hb]
        refine ⟨_, by rw [upd_ne (ne_of_none hP nC), upd_same], by rw [eL]; exact PySem.TriplesOk_snoc _ _ _ _ hpt, fun p' cv hcv => ?_⟩
        rw [eL] at hcv
        rcases among_app _ hpt hcv with z | z
        · obtain ⟨c0, e1, e2⟩ := ha p' cv z
          exact ⟨c0, e1, hE _ _ e2 codeO_ne⟩
        · exact ⟨c', z, upd_same⟩
      · obtain ⟨qs, a1, a2, a3⟩ := hT p hp
        refine ⟨qs, by rw [upd_ne (ne_of_none a1 nC), upd_ne hb]; exact a1, a2, fun p' cv hcv => ?_⟩
        obtain ⟨c0, e1, e2⟩ := a3 p' cv hcv
        exact ⟨c0, e1, hE _ _ e2 codeO_ne⟩
    · have n1 : h'.objs.size ≠ c' := Nat.ne_of_gt hlt
      have n2 : h'.objs.size ≠ P := Nat.ne_of_gt (Nat.lt_of_lt_of_le (Heap.lt_size hP2) hsz)
      rw [upd_ne n1, upd_ne n2]
      exact I2.hok.fresh hsz
  | some cv =>
    obtain ⟨c', e, hco⟩ := ha pos cv hc
    subst e
    refine PySem.W.kdv_makeTailHit (mg := X.mg) (c := c) (P := P) (ps := ps) (closure_ok (L.has I2.ok)) I2.ok.glob (I2.mod.glob.keeps I2.bk) hcode (TB.code.keeps I2.bk) hP2 hpt hc bP ?_
    intro ctv doc h' tk' hx hsz
    have I3 : Inv X pins σ G { s2 with heap := h'.push (PySem.W.kdv_obj "<lambda>" (X.env.qual ++ "<lambda>") params (.expr body) scope (cloFrom X.env.cells scope.names []) (.ref t) doc ((X.mg "__name__").getD .none) c' ctv), toks := tk' } := I2.kept fun b o e => Heap.get?_push_of_some _ (hx b o e)
    exact h h'.objs.size c' t tk doc ((X.mg "__name__").getD .none) ctv G _ I3 (ExtN.refl G) hT (Heap.get?_push_size _ rfl) (I2.hok.fresh hsz) (free I2 _ hsz) (Heap.get?_push_of_some _ (hx _ _ ht2)) nt nft hco
end
abbrev lamEnvD (X : Cx) (scope : Scope) (L f c' : Addr) : Env := PySem.W.envX (X.env.qual ++ "<lambda>") scope L f (.ref c') (cloFrom X.env.cells scope.names [])
section
variable {X : Cx} {pins : List (Addr × Obj)} {σ : L2.St} {H HZ : Hp} {s s1 : Shared}
/-- the body's beginning: the parameter is a name of its own, no slot -/
theorem lam_startD {A : Around} {outer : List Env} {E : XK} {scope : Scope} {y0 : Str} {u0 : Value} {f c' : Addr} {h₁ : Heap} {tk : Nat} (I : Inv X pins σ H s) (L : LamP X.env.scope scope y0) (ny : y0 ∉ X.N) (e0 : Env0 X.prog X.w X.K X.mg X.base A outer s1 HZ) (hd : A.handled = none)
    (un : Un (frs X.stack) [] H HZ s.heap s1.heap) (ns : h₁.Ns s1.heap.objs.size fun y => ([(y0, u0)] : List (Str × Value)).reverse.lookup y) (up : ∀ b o, s1.heap.get? b = some o → h₁.get? b = some o) :
    Inv (lamCx X A outer s1 HZ E scope f c') [] σ HZ { s1 with heap := h₁, toks := tk } := by
  have have_c := L.has I.ok
  have own_c : ∀ {y c}, (cloFrom X.env.cells scope.names []).lookup y = some c → X.env.cells.lookup y = some c := by
    intro y c e
    rcases cloFrom_mem (PySem.mem_of_lookup e) with hm | ⟨g1, g2⟩
    · cases hm
    · obtain ⟨c1, hc⟩ := have_c _ g1 rfl
      have hc : X.env.cells.lookup y = some c1 := hc
      have : c = c1 := by rw [g2, hc] <;> rfl
      rw [this]
      exact hc
  have clo : ∀ {y}, scope.names.lookup y = some .free → ∃ c, (cloFrom X.env.cells scope.names []).lookup y = some c := fun {y} hl =>
    mem_lookup (cloFrom_has (cells := X.env.cells) (acc := []) (PySem.mem_of_lookup hl))
  have keepC : ∀ {c : Addr} {v : Option Value}, H c = none → s.heap.IsCell c v → h₁.IsCell c v := by
    rintro c v n ⟨o, ho, hdt⟩
    obtain ⟨sl, q⟩ := un.any ho n (by simp)
    exact ⟨_, up _ _ q, hdt⟩
  have none_ex : ∀ b : Addr, b ∉ (lamCx X A outer s1 HZ E scope f c').ex := fun b z => absurd (show b ∈ ([] : List Addr) from z) (by simp)
  refine ⟨⟨e0.mod, L.kind, rfl, rfl, Nat.le_refl _, fun y z c a1 a2 => I.ok.inj y z c (own_c a1) (own_c a2), ?_, fun y c z _ => ?_, fun _ => hd, Around.frames_deeper e0.frames, .inr ⟨rfl, rfl⟩, fun b z => absurd z (none_ex b), e0.bs, e0.bsz, fun b _ _ => none_ex b,
      fun b z => absurd z (none_ex b), e0.funs, e0.frf⟩,
    rfl, e0.bare, Un.kept up, ⟨_, ns, ?_⟩, fun y c e => ?_, e0.hok.fresh (Nat.le_refl _), fun y c e => ?_, fun q hq => absurd (show q ∈ ([] : List (Addr × Obj)) ++ [] from hq) (by simp), e0.hok.kept up, I.len⟩
  · intro y hy
    rcases (show scope.names.lookup y = some .cell ∨ scope.names.lookup y = some .free from hy) with hy | hy
    · exact absurd rfl (L.own _ (PySem.mem_of_lookup hy)).1
    · exact clo hy
  · cases (show false = true from z)
  · intro i y v g1 g2 g3
    rcases (show Vis scope y from g3) with k | k | k
    · have : y = y0 := (L.own _ (PySem.mem_of_lookup k)).2 rfl
      exact absurd (List.mem_of_getElem? g1) (by rw [this]; exact ny)
    · exact absurd rfl (L.own _ (PySem.mem_of_lookup k)).1
    · obtain ⟨m, hn, hl⟩ := I.loc
      have vis : Vis X.env.scope y := (L.free _ (PySem.mem_of_lookup k) rfl).elim (fun k => .inr (.inl k)) fun k => .inr (.inr k)
      obtain ⟨w', r, q⟩ := hl i y v g1 g2 vis
      obtain ⟨c2, h2⟩ := clo k
      refine ⟨w', r, .inr ⟨.inr k, c2, h2, ?_⟩⟩
      rcases q with ⟨k', _⟩ | ⟨_, c3, e', z⟩
      · have k' : X.env.scope.names.lookup y = some .local := k'
        rcases L.free _ (PySem.mem_of_lookup k) rfl with k2 | k2 <;> rw [show X.env.scope.names.lookup y = _ from k2] at k' <;> cases k'
      · rw [own_c h2] at e'
        cases e'
        exact keepC (I.freeC y _ (own_c h2)) z
  · obtain ⟨w', z⟩ := I.cell y c (own_c e)
    exact ⟨w', keepC (I.freeC y c (own_c e)) z⟩
  · obtain ⟨v, o, ho, hdt⟩ := I.cell y c (own_c e)
    exact un.free c o ho (I.freeC y c (own_c e)) (by simp)
theorem pe_actD {GX : CXT} {GE : XK} {GN : List Str} {gq : Str} {gs : Scope} {g f c' t : Addr} {gcd doc pm ctv : Value} {params : Arguments} {body : Expr} {scope : Scope} {y0 : Str} {i0 : Int} {tk0 : Tok} {k i : Nat} {a : Str} {pn : List (Addr × Obj)} {xe : Value → Shared → Prop} {W : WX} {tb : XK → TE} {p1 p2 : Pos}
    (I : Inv X pins σ H s) (L : LamP X.env.scope scope y0) (ny : y0 ∉ X.N) (hf : s.heap.get? f = some { cls := .type "function", data := .func (dfn X params body scope t doc pm (.ref c') ctv) }) (hfn : H f = none) (hfr : f ∉ frs X.stack)
    (ht : s.heap.get? t = some (PySem.W.kdv_tup [.int i0 tk0])) (htn : H t = none) (htr : t ∉ frs X.stack)
    (bindD : ∃ kk, bindArgs (dfn X params body scope t doc pm (.ref c') ctv) ⟨[], []⟩ = seqItems? (.ref t) >>= kk ∧ kk (some #[.int i0 tk0]) = pure [(y0, .int i0 tk0)])
    (tk : Takes ((cxOf GX X.prog X.w X.K X.mg X.base GN gq gs g gcd X.A X.stack s H GE).tr pn xe) W) (hr : Room (k + 1) (X.A.deeper (envOfC gq gs s.heap.objs.size g gcd)))
    (inner : ∀ (A : Around) (outer : List Env) (s2 : Shared) (H2 : Hp) (E : XK), Room k (A.deeper (lamEnv X scope s2.heap.objs.size f c')) → PE (lamCx X A outer s2 H2 E scope f c') body (tb E))
    (hN : GN[i]? = some a) (hv : Vis gs a) (hd : (a == ("__debug__" : Str)) = false := by decide) (hcd : (a == ("__classdict__" : Str)) = false := by decide) :
    PE ((cxOf GX X.prog X.w X.K X.mg X.base GN gq gs g gcd X.A X.stack s H GE).tr pn xe) (.Call (.Name a p1) [] [] p2)
      (fun τ G Q => τ[i]? = some (some (.ref f)) ∧ G c' = some (CodeO c' (X.env.qual ++ "<lambda>")) ∧ tb (fun cls dd G' => W cls dd τ G') σ G Q) := by
  constructor
  intro pz sz τ G Q J ⟨at_, co, go⟩
  refine wpAny_Call_Name_kw (thn ((pe_var (pos := p1) (i := i) hN hv hd hcd).run pz sz τ G (fun v G1 => v = .ref f ∧ G1 = G) J ⟨.ref f, at_, rfl, rfl⟩) ?_)
  rintro u s1 ⟨v, G1, J1, rel, rfl, rfl⟩
  cases (show u = Value.ref f from rel)
  have nex : ∀ b : Addr, b ∉ ([] : List Addr) := fun b => by simp
  have held := J1.base.keep f _ hf hfn hfr (nex f)
  have heldT := J1.base.keep t _ ht htn htr (nex t)
  refine PySem.W.callWith_F0 ⟨_, _, _, _, held⟩ ?_
  have base : Un (frs X.stack) [] H G1 s.heap s1.heap := J1.base
  obtain ⟨⟨oc, vs, tq, k1, k2, k3⟩, -, -⟩ := J1.hok c' _ co
  obtain ⟨kk, b1, b2⟩ := bindD
  have ran : codeAny (model X.prog X.w) (X.A.deeper (envOfC gq gs s.heap.objs.size g gcd)) (.call (.ref f) ⟨[], []⟩)
      (CR (L2.CX X.prog X.w) (envOfC gq gs s.heap.objs.size g gcd :: X.stack) X.prog X.w G1 s1 Q (fun cls dd G' => W cls dd τ G')) s1 := by
    refine PySem.W.kla_callFunE hr.depth held rfl L.co L.gen rfl ⟨c', oc, vs, tq, rfl, k1, k2, k3⟩ ?_
    rw [b1]
    refine wpAny_bind (wpAny_seqItems heldT rfl ?_)
    rw [b2]
    refine wpAny_pure (wpAny_newFunctionEnv (fun y hy => (L.own y hy).1) (fun y hy => by rw [List.mem_singleton.mp hy]; exact L.par) (fun h₁ ns bt => ?_) L.kind)
    have up : ∀ b o, s1.heap.get? b = some o → h₁.get? b = some o := fun b o e =>
      bt.extBut b o (Nat.ne_of_lt (Heap.lt_size e)) (Heap.get?_push_of_some _ e)
    refine ⟨J1.nolimit.fresh _ bt, PySem.W.kla_codeExpr ?_⟩
    have start : Inv (lamCx X (X.A.deeper (envOfC gq gs s.heap.objs.size g gcd)) (envOfC gq gs s.heap.objs.size g gcd :: X.stack) s1 G1 (fun cls dd G' => W cls dd τ G') scope f c') [] σ G1
        { s1 with heap := h₁, toks := s1.toks + ([(y0, .int i0 tk0)] : List (Str × Value)).length } := lam_startD I L ny J1.env0 hr.hd base ns up
    refine wpAny_mono ((inner _ _ s1 G1 _ (hr.deeper _)).run [] _ _ G1 Q start go) ?_ fun e s' q => q
    rintro v s' ⟨w', G2, J2, rv, q⟩
    exact ⟨w', G2, J2.os, J2.bare, J2.base, J2.hok, rv, q⟩
  refine wpAny_call (codeAny_mono ran fun r s' q => ?_)
  match r, q with
  | .error e, q => exact passAt tk τ pz G1 s1 e s' J1 q
  | .ok (.ret u), q => exact J1.after q
end
section
variable {X : Cx}
/-- g(lambda y0=i0: body) -/
theorem pe_lamD {T : List (Addr × Str)} {TT : (XK → Hp → VK → Prop) → Hp → VK → Prop} {x a y0 : Str} {i0 : Int} {j : Nat} {pd : Pos} {g c P : Addr} {k : Nat} {st : Stmt} {fd : FuncData} {GN : List Str} {params : Arguments} {body : Expr} {scope : Scope} {t : XK → TE} {p lp pos : Pos}
    (D : Df X.K X.mg x st [a] g fd) (S : FnScope GN [a] (defScope st)) (at0 : GN[0]? = some a) (va : Vis (defScope st) a) (gl : Gl X x)
    (gives : ∀ gcd, Gives X GN x (defScope st) g gcd (defBody st) a (X.env.qual ++ "<lambda>") TT) (B : TabB X.base X.mg c P) (code : X.env.code = .ref c) (mem : (P, X.env.qual ++ "<lambda>") ∈ T) (uni : ∀ p ∈ T, p.1 = P → p.2 = X.env.qual ++ "<lambda>")
    (hr : Room (k + 2) X.A) (L : LamP X.env.scope scope y0) (ny : y0 ∉ X.N) (inner : ∀ (A : Around) (outer : List Env) (s2 : Shared) (H2 : Hp) (E : XK) (f c' : Addr), Room k (A.deeper (lamEnv X scope s2.heap.objs.size f c')) → PE (lamCx X A outer s2 H2 E scope f c') body (t E))
    (d0 : defaultsOf params X.env = ([eval (.Constant (.int i0) j pd) X.env], []) := by rfl)
    (bindD : ∀ (q : Str) (cl : List (Str × Addr)) (td : Addr) (doc pm cv ctv : Value) (tk0 : Tok), ∃ kk, bindArgs (PySem.W.kdv_fn "<lambda>" q params (.expr body) scope cl (.ref td) doc pm cv ctv) ⟨[], []⟩ = seqItems? (.ref td) >>= kk ∧ kk (some #[.int i0 tk0]) = pure [(y0, .int i0 tk0)] := by intros; exact ⟨_, rfl, rfl⟩)
    (hdb : (x == ("__debug__" : Str)) = false := by decide) (hd : (a == ("__debug__" : Str)) = false := by decide) (hcd : (a == ("__classdict__" : Str)) = false := by decide) :
    PE X (.Call (.Name x p) [.Lambda params body scope lp] [] pos) (tLam T TT t) := by
  obtain ⟨oc, od, kV, doc, pm, an, gcd, ct, osl, rfl, lk, cg⟩ := D.F.ex
  constructor
  intro pins s σ H Q I ⟨hT, h⟩
  refine wpAny_Call_Name_kw (ld_glob I gl D.g ?_ hdb)
  refine PySem.W.callWith_K (h₀ := X.base) I.ok.mod.kin D.F.kp ?_ (by rfl) (by rfl)
  show wpAny _ _ (spliced ((false, eval (.Lambda params body scope lp) X.env) :: backTo pos (starEach [] X.env))) _ _ s
  refine Calls.spliced_cons (lam_makeD I B code mem uni hT d0 L ?_)
  intro f c' td tk doc' pm' ctv H1 s' I1 eN T1 hf hfn hfr ht htn htr hco
  refine Calls.spliced_nil ⟨I1.kIn, wpAny_call (codeAny_mono ?_ fun r s2 (q : CR L2.CX0 X.stack X.prog X.w H1 s' Q L2.E0 r s2) => ?_)⟩
  · refine run_ofS (N := GN) (ps := [a]) (us := [.ref f]) (vs := [.ref f]) lk cg S hr I1.env0 (D.b s' [.ref f] I1.kIn rfl) (.cons rfl .nil) rfl fun hr' => ?_
    obtain ⟨t', ht', hq'⟩ := gives gcd f c' s' H1 Q (fun E G Q' => t E σ G Q')
      (fun W pn xe p1 p2 tkk => pe_actD (i := 0) I1 L ny hf hfn hfr ht htn htr (bindD _ _ _ _ _ _ _ _) tkk hr' (fun A outer s2 H2 E hr2 => inner A outer s2 H2 E f c' hr2) at0 va hd hcd) hco (h H1 eN T1)
    exact ⟨t', ht'.nox, hq'⟩
  · match r, q with
    | .ok (.ret u), q => exact I1.after q
end
end K1
set_option Elab.async false
set_option linter.all false
set_option maxRecDepth 100000
namespace L2
open PySem PySem.Spec PyProof.Rows
variable {X : Cx}
/-- x in t, of data, where t is a tuple -/
def rInT (K : PySem.W.Frag) (neg : Bool) : R2 := fun x y H Q => ∃ d ds, Dp K H x d ∧ Dp K H y (.tuple ds) ∧ SeqAt.shaped d = true ∧ SeqAt.shaped (.tuple ds) = true ∧ Q (.bl (if neg then !(ds.any fun z => PyData.eqv z d) else ds.any fun z => PyData.eqv z d)) H
theorem canLay_tup {ds : List PyData} (h : SeqAt.shaped (.tuple ds) = true) : PyData.canLayAll0 ds = true := by
  unfold SeqAt.shaped at h
  rw [PyData.canLay0] at h
  exact (Bool.and_eq_true_iff.mp h).1
theorem op_inT (hu : X.A.units + 65 < cLine) : OpR X (compareOp .In) (rInT X.K false) := by
  intro pins s σ H x y v u Q I rx ry h
  obtain ⟨d, ds, hd, he, sd, se, q⟩ := h
  obtain ⟨as, r1⟩ := Dp.reads I d x v hd rx
  obtain ⟨bs, r2⟩ := Dp.reads I (.tuple ds) y u he ry
  exact SeqAt.in_tuple_reads r2 r1 (canLay_tup se) (SeqAt.canLay_of_shaped sd) (room_in_shaped sd hu) ⟨.bl _, H, I, rfl, q⟩
theorem op_notInT (hu : X.A.units + 65 < cLine) : OpR X (compareOp .NotIn) (rInT X.K true) := by
  intro pins s σ H x y v u Q I rx ry h
  obtain ⟨d, ds, hd, he, sd, se, q⟩ := h
  obtain ⟨as, r1⟩ := Dp.reads I d x v hd rx
  obtain ⟨bs, r2⟩ := Dp.reads I (.tuple ds) y u he ry
  exact SeqAt.notIn_tuple_reads r2 r1 (canLay_tup se) (SeqAt.canLay_of_shaped sd) (room_in_shaped sd hu) ⟨.bl _, H, I, rfl, q⟩
end L2
namespace K1
open PySem L2
section
variable {P : Program} {w : World} {K : PySem.W.Frag} {mg : Str → Option Value} {base : Heap}
abbrev sBadState : Stmt := inClass (top 8) 0
theorem scBadState : FnScope ["self", "state"] ["self", "state"] (defScope sBadState) := ⟨rfl, rfl, rfl, by decide +kernel, rfl, by decide +kernel, by decide +kernel⟩
abbrev OBadState (K : PySem.W.Frag) (mg : Str → Option Value) (C fI : Addr) (fd : FuncData) : Prop := Oer K mg "BadState" ["state"] C fI fd "BadState.__init__" sBadState
theorem ini_BadState {C fI : Addr} {fd : FuncData} (O : OBadState K mg C fI fd) : FnOk P w K mg base CX0 1 fI fd ["self", "state"] (spIni C ["state"]) := by
  refine O.F.ok scBadState (fun vs H Q E h => ?_) (fun cdv A outer s H vs Q E hr h => ?_)
  · obtain ⟨a, ys, rfl, e, _⟩ := h
    show ys.length + 1 = _
    rw [e]; rfl
  · obtain ⟨a, ys, rfl, e, ha, k⟩ := h
    obtain ⟨y0, rfl⟩ : ∃ y0, ys = [y0] := by
      match ys, e with
      | [y0], _ => exact ⟨y0, rfl⟩
    refine ⟨_, pss_one (ps_ost (f := "state") (pv 0) (pv 1)), ?_⟩
    refine ⟨_, rfl, _, rfl, a, C, rfl, O.T, O.no _ (List.mem_cons_self ..), .inl ⟨ha, fun dx hdx ne => ?_⟩⟩
    refine k dx hdx ne _ (fun b o eb nb => ?_) ?_ ?_
    · rw [upd_ne nb, upd_ne (ne_of_none eb hdx)]; exact eb
    · exact upd_same
    · rw [upd_ne ne]; exact upd_same
abbrev sNoDeed : Stmt := inClass (top 9) 0
theorem scNoDeed : FnScope ["self", "index"] ["self", "index"] (defScope sNoDeed) := ⟨rfl, rfl, rfl, by decide +kernel, rfl, by decide +kernel, by decide +kernel⟩
abbrev ONoDeed (K : PySem.W.Frag) (mg : Str → Option Value) (C fI : Addr) (fd : FuncData) : Prop := Oer K mg "NoDeed" ["index"] C fI fd "NoDeed.__init__" sNoDeed
theorem ini_NoDeed {C fI : Addr} {fd : FuncData} (O : ONoDeed K mg C fI fd) : FnOk P w K mg base CX0 1 fI fd ["self", "index"] (spIni C ["index"]) := by
  refine O.F.ok scNoDeed (fun vs H Q E h => ?_) (fun cdv A outer s H vs Q E hr h => ?_)
  · obtain ⟨a, ys, rfl, e, _⟩ := h
    show ys.length + 1 = _
    rw [e]; rfl
  · obtain ⟨a, ys, rfl, e, ha, k⟩ := h
    obtain ⟨y0, rfl⟩ : ∃ y0, ys = [y0] := by
      match ys, e with
      | [y0], _ => exact ⟨y0, rfl⟩
    refine ⟨_, pss_one (ps_ost (f := "index") (pv 0) (pv 1)), ?_⟩
    refine ⟨_, rfl, _, rfl, a, C, rfl, O.T, O.no _ (List.mem_cons_self ..), .inl ⟨ha, fun dx hdx ne => ?_⟩⟩
    refine k dx hdx ne _ (fun b o eb nb => ?_) ?_ ?_
    · rw [upd_ne nb, upd_ne (ne_of_none eb hdx)]; exact eb
    · exact upd_same
    · rw [upd_ne ne]; exact upd_same
end
def Rs (C : Addr) (fs : List Str) (vs : List V) (H : Hp) (E : XK) : Prop := ∀ d G, Same H G → H d = none → G d = some (.xd (fs.zip vs).reverse) → E (.ref C) (some d) G
theorem Rs.same {C : Addr} {fs : List Str} {vs : List V} {H H' : Hp} {E : XK} (r : Rs C fs vs H E) (s : Same H H') : Rs C fs vs H' E := fun d G sG hd e => r d G (s.trans sG) (s.free hd) e
end K1
set_option Elab.async false
set_option linter.all false
set_option maxRecDepth 100000
namespace K1
open PySem L2
theorem eqv_strs : ∀ ws ws2 : List Str, PyData.eqvAll (ws.map PyData.str) (ws2.map PyData.str) = decide (ws = ws2)
  | [], [] => by simp [PyData.eqvAll]
  | [], _ :: _ => by simp [PyData.eqvAll]
  | _ :: _, [] => by simp [PyData.eqvAll]
  | a :: r, b :: q => by
    simp only [List.map_cons, PyData.eqvAll, eqv_strs r q, PyData.eqv]
    by_cases e : a = b
    · subst e; simp
    · simp [e]
theorem eqv_ints : ∀ ws ws2 : List Int, PyData.eqvAll (ws.map PyData.int) (ws2.map PyData.int) = decide (ws = ws2)
  | [], [] => by simp [PyData.eqvAll]
  | [], _ :: _ => by simp [PyData.eqvAll]
  | _ :: _, [] => by simp [PyData.eqvAll]
  | a :: r, b :: q => by
    simp only [List.map_cons, PyData.eqvAll, eqv_ints r q, PyData.eqv]
    by_cases e : a = b
    · subst e; simp
    · simp [e]
def OkS (ws : List Str) : Prop := ∀ z ∈ ws, PyData.strOk z = true
theorem TL_lt : ∀ c ∈ TL', c < 0x110000 := by decide +kernel
theorem ok_chars {z : Str} (h : ∀ c ∈ z.cps.toList, c ∈ TL') : PyData.strOk z = true := by
  unfold PyData.strOk
  rw [Array.all_eq_true']
  intro c hc
  exact decide_eq_true (TL_lt c (h c (by simpa using hc)))
theorem Wd.chars {z : Str} (h : Wd z) : ∀ c ∈ z.cps.toList, c ∈ AL := by
  obtain ⟨c, r, ez, hc, hr, _⟩ := h
  intro x hx
  rw [ez] at hx
  rcases List.mem_cons.mp hx with rfl | hx
  · exact LE_AL hc
  · exact hr x hx
theorem ok_wd {ws : List Str} (h : ∀ z ∈ ws, Wd z) : OkS ws := fun z hz => ok_chars fun c hc => List.mem_append_left _ ((h z hz).chars c hc)
theorem canLay_strs : ∀ ws : List Str, OkS ws → PyData.canLayAll0 (ws.map PyData.str) = true
  | [], _ => rfl
  | n :: r, h => by simp [PyData.canLayAll0, PyData.canLay0, canLay_strs r (fun z hz => h z (List.mem_cons_of_mem _ hz)), h n (List.mem_cons_self ..)]
theorem depth_ints : ∀ ns : List Int, PyData.depthAll (ns.map PyData.int) ≤ 1
  | [] => by decide
  | n :: r => by have := depth_ints r; simp only [List.map_cons, PyData.depthAll, PyData.depth]; omega
theorem depth_strs : ∀ ns : List Str, PyData.depthAll (ns.map PyData.str) ≤ 1
  | [] => by decide
  | n :: r => by have := depth_strs r; simp only [List.map_cons, PyData.depthAll, PyData.depth]; omega
theorem shaped_of {d : PyData} (h : d.canLay0 = true) (e : d.depth ≤ 64) : SeqAt.shaped d = true := by
  unfold SeqAt.shaped
  rw [h]
  simp [e]
theorem shaped_strs {ws : List Str} (h : OkS ws) : SeqAt.shaped (.tuple (ws.map PyData.str)) = true := shaped_of (by rw [PyData.canLay0, canLay_strs _ h]) (by rw [PyData.depth]; have := depth_strs ws; omega)
theorem dp_strs {K : PySem.W.Frag} {H : Hp} : ∀ ws : List Str, DpAll K H (ws.map V.str) (ws.map PyData.str)
  | [] => .nil
  | n :: r => .cons (.str n) (dp_strs r)

/-- None or a number, as data -/
def mD : V → PyData
  | .int i => .int i
  | _ => .none
def mOk (m : V) : Prop := m = .non ∨ ∃ i, m = .int i
theorem mOk.dp {K : PySem.W.Frag} {H : Hp} {m : V} (h : mOk m) : Dp K H m (mD m) := by
  rcases h with rfl | ⟨i, rfl⟩
  · exact .non
  · exact .int i
theorem mOk.sh {m : V} (h : mOk m) : SeqAt.shaped (mD m) = true := by
  rcases h with rfl | ⟨i, rfl⟩
  · exact shaped_of rfl (by decide)
  · exact shaped_of rfl (Nat.zero_le _)
theorem mOk.eqv {m n : V} (h : mOk m) (h' : mOk n) : PyData.eqv (mD m) (mD n) = decide (m = n) := by
  rcases h with rfl | ⟨i, rfl⟩ <;> rcases h' with rfl | ⟨j, rfl⟩ <;> simp [mD, PyData.eqv]
  by_cases e : i = j <;> simp [e]
end K1
set_option Elab.async false
set_option linter.all false
set_option maxRecDepth 100000
/-! where a row leads -/
namespace K1
open PySem L2
abbrev sMPath : Stmt := inClass (top 34) 4
abbrev sMAfter : Stmt := inClass (top 34) 5
abbrev sMTold : Stmt := inClass (top 34) 6
def forBody : Stmt → List Stmt
  | .For _ _ b _ _ => b
  | _ => []
theorem room65 {k : Nat} {A : Around} (r : Room k A) : A.units + 65 < cLine := by have := r.un; omega
/-- one step -/
def stp (rs : List (List Int)) (s k : Int) : Int := (rs.getD s.toNat []).getD k.toNat 0
def led (rs : List (List Int)) (ks : List Int) (s : Int) : Int := ks.foldl (stp rs) s
def wayN (rs : List (List Int)) (ks : List Int) (s : Int) (n : Nat) : List Int := (List.range n).map fun j => led rs (ks.take j) s
/-- all states on the way -/
def way (rs : List (List Int)) (ks : List Int) (s : Int) : List Int := wayN rs ks s (ks.length + 1)
/-- the deeds of a row of numbers -/
def nm (ws : List Str) (ks : List Int) : List Str := ks.map fun k => ws.getD k.toNat ""
def Ix (w : Nat) (ks : List Int) : Prop := ∀ k ∈ ks, 0 ≤ k ∧ k < (w : Int)
theorem nm_len (ws : List Str) (ks : List Int) : (nm ws ks).length = ks.length := by simp [nm]
theorem wayN_succ (rs : List (List Int)) (ks : List Int) (s : Int) (n : Nat) : wayN rs ks s (n + 1) = wayN rs ks s n ++ [led rs (ks.take n) s] := by
  simp [wayN, List.range_succ]
theorem wayN_len (rs : List (List Int)) (ks : List Int) (s : Int) (n : Nat) : (wayN rs ks s n).length = n := by simp [wayN]
theorem way_eq (rs : List (List Int)) (ks : List Int) (s : Int) : way rs ks s = wayN rs ks s ks.length ++ [led rs ks s] := by
  rw [way, wayN_succ, List.take_length]
theorem led_snoc (rs : List (List Int)) (ks : List Int) (s k : Int) : led rs (ks ++ [k]) s = stp rs (led rs ks s) k := by simp [led]
theorem at_last {xs : List Int} {y : Int} : atI ((xs ++ [y]).map V.int) (-1) = some (.int y) := by
  rw [List.map_append]; exact atI_last _ _
theorem at_deed {ws : List Str} {k : Int} (h0 : 0 ≤ k) (h1 : k < (ws.length : Int)) : atI (ws.map V.str) k = some (.str (ws.getD k.toNat "")) := by
  have hl : k.toNat < ws.length := by omega
  have e : k = ((k.toNat : Nat) : Int) := by omega
  rw [e]
  refine atI_nat ?_
  rw [Int.toNat_natCast, List.getElem?_map, List.getElem?_eq_getElem hl, List.getD_eq_getElem?_getD, List.getElem?_eq_getElem hl]
  rfl
theorem at_int {r : List Int} {k : Int} (h0 : 0 ≤ k) (h1 : k < (r.length : Int)) : atI (r.map V.int) k = some (.int (r.getD k.toNat 0)) := by
  have hl : k.toNat < r.length := by omega
  have e : k = ((k.toNat : Nat) : Int) := by omega
  rw [e]
  refine atI_nat ?_
  rw [Int.toNat_natCast, List.getElem?_map, List.getElem?_eq_getElem hl, List.getD_eq_getElem?_getD, List.getElem?_eq_getElem hl]
  rfl
theorem at_ref {as : List Addr} {k : Int} (h0 : 0 ≤ k) (h1 : k < (as.length : Int)) : ∃ a, as[k.toNat]? = some a ∧ atI (as.map V.ref) k = some (.ref a) := by
  obtain ⟨m, rfl⟩ : ∃ m : Nat, k = (m : Int) := ⟨k.toNat, by omega⟩
  have hl : m < as.length := by omega
  refine ⟨as[m], by rw [Int.toNat_natCast]; exact List.getElem?_eq_getElem hl, atI_nat ?_⟩
  rw [List.getElem?_map, List.getElem?_eq_getElem hl]
  rfl
theorem getD_get {α : Type} {xs : List α} {n : Nat} (d : α) (h : n < xs.length) : xs[n]? = some (xs.getD n d) := by
  rw [List.getD_eq_getElem?_getD, List.getElem?_eq_getElem h]; rfl
section
variable {ws : List Str} {rs : List (List Int)} {ss : List Str} {st : Int}
theorem Parts.stp (pt : Parts ws rs ss st) {s k : Int} (s0 : 0 ≤ s) (s1 : s < (rs.length : Int)) (k0 : 0 ≤ k) (k1 : k < (ws.length : Int)) :
    ∃ r, rs[s.toNat]? = some r ∧ r.length = ws.length ∧ K1.stp rs s k = r.getD k.toNat 0 ∧ 0 ≤ K1.stp rs s k ∧ K1.stp rs s k < (rs.length : Int) := by
  have hs : s.toNat < rs.length := by omega
  have er := getD_get (xs := rs) [] hs
  obtain ⟨hl, hx⟩ := pt.row _ (List.mem_of_getElem? er)
  have hk : k.toNat < (rs.getD s.toNat []).length := by omega
  have hm := hx _ (List.mem_of_getElem? (getD_get 0 hk))
  exact ⟨_, er, hl, rfl, hm⟩
theorem Parts.led (pt : Parts ws rs ss st) : ∀ {ks : List Int} {s : Int}, Ix ws.length ks → 0 ≤ s → s < (rs.length : Int) → 0 ≤ K1.led rs ks s ∧ K1.led rs ks s < (rs.length : Int)
  | [], s, _, h0, h1 => ⟨h0, h1⟩
  | k :: ks, s, hk, h0, h1 => by
    obtain ⟨k0, k1⟩ := hk k (List.mem_cons_self ..)
    obtain ⟨r, _, _, _, a, b⟩ := pt.stp h0 h1 k0 k1
    exact Parts.led pt (ks := ks) (fun j hj => hk j (List.mem_cons_of_mem _ hj)) a b
end
theorem Ix.take {w : Nat} {ks : List Int} (h : Ix w ks) (n : Nat) : Ix w (ks.take n) := fun k hk => h k (List.mem_of_mem_take hk)
theorem first_at {ws : List Str} (nd : ws.Nodup) {j : Nat} (hj : j < ws.length) : ∀ m, m < j → ws[m]? ≠ some (ws.getD j "") := by
  intro m hm e
  have hm' : m < ws.length := by omega
  rw [List.getElem?_eq_getElem hm', List.getD_eq_getElem?_getD, List.getElem?_eq_getElem hj] at e
  have e2 : ws[m] = ws[j] := by simpa using e
  exact List.pairwise_iff_getElem.mp nd m j hm' hj hm e2
theorem eqv_str (a b : Str) : PyData.eqv (.str a) (.str b) = decide (a = b) := by
  simp [PyData.eqv]
  by_cases e : a = b <;> simp [e]
theorem shaped_str {ws : List Str} (h : OkS ws) {z : Str} (hz : z ∈ ws) : SeqAt.shaped (.str z) = true := shaped_of (by rw [PyData.canLay0]; exact h z hz) (by rw [PyData.depth]; decide)
/-- what a row is: deeds, and behind them nothing, or something that is no deed -/
def Row (K : PySem.W.Frag) (C CB CN : Addr) (H : Hp) (E : XK) (x r : Addr) (v : V) (done : List Str → List (List Int) → List Int → Int → Prop) : Prop := ∃ (ws : List Str) (rs : List (List Int)) (ss : List Str) (st : Int) (ks : List Int) (tl : List V), MachAt K C H x ws rs ss st ∧ Parts ws rs ss st ∧
  Sq K H r ((nm ws ks).map V.str ++ tl) ∧ Ix ws.length ks ∧ ks.length ≤ 100 ∧
  ((∃ ty, Th K H v ty ∧ v ≠ .non ∧ ixB v rs.length = false ∧ Rs CB ["state"] [v] H E) ∨
   (∃ s0 : Int, 0 ≤ s0 ∧ s0 < (rs.length : Int) ∧ ((v = .non ∧ s0 = st) ∨ v = .int s0) ∧
     ((tl = [] ∧ done ss rs ks s0) ∨
      (∃ y d rest, tl = y :: rest ∧ (∀ G, Same H G → Dp K G y d) ∧ SeqAt.shaped d = true ∧ (∀ z ∈ ws, PyData.eqv (.str z) d = false) ∧ Rs CN ["index"] [.int (ks.length : Nat)] H E))))
def spPath (K : PySem.W.Frag) (C CB CN : Addr) : Sp := fun vs H Q E => ∃ (x r : Addr) (v : V), vs = [.ref x, .ref r, v] ∧ Row K C CB CN H E x r v fun _ rs ks s0 => ∀ l H', H l = none → Same H H' → H' l = some (.lst ((way rs ks s0).map V.int)) → Q (.ref l) H'
theorem ix_of {s m : Int} (h0 : 0 ≤ s) (h1 : s < m) : ixB (.int s) m = true := by
  unfold ixB
  simp [h0, h1]
section
variable {P : Program} {w : World} {K : PySem.W.Frag} {mg : Str → Option Value} {base : Heap}
abbrev pPath : List Str := ["self", "row", "state"]
abbrev nPath : List Str := ["self", "row", "state", "first", "states", "index", "deed"]
theorem scMPath : FnScope nPath pPath (defScope sMPath) := ⟨rfl, rfl, rfl, by decide +kernel, rfl, by decide +kernel, by decide +kernel⟩
abbrev MP (K : PySem.W.Frag) (f : Addr) (fd : FuncData) : Prop := FunD K "path" "Machine.path" (defArgs sMPath) (defBody sMPath) (defScope sMPath) [.non] [] f fd
theorem ok_path {C CB CN f fX fI fB fN : Addr} {fd fdX fdI fdB fdN : FuncData} (F : MP K f fd) (M : Tm K mg C) (T : Bt2 mg) (DX : Df K mg "is_index" sIsIndex ["value", "many"] fX fdX) (DI : Df K mg "is_integer" sIsInt ["value"] fI fdI)
    (OB : OBadState K mg CB fB fdB) (ON : ONoDeed K mg CN fN fdN) : FnOk P w K mg base (L2.CX P w) 3 f fd pPath (spPath K C CB CN) := by
  have GX : FnOk P w K mg base CX0 2 fX fdX ["value", "many"] (spIx K) := g_isindex DX DI T
  refine F.ok scMPath (fun vs H Q E h => ?_) (fun cdv A outer s H vs Q E hr h => ?_)
  · obtain ⟨x, r, v, rfl, _⟩ := h
    rfl
  · obtain ⟨x, r, v, rfl, ws, rs, ss, st, ks, tl, hM, pt, hR, hix, hkl, kk⟩ := h
    obtain ⟨dx, tA, rA, lA, as, hx, htA, hrA, hRT, hlA⟩ := id hM
    have hws : OkS ws := ok_wd pt.gd.wd
    -- the loop's body
    obtain ⟨tb, htb, hqb⟩ : ∃ tb, PSs (cxOf (L2.CX P w) P w K mg base nPath "Machine.path" (defScope sMPath) f cdv A outer s H E) (forBody (stOf sMPath 3)) tb ∧ ∀ (D : Ends) (G : Hp) (dA : Addr) (fs : V) (i : Nat) (y : V) (s0 : Int), 0 ≤ s0 → s0 < (rs.length : Int) → Same H G → H dA = none →
        G dA = some (.lst ((wayN rs ks s0 (i + 1)).map V.int)) → ((∃ k, ks[i]? = some k ∧ y = .str (ws.getD k.toNat "") ∧ ∀ G', Same H G' → G' dA = some (.lst ((wayN rs ks s0 (i + 2)).map V.int)) → D.nx [some (.ref x), some (.ref r), some v, some fs, some (.ref dA), some (.int (i : Nat)), some y] G') ∨
          (∃ d, (∀ G, Same H G → Dp K G y d) ∧ SeqAt.shaped d = true ∧ (∀ z ∈ ws, PyData.eqv (.str z) d = false) ∧ Rs CN ["index"] [.int (i : Nat)] H E)) → tb D [some (.ref x), some (.ref r), some v, some fs, some (.ref dA), some (.int (i : Nat)), some y] G := by
      refine ⟨_, pss_cons (ps_if (pt_cmpR (op_notInT (room65 hr)) (pv 6) (pe_fld (pv 0) rfl) (by rfl))
          (pss_one (ps_raise rfl (takes_of rfl rfl rfl rfl) (pmk_oex ON.T ON.ini ON.tI (ini_NoDeed ON) hr ON.b .nil pass0 rfl ON.g (pa_cons (pv 5) pa_nil)))) pss_nil)
        (pss_one (ps_expr (pe_bm PySem.F.plainAttrs_list PySem.F.slot_list_append PySem.F.type_list_append mt_append (pv 4) (pa_cons
          (pe_ix ix_tup (pe_ix ix_tup (pe_fld (pv 0) rfl) (pe_ix ix_list (pv 4) (pe_un un_neg pe_int) (fun _ _ => rfl)) (fun _ _ => rfl))
            (pe_bmF PySem.F.slot_tuple_index PySem.F.type_tuple_index mt_tup_index (pe_fld (pv 0) rfl) (pa_cons (pv 6) pa_nil)) (fun _ _ => rfl)) pa_nil)))), ?_⟩
      intro D G dA fs i y s0 h0 h1 sG zD hD kk
      have hxG := sG _ _ hx
      have htG := htA.same sG
      rcases kk with ⟨k, ek, rfl, done⟩ | ⟨d, hd, sd, nd, kr⟩
      · obtain ⟨k0, k1⟩ := hix k (List.mem_of_getElem? ek)
        have hkl' : k.toNat < ws.length := by omega
        have hz : ws.getD k.toNat "" ∈ ws := List.mem_of_getElem? (getD_get ("" : Str) hkl')
        refine ⟨_, rfl, _, rfl, x, C, dx, _, _, rfl, hxG, M.cl, M.nD, mf_deeds _ _ _ _, .str (ws.getD k.toNat ""), _, .str _, .tup htG.sq (dp_strs ws), shaped_str hws hz, shaped_strs hws, _, rfl, ?_⟩
        have e1 : ((ws.map PyData.str).any fun q => PyData.eqv q (.str (ws.getD k.toNat ""))) = true := by
          rw [List.any_eq_true]
          exact ⟨_, List.mem_map_of_mem hz, by rw [eqv_str]; simp⟩
        rw [if_pos rfl, e1]
        refine iteF ?_
        have hl0 := pt.led (hix.take i) h0 h1
        obtain ⟨q, eq, hql, hst, hb0, hb1⟩ := pt.stp hl0.1 hl0.2 k0 k1
        have hlen : as.length = rs.length := hRT.1
        obtain ⟨ra, era, eat⟩ := at_ref (as := as) hl0.1 (by rw [hlen]; exact hl0.2)
        have hra := sG _ _ (hRT.2 _ _ _ era eq)
        refine ⟨_, rfl, .inl ⟨rfl, _, SqL.of hD⟩, _, rfl, x, C, dx, _, _, rfl, hxG, M.cl, M.nR, mf_rows _ _ _ _, _, rfl, 1, rfl, dA, _, _, _, rfl, rfl, SqL.of hD, (by rw [wayN_succ]; exact at_last), ?_⟩
        refine ⟨rA, _, _, _, rfl, rfl, SqT.of (sG _ _ hrA), eat, _, rfl, x, C, dx, _, _, rfl, hxG, M.cl, M.nD, mf_deeds _ _ _ _, ⟨tA, _, rfl, htG⟩, _, rfl, tA, ws, _, k.toNat, rfl, rfl, htG.sq, getD_get ("" : Str) hkl', first_at pt.gd.nd hkl', ?_⟩
        refine ⟨ra, _, _, _, rfl, rfl, SqT.of hra, (by have := at_int (r := q) k0 (by omega); rw [← Int.toNat_of_nonneg k0] at this; exact this), ?_⟩
        refine ⟨dA, _, _, rfl, rfl, hD, ?_, ?_⟩
        · rw [List.length_map, wayN_len]; exact small1000 (by have := (List.getElem?_eq_some_iff.mp ek).1; omega)
        · refine done _ (fun b o e => by rw [upd_ne (ne_of_none e zD)]; exact sG _ _ e) ?_
          have et : ks.take (i + 1) = ks.take i ++ [k] := by rw [List.take_add_one, ek]; rfl
          rw [upd_same, wayN_succ rs ks s0 (i + 1), List.map_append, et, led_snoc, hst]
          rfl
      · refine ⟨_, rfl, _, rfl, x, C, dx, _, _, rfl, hxG, M.cl, M.nD, mf_deeds _ _ _ _, d, _, hd G sG, .tup htG.sq (dp_strs ws), sd, shaped_strs hws, _, rfl, ?_⟩
        have e1 : ((ws.map PyData.str).any fun q => PyData.eqv q d) = false := by
          rw [List.any_eq_false]
          intro q hq
          obtain ⟨z, hz, rfl⟩ := List.mem_map.mp hq
          rw [nd z hz]; simp
        rw [if_pos rfl, e1]
        refine iteT ?_
        refine ⟨_, rfl, ?_⟩
        exact err_read (fs := ["index"]) (by decide) rfl (kr.same sG)
    have hxl : ((nm ws ks).map V.str ++ tl).length = ks.length + tl.length := by rw [List.length_append, List.length_map, nm_len]
    have pick : ∀ (s0 : Int), ((tl = [] ∧ ∀ l H', H l = none → Same H H' → H' l = some (.lst ((way rs ks s0).map V.int)) → Q (.ref l) H') ∨
      (∃ y d rest, tl = y :: rest ∧ (∀ G, Same H G → Dp K G y d) ∧ SeqAt.shaped d = true ∧ (∀ z ∈ ws, PyData.eqv (.str z) d = false) ∧ Rs CN ["index"] [.int (ks.length : Nat)] H E)) → ∀ (i : Nat) (y : V), ((nm ws ks).map V.str ++ tl)[i]? = some y → i ≤ ks.length →
        (i < ks.length ∧ ∃ k, ks[i]? = some k ∧ y = .str (ws.getD k.toNat "")) ∨ (∃ d, (∀ G, Same H G → Dp K G y d) ∧ SeqAt.shaped d = true ∧ (∀ z ∈ ws, PyData.eqv (.str z) d = false) ∧ Rs CN ["index"] [.int (i : Nat)] H E) := by
      intro s0 fin i y e hi
      by_cases h : i < ks.length
      · rw [List.getElem?_append_left (by rw [List.length_map, nm_len]; exact h), List.getElem?_map, nm, List.getElem?_map, List.getElem?_eq_getElem h] at e
        cases e
        exact .inl ⟨h, _, List.getElem?_eq_getElem h, rfl⟩
      · have ei : i = ks.length := by omega
        subst ei
        rw [List.getElem?_append_right (by rw [List.length_map, nm_len]; exact Nat.le_refl _), List.length_map, nm_len, Nat.sub_self] at e
        rcases fin with ⟨rfl, _⟩ | ⟨y', d, rest, rfl, h1, h2, h3, h4⟩
        · cases e
        · cases e
          exact .inr ⟨d, h1, h2, h3, h4⟩
    obtain ⟨t2, ht2, hq2⟩ : ∃ t2, PSs (cxOf (L2.CX P w) P w K mg base nPath "Machine.path" (defScope sMPath) f cdv A outer s H E) ((defBody sMPath).drop 3) t2 ∧ ∀ (s0 : Int) (fs : V) (dA : Addr) (G : Hp), 0 ≤ s0 → s0 < (rs.length : Int) →
        ((tl = [] ∧ ∀ l H', H l = none → Same H H' → H' l = some (.lst ((way rs ks s0).map V.int)) → Q (.ref l) H') ∨
          (∃ y d rest, tl = y :: rest ∧ (∀ G, Same H G → Dp K G y d) ∧ SeqAt.shaped d = true ∧ (∀ z ∈ ws, PyData.eqv (.str z) d = false) ∧ Rs CN ["index"] [.int (ks.length : Nat)] H E)) →
        H dA = none → Same H G → G dA = some (.lst [.int s0]) → t2 { nx := fun _ H' => Q .non H', rt := Q } [some (.ref x), some (.ref r), some v, some fs, some (.ref dA), none, none] G := by
      rcases hR with hR | hR
      · refine ⟨_, pss_cons (ps_for (passes_of rfl) rfl (pi_enum (by rfl) T.enumerate (pa_cons (pv 1) pa_nil)) (pg_tup (by rfl) (pgs_cons (pg_name (i := 5) scMPath.nd rfl (Or.inl rfl)) (pgs_cons (pg_name (i := 6) scMPath.nd rfl (Or.inl rfl)) pgs_nil))) htb)
          (pss_one (ps_ret (pv 4))), ?_⟩
        intro s0 fs dA G h0 h1 fin zD sG hD
        refine ⟨_, rfl, r, _, rfl, sG.seq hR, for_it (walk_enum (K := K) (a := r) (xs := (nm ws ks).map V.str ++ tl)) (fun i σ H' => i ≤ ks.length ∧ Same H H' ∧ H' dA = some (.lst ((wayN rs ks s0 (i + 1)).map V.int)) ∧ ∃ v5 v6, σ = [some (.ref x), some (.ref r), some v, some fs, some (.ref dA), v5, v6])
          ⟨Nat.zero_le _, sG, hD, none, none, rfl⟩ (fun i σ H' _ p => p.2.1.seq hR) ?_ ?_⟩
        · rintro i y σ H1 H2 hi ⟨hik, sm, hD1, v5, v6, rfl⟩ ⟨t, x1, x2, rfl, ht, rfl, e1, e2⟩
          cases e1
          have st2 := same_upd (o := .tup [V.int (i : Nat), x2]) ht
          refine ⟨t, _, rfl, SqT.of upd_same, rfl, _, _, rfl, _, _, rfl, rfl, ?_⟩
          refine hqb _ _ dA fs i x2 s0 h0 h1 (sm.trans st2) zD (st2 _ _ hD1) ?_
          rcases pick s0 fin i x2 e2 hik with ⟨hlt, k, ek, ey⟩ | hb
          · exact .inl ⟨k, ek, ey, fun G' s' e' => ⟨hlt, s', e', _, _, rfl⟩⟩
          · exact .inr hb
        · rintro σ H1 ⟨hik, sm, hD1, v5, v6, rfl⟩
          rw [hxl] at hik hD1
          rcases fin with ⟨rfl, done⟩ | ⟨y', d, rest, rfl, _⟩
          · exact ⟨_, rfl, done dA H1 zD sm hD1⟩
          · exact absurd hik (by simp)
      · refine ⟨_, pss_cons (ps_for (passes_of rfl) rfl (pi_enumT (by rfl) T.enumerate (pa_cons (pv 1) pa_nil)) (pg_tup (by rfl) (pgs_cons (pg_name (i := 5) scMPath.nd rfl (Or.inl rfl)) (pgs_cons (pg_name (i := 6) scMPath.nd rfl (Or.inl rfl)) pgs_nil))) htb)
          (pss_one (ps_ret (pv 4))), ?_⟩
        intro s0 fs dA G h0 h1 fin zD sG hD
        refine ⟨_, rfl, r, _, rfl, hR.ext sG, for_it (walk_enumT (K := K) (a := r) (xs := (nm ws ks).map V.str ++ tl)) (fun i σ H' => i ≤ ks.length ∧ Same H H' ∧ H' dA = some (.lst ((wayN rs ks s0 (i + 1)).map V.int)) ∧ ∃ v5 v6, σ = [some (.ref x), some (.ref r), some v, some fs, some (.ref dA), v5, v6])
          ⟨Nat.zero_le _, sG, hD, none, none, rfl⟩ (fun i σ H' _ p => hR.ext p.2.1) ?_ ?_⟩
        · rintro i y σ H1 H2 hi ⟨hik, sm, hD1, v5, v6, rfl⟩ ⟨t, x1, x2, rfl, ht, rfl, e1, e2⟩
          cases e1
          have st2 := same_upd (o := .tup [V.int (i : Nat), x2]) ht
          refine ⟨t, _, rfl, SqT.of upd_same, rfl, _, _, rfl, _, _, rfl, rfl, ?_⟩
          refine hqb _ _ dA fs i x2 s0 h0 h1 (sm.trans st2) zD (st2 _ _ hD1) ?_
          rcases pick s0 fin i x2 e2 hik with ⟨hlt, k, ek, ey⟩ | hb
          · exact .inl ⟨k, ek, ey, fun G' s' e' => ⟨hlt, s', e', _, _, rfl⟩⟩
          · exact .inr hb
        · rintro σ H1 ⟨hik, sm, hD1, v5, v6, rfl⟩
          rw [hxl] at hik hD1
          rcases fin with ⟨rfl, done⟩ | ⟨y', d, rest, rfl, _⟩
          · exact ⟨_, rfl, done dA H1 zD sm hD1⟩
          · exact absurd hik (by simp)
    refine ⟨_, pss_cons (ps_set (i := 3) scMPath.nd rfl (Or.inl rfl) (pe_ifExp (pt_cmpR op_isN (pv 2) pe_non (by rfl)) (pe_fld (pv 0) rfl) (pv 2)))
      (pss_cons (ps_if (pt_not (pt_val (pe_call GX hr rfl DX.g DX.F.kp DX.b .nil pass0 (pa_cons (pv 3) (pa_cons (pe_callB call_len (by rfl) T.len PySem.boot_len (pa_cons (pe_fld (pv 0) rfl) pa_nil)) pa_nil)))))
        (pss_one (ps_raise rfl (takes_of rfl rfl rfl rfl) (pmk_oex OB.T OB.ini OB.tI (ini_BadState OB) hr OB.b .nil pass0 rfl OB.g (pa_cons (pv 2) pa_nil)))) pss_nil)
      (pss_cons (ps_set (i := 4) scMPath.nd rfl (Or.inl rfl) (pe_lst (pa_cons (pv 3) pa_nil))) ht2)), ?_⟩
    have lenR : LenV K (.ref rA) H rs.length := .inr ⟨_, SqT.of hrA, by rw [List.length_map]; exact hRT.1.symm⟩
    refine ⟨_, rfl, rfl, _, rfl, ?_⟩
    rcases kk with ⟨ty, th, hn, hb, kr⟩ | ⟨s0, h0, h1, hv, fin⟩
    · rw [decide_eq_false hn]
      refine iteF ?_
      refine ⟨_, rfl, ?_⟩
      refine ⟨_, rfl, _, rfl, x, C, dx, _, _, rfl, hx, M.cl, M.nR, mf_rows _ _ _ _, _, _, rfl, lenR, v, ty, _, rfl, th, ?_⟩
      rw [hb]
      refine ⟨false, rfl, iteT ?_⟩
      refine ⟨_, rfl, ?_⟩
      exact err_read (fs := ["state"]) (by decide) rfl kr
    · rcases hv with ⟨rfl, rfl⟩ | rfl
      · refine iteT ?_
        refine ⟨_, rfl, x, C, dx, _, _, rfl, hx, M.cl, M.nS, mf_start _ _ _ _, ?_⟩
        refine ⟨_, rfl, _, rfl, x, C, dx, _, _, rfl, hx, M.cl, M.nR, mf_rows _ _ _ _, _, _, rfl, lenR, .int s0, "int", _, rfl, .int s0, ?_⟩
        rw [ix_of h0 h1]
        refine ⟨true, rfl, iteF ?_⟩
        exact ⟨_, rfl, Nat.le_of_ble_eq_true rfl, fun dA hdA => hq2 s0 _ dA _ h0 h1 fin hdA (same_upd hdA) upd_same⟩
      · rw [decide_eq_false (by intro z; cases z)]
        refine iteF ?_
        refine ⟨_, rfl, ?_⟩
        refine ⟨_, rfl, _, rfl, x, C, dx, _, _, rfl, hx, M.cl, M.nR, mf_rows _ _ _ _, _, _, rfl, lenR, .int s0, "int", _, rfl, .int s0, ?_⟩
        rw [ix_of h0 h1]
        refine ⟨true, rfl, iteF ?_⟩
        exact ⟨_, rfl, Nat.le_of_ble_eq_true rfl, fun dA hdA => hq2 s0 _ dA _ h0 h1 fin hdA (same_upd hdA) upd_same⟩
end
end K1
set_option Elab.async false
set_option linter.all false
set_option maxRecDepth 100000
/-! the state behind a row, and its tell -/
namespace K1
open PySem L2
def spAfter (K : PySem.W.Frag) (C CB CN : Addr) : Sp := fun vs H Q E => ∃ (x r : Addr) (v : V), vs = [.ref x, .ref r, v] ∧ Row K C CB CN H E x r v fun _ rs ks s0 => ∀ H', Same H H' → Q (.int (led rs ks s0)) H'
def spTold (K : PySem.W.Frag) (C CB CN : Addr) : Sp := fun vs H Q E => ∃ (x r : Addr), vs = [.ref x, .ref r] ∧ Row K C CB CN H E x r .non fun ss rs ks s0 => ∀ H', Same H H' → Q (.str (ss.getD (led rs ks s0).toNat "")) H'
theorem mf_path (t r l : Addr) (st : Int) : (mf t r l st).lookup ("path" : Str) = none := mf_no _ _ _ _ (by decide +kernel) (by decide +kernel) (by decide +kernel) (by decide +kernel)
theorem mf_after (t r l : Addr) (st : Int) : (mf t r l st).lookup ("after" : Str) = none := mf_no _ _ _ _ (by decide +kernel) (by decide +kernel) (by decide +kernel) (by decide +kernel)
theorem mf_told (t r l : Addr) (st : Int) : (mf t r l st).lookup ("told" : Str) = none := mf_no _ _ _ _ (by decide +kernel) (by decide +kernel) (by decide +kernel) (by decide +kernel)
section
variable {P : Program} {w : World} {K : PySem.W.Frag} {mg : Str → Option Value} {base : Heap}
theorem scMAfter : FnScope pPath pPath (defScope sMAfter) := ⟨rfl, rfl, rfl, by decide +kernel, rfl, by decide +kernel, by decide +kernel⟩
abbrev MAf (K : PySem.W.Frag) (f : Addr) (fd : FuncData) : Prop := FunD K "after" "Machine.after" (defArgs sMAfter) (defBody sMAfter) (defScope sMAfter) [.non] [] f fd
theorem ok_after {C CB CN f fP : Addr} {fd fdP : FuncData} (F : MAf K f fd) (M : Tm K mg C) (MT : Meth K C "path" fP) (bP : Binds K fdP pPath []) (GP : FnOk P w K mg base (L2.CX P w) 3 fP fdP pPath (spPath K C CB CN)) :
    FnOk P w K mg base (L2.CX P w) 4 f fd pPath (spAfter K C CB CN) := by
  refine F.ok scMAfter (fun vs H Q E h => ?_) (fun cdv A outer s H vs Q E hr h => ?_)
  · obtain ⟨x, r, v, rfl, _⟩ := h
    rfl
  · obtain ⟨x, r, v, rfl, ws, rs, ss, st, ks, tl, hM, pt, hR, hix, hkl, kk⟩ := h
    obtain ⟨dx, tA, rA, lA, as, hx, _⟩ := id hM
    refine ⟨_, pss_one (ps_ret (pe_ix ix_list (pe_meth (pv 0) M.cl MT GP hr bP .nil (passes_call (takes_of rfl rfl rfl rfl) fun _ _ _ _ h => h) (pa_cons (pv 1) (pa_cons (pv 2) pa_nil))) (pe_un un_neg pe_int) (fun _ _ => rfl))), ?_⟩
    refine ⟨_, rfl, x, dx, _, rfl, hx, mf_path _ _ _ _, _, rfl, _, rfl, x, r, v, rfl, ws, rs, ss, st, ks, tl, hM, pt, hR, hix, hkl, ?_⟩
    rcases kk with kk | ⟨s0, h0, h1, hv, fin⟩
    · exact .inl kk
    · refine .inr ⟨s0, h0, h1, hv, ?_⟩
      rcases fin with ⟨e, done⟩ | kk
      · refine .inl ⟨e, fun l H' hl sm eH => ?_⟩
        exact ⟨1, rfl, l, _, _, _, rfl, rfl, SqL.of eH, (by rw [way_eq]; exact at_last), done H' sm⟩
      · exact .inr kk
theorem scMTold : FnScope ["self", "row"] ["self", "row"] (defScope sMTold) := ⟨rfl, rfl, rfl, by decide +kernel, rfl, by decide +kernel, by decide +kernel⟩
theorem ok_told {C CB CN f fA : Addr} {fd fdA : FuncData} {ds : List Value} (F : Fun K "told" "Machine.told" sMTold f fd) (M : Tm K mg C) (MT : Meth K C "after" fA) (bA : Binds K fdA pPath ds) (vd : Vals [.non] ds) (GA : FnOk P w K mg base (L2.CX P w) 4 fA fdA pPath (spAfter K C CB CN)) :
    FnOk P w K mg base (L2.CX P w) 5 f fd ["self", "row"] (spTold K C CB CN) := by
  refine F.okX scMTold (fun vs H Q E h => ?_) (fun cdv A outer s H vs Q E hr h => ?_)
  · obtain ⟨x, r, rfl, _⟩ := h
    rfl
  · obtain ⟨x, r, rfl, ws, rs, ss, st, ks, tl, hM, pt, hR, hix, hkl, kk⟩ := h
    obtain ⟨dx, tA, rA, lA, as, hx, htA, hrA, hRT, hlA⟩ := id hM
    refine ⟨_, pss_one (ps_ret (pe_ix ix_tup (pe_fld (pv 0) rfl) (pe_meth (pv 0) M.cl MT GA hr bA vd (passes_call (takes_of rfl rfl rfl rfl) fun _ _ _ _ h => h) (pa_cons (pv 1) pa_nil)) (fun _ _ => rfl))), ?_⟩
    refine ⟨_, rfl, x, C, dx, _, _, rfl, hx, M.cl, M.nT, mf_tells _ _ _ _, _, rfl, x, dx, _, rfl, hx, mf_after _ _ _ _, _, rfl, x, r, .non, rfl, ws, rs, ss, st, ks, tl, hM, pt, hR, hix, hkl, ?_⟩
    rcases kk with kk | ⟨s0, h0, h1, hv, fin⟩
    · exact .inl kk
    · refine .inr ⟨s0, h0, h1, hv, ?_⟩
      rcases fin with ⟨e, done⟩ | kk
      · refine .inl ⟨e, fun H' sm => ?_⟩
        have hl := pt.led hix h0 h1
        exact ⟨lA, _, _, _, rfl, rfl, SqT.of (sm _ _ hlA), at_deed hl.1 (by rw [pt.tl.1]; exact hl.2), done H' sm⟩
      · exact .inr kk
end
end K1
set_option Elab.async false
set_option linter.all false
set_option maxRecDepth 100000
/-! the law's own way -/
namespace K1
open PySem L2
abbrev sNamed : Stmt := top 44
abbrev sLed : Stmt := top 47
abbrev sWay : Stmt := top 48
def spNamed (K : PySem.W.Frag) : Sp := fun vs H Q _ => ∃ (a r : Addr) (ws : List Str) (ks : List Int), vs = [.ref a, .ref r] ∧ SqL K H a (ws.map V.str) ∧ SqL K H r (ks.map V.int) ∧ Ix ws.length ks ∧ ks.length ≤ 100 ∧
  ∀ (p : Addr) (H' : Hp), H p = none → Same H H' → H' p = some (.tup ((nm ws ks).map V.str)) → Q (.ref p) H'
def spLed (K : PySem.W.Frag) : Sp := fun vs H Q _ => ∃ (p q : Addr) (s0 : Int) (ws : List Str) (rs : List (List Int)) (ss : List Str) (st : Int) (ks : List Int), vs = [.ref p, .ref q, .int s0] ∧ PlainAt H p ws rs ss st ∧ Parts ws rs ss st ∧ SqL K H q (ks.map V.int) ∧ Ix ws.length ks ∧ 0 ≤ s0 ∧ s0 < (rs.length : Int) ∧
  ∀ H', Same H H' → Q (.int (led rs ks s0)) H'
def spWay (K : PySem.W.Frag) : Sp := fun vs H Q _ => ∃ (p q : Addr) (s0 : Int) (ws : List Str) (rs : List (List Int)) (ss : List Str) (st : Int) (ks : List Int), vs = [.ref p, .ref q, .int s0] ∧ PlainAt H p ws rs ss st ∧ Parts ws rs ss st ∧ SqL K H q (ks.map V.int) ∧ Ix ws.length ks ∧ ks.length ≤ 100 ∧ 0 ≤ s0 ∧ s0 < (rs.length : Int) ∧
  ∀ (l : Addr) (H' : Hp), H l = none → Same H H' → H' l = some (.lst ((way rs ks s0).map V.int)) → Q (.ref l) H'
theorem PlainAt.same {H H' : Hp} {p : Addr} {ws : List Str} {rs : List (List Int)} {ss : List Str} {st : Int} (h : PlainAt H p ws rs ss st) (s : Same H H') : PlainAt H' p ws rs ss st := by
  obtain ⟨t, r, l, as, h1, h2, h3, h4, h5⟩ := h.ex
  exact ⟨t, r, l, as, s _ _ h1, h2.same s, s _ _ h3, s _ _ h4, h5.same s⟩
theorem cut_k {ks : List Int} {k : Nat} (h : k ≤ ks.length) : cutV (ks.map V.int) none (some (k : Int)) = (ks.take k).map V.int := by
  rw [cut_to (by rw [List.length_map]; exact h), List.map_take]
section
variable {P : Program} {w : World} {K : PySem.W.Frag} {mg : Str → Option Value} {base : Heap}
abbrev pNamed : List Str := ["_law_deeds", "_law_row"]
abbrev nNamed : List Str := ["_law_deeds", "_law_row", "_law_k"]
theorem scNamed : FnScope nNamed pNamed (defScope sNamed) := ⟨rfl, rfl, rfl, by decide +kernel, rfl, by decide +kernel, by decide +kernel⟩
theorem ok_named {f : Addr} {fd : FuncData} (D : Df K mg "_law_named" sNamed pNamed f fd) (T : Bt mg) : FnOk P w K mg base CX0 1 f fd pNamed (spNamed K) := by
  refine D.F.ok scNamed (fun vs H Q E h => ?_) (fun cdv A outer s H vs Q E hr h => ?_)
  · obtain ⟨a, r, ws, ks, rfl, _⟩ := h
    rfl
  · obtain ⟨a, r, ws, ks, rfl, ha, hR, hk, hl, k⟩ := h
    refine ⟨_, pss_one (ps_ret (pe_callTy (r := rTu K) call_tuple_of (by rfl) T.tuple PyProof.Rows.boot_tuple (pa_cons (pe_lc (own := [("_law_k", 2)]) (g := gName 2) (by rfl) scNamed.nd (pi_list (pv 1))
        (blkOk_by (own := [("_law_k", 2)]) (N := nNamed) (sc := defScope sNamed) (by decide +kernel)) (fun _ _ _ _ _ => pg_name (i := 2) scNamed.nd rfl (Or.inl rfl)) (fun _ _ _ _ _ => pts_nil)
        (fun _ _ _ _ _ => pe_ix (r := rIxL K) ix_list (pv 0) (pv 2) (fun _ _ => rfl))) pa_nil))), ?_⟩
    refine ⟨_, rfl, r, rfl, ⟨_, hR⟩, fun D1 hD1 => ?_⟩
    refine lc_list (K := K) (a := r) (xs := ks.map V.int) (fun i H' => Same H H' ∧ H' D1 = some (.lst ((nm ws (ks.take i)).map V.str))) ?_ ?_ ?_ ?_
    · exact ⟨same_upd hD1, upd_same⟩
    · exact fun i H' _ q => q.1.seq hR
    · rintro i y H1 hi ⟨sm, hD⟩
      rw [List.getElem?_map] at hi
      obtain ⟨j, ej, rfl⟩ := Option.map_eq_some_iff.mp hi
      obtain ⟨j0, j1⟩ := hk j (List.mem_of_getElem? ej)
      have hil : i < ks.length := (List.getElem?_eq_some_iff.mp ej).1
      refine ⟨rfl, _, rfl, _, rfl, a, _, j, _, rfl, rfl, sm.seq ha, at_deed j0 j1, _, hD, ?_, ?_, ?_⟩
      · rw [List.length_map, nm, List.length_map, List.length_take]; exact small1000 (by omega)
      · exact fun b u e => by rw [upd_ne (ne_of_none e hD1)]; exact sm b u e
      · have e : ks.take (i + 1) = ks.take i ++ [j] := by rw [List.take_add_one, ej]; rfl
        rw [upd_same, e, nm, nm, List.map_append, List.map_append]; rfl
    · rintro H1 ⟨sm, hD⟩
      rw [List.length_map, List.take_length] at hD
      refine ⟨D1, _, rfl, .inl ⟨SqL.of hD, fun p hp => ?_⟩⟩
      exact k p _ (sm.free hp) (sm.trans (same_upd hp)) upd_same
abbrev pLed : List Str := ["_law_plain_here", "_law_row", "_law_spot"]
abbrev nLed : List Str := ["_law_plain_here", "_law_row", "_law_spot", "_law_k"]
theorem scLed : FnScope nLed pLed (defScope sLed) := ⟨rfl, rfl, rfl, by decide +kernel, rfl, by decide +kernel, by decide +kernel⟩
theorem ok_led {f : Addr} {fd : FuncData} (D : Df K mg "_law_led" sLed pLed f fd) : FnOk P w K mg base CX0 1 f fd pLed (spLed K) := by
  refine D.F.ok scLed (fun vs H Q E h => ?_) (fun cdv A outer s H vs Q E hr h => ?_)
  · obtain ⟨p, q, s0, ws, rs, ss, st, ks, rfl, _⟩ := h
    rfl
  · obtain ⟨p, q, s0, ws, rs, ss, st, ks, rfl, hp, pt, hq, hix, h0, h1, k⟩ := h
    have hu := hu_of hr
    refine ⟨_, pss_cons (ps_for PassesOwn.never rfl (pi_list (pv 1)) (pg_name (i := 3) scLed.nd rfl (Or.inl rfl))
        (pss_one (ps_set (i := 2) scLed.nd rfl (Or.inl rfl) (pe_ix ix_list (pe_ix ix_list (pe_dget hu (pv 0) pe_str (fun _ _ => rfl)) (pv 2) (fun _ _ => rfl)) (pv 3) (fun _ _ => rfl)))))
      (pss_one (ps_ret (pv 2))), ?_⟩
    obtain ⟨t, r, l, as, ep, et, er, el, hR⟩ := hp.ex
    refine ⟨_, rfl, q, rfl, ⟨_, hq⟩, for_list (K := K) (a := q) (xs := ks.map V.int) (fun i σ H' => Same H H' ∧ ∃ v3, σ = [some (.ref p), some (.ref q), some (.int (led rs (ks.take i) s0)), v3]) ⟨Same.refl H, none, rfl⟩ (fun i σ H' _ p => p.1.seq hq) ?_ ?_⟩
    · rintro i y σ H1 hi ⟨sm, v3, rfl⟩
      rw [List.getElem?_map] at hi
      obtain ⟨j, ej, rfl⟩ := Option.map_eq_some_iff.mp hi
      obtain ⟨j0, j1⟩ := hix j (List.mem_of_getElem? ej)
      have hl0 := pt.led (hix.take i) h0 h1
      obtain ⟨row, eq, hql, hst, hb0, hb1⟩ := pt.stp hl0.1 hl0.2 j0 j1
      have hlen : as.length = rs.length := hR.1
      obtain ⟨ra, era, eat⟩ := at_ref (as := as) hl0.1 (by rw [hlen]; exact hl0.2)
      have hra := sm _ _ (hR.2 _ _ _ era eq)
      refine ⟨_, rfl, p, _, rfl, gRows (sm _ _ ep), _, rfl, r, _, _, _, rfl, rfl, SqL.of (sm _ _ er), eat, _, rfl, ra, _, _, _, rfl, rfl, SqL.of hra, at_int j0 (by omega), sm, some (.int j), ?_⟩
      have e : ks.take (i + 1) = ks.take i ++ [j] := by rw [List.take_add_one, ej]; rfl
      rw [e, led_snoc, hst]
      rfl
    · rintro σ H1 ⟨sm, v3, rfl⟩
      rw [List.length_map, List.take_length]
      exact ⟨_, rfl, k H1 sm⟩
abbrev pWay : List Str := ["_law_plain_here", "_law_row", "_law_state"]
abbrev nWay : List Str := ["_law_plain_here", "_law_row", "_law_state", "_law_k"]
theorem scWay : FnScope nWay pWay (defScope sWay) := ⟨rfl, rfl, rfl, by decide +kernel, rfl, by decide +kernel, by decide +kernel⟩
theorem ok_way {f fL : Addr} {fd fdL : FuncData} (D : Df K mg "_law_way" sWay pWay f fd) (DL : Df K mg "_law_led" sLed pLed fL fdL) (T : Bt mg) : FnOk P w K mg base CX0 2 f fd pWay (spWay K) := by
  have GL : FnOk P w K mg base CX0 1 fL fdL pLed (spLed K) := ok_led DL
  refine D.F.ok scWay (fun vs H Q E h => ?_) (fun cdv A outer s H vs Q E hr h => ?_)
  · obtain ⟨p, q, s0, ws, rs, ss, st, ks, rfl, _⟩ := h
    rfl
  · obtain ⟨p, q, s0, ws, rs, ss, st, ks, rfl, hp, pt, hq, hix, hkl, h0, h1, k⟩ := h
    refine ⟨_, pss_one (ps_ret (pe_lc (own := [("_law_k", 3)]) (g := gName 3) (by rfl) scWay.nd
        (pi_range1 rfl T.range (pa_cons (pe_op op_add (pe_callB call_len (by rfl) T.len PySem.boot_len (pa_cons (pv 1) pa_nil)) pe_int) pa_nil))
        (blkOk_by (own := [("_law_k", 3)]) (N := nWay) (sc := defScope sWay) (by decide +kernel)) (fun _ _ _ _ _ => pg_name (i := 3) scWay.nd rfl (Or.inl rfl)) (fun _ _ _ _ _ => pts_nil)
        (fun _ _ _ _ _ => pe_call GL hr rfl DL.g DL.F.kp DL.b .nil pass0 (pa_cons (pv 0) (pa_cons (pe_slice (r := rSlL K) sl_list (pv 1) po_none (po_some (pv 3))) (pa_cons (pv 2) pa_nil)))))), ?_⟩
    refine ⟨_, rfl, _, ks.length, rfl, .inl ⟨_, hq, (List.length_map _).symm⟩, _, _, rfl, rfl, ?_⟩
    refine ⟨((ks.length + 1 : Nat) : Int), rfl, by omega, by omega, fun D1 hD1 => ?_⟩
    rw [Int.toNat_natCast]
    refine lc_range (lo := 0) (n := ks.length + 1) (fun i H' => Same H H' ∧ H' D1 = some (.lst ((wayN rs ks s0 i).map V.int))) ?_ ?_ ?_
    · exact ⟨same_upd hD1, upd_same⟩
    · rintro i H1 hi ⟨sm, hD⟩
      refine ⟨rfl, _, rfl, _, rfl, _, rfl, 0 + (i : Int), rfl, q, _, rfl, sm.seq hq, fun b hb => ?_⟩
      rw [show (0 + (i : Int)) = ((i : Nat) : Int) by omega, cut_k (by omega)]
      have sb := same_upd (o := .lst ((ks.take i).map V.int)) hb
      refine ⟨_, rfl, p, b, s0, ws, rs, ss, st, ks.take i, rfl, (hp.same sm).same sb, pt, SqL.of upd_same, hix.take i, h0, h1, fun H2 s2 => ?_⟩
      refine ⟨_, s2 _ _ (sb _ _ hD), ?_, ?_, ?_⟩
      · rw [List.length_map, wayN_len]; exact small1000 (by omega)
      · exact fun b u e => by rw [upd_ne (ne_of_none e hD1)]; exact s2 _ _ (sb _ _ (sm b u e))
      · rw [upd_same, wayN_succ, List.map_append]; rfl
    · rintro H1 ⟨sm, hD⟩
      exact k D1 H1 hD1 sm hD
end
end K1
set_option Elab.async false
set_option linter.all false
set_option maxRecDepth 100000
/-! what is refused, and how it is told -/
namespace K1
open PySem L2 LamX
abbrev sRefused : Stmt := top 49
abbrev pRefused : List Str := ["_law_call"]
abbrev nRefused : List Str := ["_law_call", "e"]
theorem scRefused : FnScope nRefused pRefused (defScope sRefused) := ⟨rfl, rfl, rfl, by decide +kernel, rfl, by decide +kernel, by decide +kernel⟩
/-- return (tag, repr(e.f)) -/
def suiteR (i : Nat) (C : Addr) (tag f : Str) : Addr → Value → Option Addr → TS := fun a cl dd => tRet (tTup (tCons (tC (.str tag)) (tCons (tCB rRepr (tCons (tXf a cl dd C f (tVar i)) tNil)) tNil)))
def suite0 (tag : Str) : Addr → Value → Option Addr → TS := fun _ _ _ => tRet (tTup (tCons (tC (.str tag)) tNil))
def clauses (CB CN CL : Addr) : List (Value × (Addr → Value → Option Addr → TS)) :=
  [(.ref CB, suiteR 1 CB "state" "state"), (.ref CN, suiteT 1 CN "deed" ["index"]), (.ref CL, suite0 "other")]
theorem gives_refused {X : Cx} {g CB CN CL fB fN : Addr} {fdB fdN : FuncData} {gcd : Value} {q : Str} (OB : OBadState X.K X.mg CB fB fdB) (ON : ONoDeed X.K X.mg CN fN fdN) (hL : X.mg "LooksError" = some (.ref CL)) (hrp : X.mg "repr" = none) :
    Gives X nRefused "_law_refused" (defScope sRefused) g gcd (defBody sRefused) "_law_call" q (TTf X.K 1 (clauses CB CN CL)) := by
  refine fault_gives scRefused.nd rfl fun s H => ?_
  exact (.cons (x := "BadState") ⟨rfl, by decide, .inl OB.g⟩ (fun a oe cl dd pn hz hf => pss_one (ps_ret (pe_tup (pa_cons pe_str (pa_cons (pe_callB call_repr_any (by rfl) hrp PyProof.Rows.boot_repr (pa_cons (pe_xf OB.xf (OB.no "state" (by simp)) hz hf (pv 1)) pa_nil)) pa_nil)))))
    (.cons (x := "NoDeed") ⟨rfl, by decide, .inl ON.g⟩ (fun a oe cl dd pn hz hf => pss_one (ps_ret (pe_tup (pa_cons pe_str (pa_cons (pe_xf ON.xf (ON.no "index" (by simp)) hz hf (pv 1)) pa_nil)))))
    (.cons (x := "LooksError") ⟨rfl, by decide, .inl hL⟩ (fun a oe cl dd pn hz hf => pss_one (ps_ret (pe_tup (pa_cons pe_str pa_nil)))) .nil)))
/-- the errors' classes, told apart -/
structure Ee (K : PySem.W.Frag) (CB CN : Addr) : Prop where
  bb : PySem.W.exmOne K (.ref CB) (.ref CB) = some true
  nb : PySem.W.exmOne K (.ref CN) (.ref CB) = some false
  nn : PySem.W.exmOne K (.ref CN) (.ref CN) = some true
abbrev WF (K : PySem.W.Frag) (CB CN CL f : Addr) (Q : VK) : XK := fun cls dd G => wAsAll K 1 (fun _ _ _ _ => False) { nx := fun _ G' => Q .non G', rt := Q } (clauses CB CN CL) cls dd [some (.ref f), none] G
theorem rs_deed {K : PySem.W.Frag} {CB CN CL : Addr} (EE : Ee K CB CN) {H1 : Hp} {Q : VK} {j : Nat} (k : ∀ p G, Same H1 G → H1 p = none → G p = some (.tup [.str "deed", .int (j : Int)]) → Q (.ref p) G) (f : Addr) : Rs CN ["index"] [.int (j : Nat)] H1 (WF K CB CN CL f Q) := by
  intro d G sG hd eG
  exact ⟨false, EE.nb, (fun q => nomatch q), fun _ => ⟨true, EE.nn, fun _ a ha => suiteT_read (vs := [.int (j : Int)]) rfl eG ⟨rfl, trivial⟩ (Nat.le_of_ble_eq_true rfl) fun p hp => k p _ (sG.trans (same_upd hp)) (sG.free hp) upd_same, fun q => nomatch q⟩⟩
theorem rs_state {K : PySem.W.Frag} {CB CN CL : Addr} (EE : Ee K CB CN) {H1 : Hp} {Q : VK} {v : V} (ok : reprOk v) (k : ∀ p G, Same H1 G → H1 p = none → G p = some (.tup [.str "state", .str (reprV v)]) → Q (.ref p) G) (f : Addr) : Rs CB ["state"] [v] H1 (WF K CB CN CL f Q) := by
  intro d G sG hd eG
  refine ⟨true, EE.bb, fun _ a ha => ?_, fun q => nomatch q⟩
  exact ⟨_, rfl, rfl, rfl, d, _, v, rfl, eG, rfl, v, rfl, ok, Nat.le_of_ble_eq_true rfl, fun p hp => k p _ (sG.trans (same_upd hp)) (sG.free hp) upd_same⟩
end K1
set_option Elab.async false
set_option linter.all false
set_option maxRecDepth 100000
/-! a turn of the law: what is kept -/
namespace K1
open PySem L2 LamX
abbrev sLaw : Stmt := top 50
abbrev lawBody : List Stmt := forBody (stOf sLaw 1)
abbrev inBody : List Stmt := forBody (lawBody.getD 3 (.Pass ⟨0, 0, 0, 0⟩))
abbrev qLaw : Str := "law.<locals>.<lambda>"
theorem seqT_pen {K : PySem.W.Frag} {d : Addr} {kv : List (Key × V)} {H H' : Hp} {a : Addr} {xs : List V} (h : SqT K H a xs) (hd : H d = some (.dK kv)) (e : KeptN d H H') : SqT K H' a xs := by
  rcases h with (h | ⟨o, h⟩) | h
  · exact .inl (.inl (e.tup (ne_of h hd (by intro z; cases z)) h))
  · exact .inl (.inr ⟨o, e _ _ h (ne_of h hd (by intro z; cases z)) fun ps => by intro z; cases z⟩)
  · exact .inr h
theorem seqF_pen {d : Addr} {kv : List (Key × V)} {H H' : Hp} {a : Addr} {xs : List V} (h : SqF H a xs) (hd : H d = some (.dK kv)) (e : KeptN d H H') : SqF H' a xs := by
  obtain ⟨o, h, q⟩ := h
  exact ⟨o, e _ _ h (ne_of h hd (by intro z; cases z)) (fun ps => by intro z; cases z), q⟩
theorem seqL_pen {K : PySem.W.Frag} {d : Addr} {kv : List (Key × V)} {H H' : Hp} {a : Addr} {xs : List V} (h : SqL K H a xs) (hd : H d = some (.dK kv)) (e : KeptN d H H') : SqL K H' a xs := by
  rcases h with (h | ⟨o, h⟩) | h
  · exact .inl (.inl (e.lst (ne_of h hd (by intro z; cases z)) h))
  · exact .inl (.inr ⟨o, e _ _ h (ne_of h hd (by intro z; cases z)) fun ps => by intro z; cases z⟩)
  · exact .inr h
theorem sq_pen {K : PySem.W.Frag} {d : Addr} {kv : List (Key × V)} {H H' : Hp} {a : Addr} {xs : List V} (h : Sq K H a xs) (hd : H d = some (.dK kv)) (e : KeptN d H H') : Sq K H' a xs := by
  rcases h with h | h
  · exact .inl (seqL_pen h hd e)
  · exact .inr (seqT_pen h hd e)
/-- a turn: the pen, the deeds, the plain machine, the machine, the tables -/
structure Mn (K : PySem.W.Frag) (C : Addr) (T : List (Addr × Str)) (H : Hp) (d c : Addr) (n : Nat) (dl p x : Addr) (ws : List Str) (rs : List (List Int)) (ss : List Str) (st : Int) : Prop where
  pen : PenAt H d c n
  hdl : H dl = some (.lst (ws.map V.str))
  npd : p ≠ d
  pl : PlainAt H p ws rs ss st
  mac : MachAt K C H x ws rs ss st
  tab : Tabs T H
theorem Mn.go {K : PySem.W.Frag} {C : Addr} {T : List (Addr × Str)} {H H' : Hp} {d c : Addr} {n n' : Nat} {dl p x : Addr} {ws : List Str} {rs : List (List Int)} {ss : List Str} {st : Int} (t : Mn K C T H d c n dl p x ws rs ss st) (k : KeptN d H H') (hp : PenAt H' d c n') (b : Tabs T H') : Mn K C T H' d c n' dl p x ws rs ss st := by
  obtain ⟨hp0, h1, npd, ⟨t1, r1, l1, as1, e1, e2, e3, e4, e5⟩, ⟨dx, t2, r2, l2, as2, f1, f2, f3, f4, f5⟩, _⟩ := t
  obtain ⟨_, _, _, hd, _⟩ := hp0
  have ne : ∀ {a : Addr} {u : HO}, H a = some u → (∀ kv, u ≠ .dK kv) → a ≠ d := fun e n z => by rw [z, hd] at e; cases e; exact n _ rfl
  have kl : ∀ {a : Addr} {xs : List V}, H a = some (.lst xs) → H' a = some (.lst xs) := fun h => k.lst (ne h (fun _ z => by cases z)) h
  have kt : ∀ {a : Addr} {xs : List V}, H a = some (.tup xs) → H' a = some (.tup xs) := fun h => k.tup (ne h (fun _ z => by cases z)) h
  exact ⟨hp, kl h1, npd, ⟨t1, r1, l1, as1, k _ _ e1 npd (fun ps => by intro z; cases z), seqF_pen e2 hd k, kl e3, kl e4, e5.1, fun i a r g1 g2 => kl (e5.2 i a r g1 g2)⟩,
    ⟨dx, t2, r2, l2, as2, k.ins (ne f1 (fun _ z => by cases z)) f1, seqF_pen f2 hd k, kt f3, ⟨f4.1, fun i a r g1 g2 => kt (f4.2 i a r g1 g2)⟩, kt f5⟩, b⟩
theorem Mn.same {K : PySem.W.Frag} {C : Addr} {T : List (Addr × Str)} {H H' : Hp} {d c : Addr} {n : Nat} {dl p x : Addr} {ws : List Str} {rs : List (List Int)} {ss : List Str} {st : Int} (t : Mn K C T H d c n dl p x ws rs ss st) (s : Same H H') : Mn K C T H' d c n dl p x ws rs ss st := t.go (Kept.same s).n (t.pen.same s) (t.tab.same s)
theorem Mn.kept {K : PySem.W.Frag} {C : Addr} {T : List (Addr × Str)} {H H' : Hp} {d c : Addr} {n n' : Nat} {dl p x : Addr} {ws : List Str} {rs : List (List Int)} {ss : List Str} {st : Int} (t : Mn K C T H d c n dl p x ws rs ss st) (k : Kept d H H') (hp : PenAt H' d c n') : Mn K C T H' d c n' dl p x ws rs ss st := t.go k.n hp (t.tab.pen t.pen k)
theorem Mn.n1 {K : PySem.W.Frag} {C : Addr} {T : List (Addr × Str)} {H : Hp} {d c : Addr} {n : Nat} {dl p x : Addr} {ws : List Str} {rs : List (List Int)} {ss : List Str} {st : Int} (t : Mn K C T H d c n dl p x ws rs ss st) {a : Addr} {u : HO} (e : H a = some u) (n : ∀ kv, u ≠ .dK kv) : a ≠ d := by
  obtain ⟨_, _, _, hd, _⟩ := t.pen
  intro z
  rw [z, hd] at e; cases e; exact n _ rfl
theorem Mn.hd {K : PySem.W.Frag} {C : Addr} {T : List (Addr × Str)} {H : Hp} {d c : Addr} {n : Nat} {dl p x : Addr} {ws : List Str} {rs : List (List Int)} {ss : List Str} {st : Int} (t : Mn K C T H d c n dl p x ws rs ss st) : ∃ kv, H d = some (.dK kv) := by
  obtain ⟨_, _, _, hd, _⟩ := t.pen
  exact ⟨_, hd⟩
/-- what the law calls -/
structure Fs (P : Program) (w : World) (K : PySem.W.Frag) (mg : Str → Option Value) (base : Heap) (C CB CN CL : Addr) (T : List (Addr × Str)) : Prop where
  T2 : Bt2 mg
  M : Tm K mg C
  pen : ∃ f fd, mg "_law_pen" = some (.ref f) ∧ PySem.W.keepIn K (.ref f) = true ∧ Binds K fd ["_law_script"] [] ∧ FnOk P w K mg base CX0 1 f fd ["_law_script"] (spPen K)
  draw : ∃ f fd, mg "_law_draw" = some (.ref f) ∧ PySem.W.keepIn K (.ref f) = true ∧ Binds K fd pDraw [] ∧ FnOk P w K mg base CX0 1 f fd pDraw spDraw
  pick : ∃ f fd, mg "_law_pick" = some (.ref f) ∧ PySem.W.keepIn K (.ref f) = true ∧ Binds K fd pPick [] ∧ FnOk P w K mg base CX0 2 f fd pPick (spPickL K)
  words : ∃ f fd, mg "_law_words" = some (.ref f) ∧ PySem.W.keepIn K (.ref f) = true ∧ Binds K fd pDraw [] ∧ FnOk P w K mg base CX0 3 f fd pDraw (spWords K)
  plain : ∃ f fd, mg "_law_plain" = some (.ref f) ∧ PySem.W.keepIn K (.ref f) = true ∧ Binds K fd pPlain [] ∧ FnOk P w K mg base CX0 3 f fd pPlain (spPlain K)
  made : ∃ f fd, mg "_law_made" = some (.ref f) ∧ PySem.W.keepIn K (.ref f) = true ∧ Binds K fd ["_law_plain_here"] [] ∧ FnOk P w K mg base CX0 7 f fd ["_law_plain_here"] (spMade K C)
  named : ∃ f fd, mg "_law_named" = some (.ref f) ∧ PySem.W.keepIn K (.ref f) = true ∧ Binds K fd pNamed [] ∧ FnOk P w K mg base CX0 1 f fd pNamed (spNamed K)
  way : ∃ f fd, mg "_law_way" = some (.ref f) ∧ PySem.W.keepIn K (.ref f) = true ∧ Binds K fd pWay [] ∧ FnOk P w K mg base CX0 2 f fd pWay (spWay K)
  ref : ∃ f fd, Df K mg "_law_refused" sRefused pRefused f fd
  path : ∃ f fd ds, Meth K C "path" f ∧ Binds K fd pPath [] ∧ Binds K fd pPath ds ∧ Vals [.non] ds ∧ FnOk P w K mg base (L2.CX P w) 3 f fd pPath (spPath K C CB CN)
  after : ∃ f fd ds, Meth K C "after" f ∧ Binds K fd pPath [] ∧ Binds K fd pPath ds ∧ Vals [.non] ds ∧ FnOk P w K mg base (L2.CX P w) 4 f fd pPath (spAfter K C CB CN)
  told : ∃ f fd, Meth K C "told" f ∧ Binds K fd ["self", "row"] [] ∧ FnOk P w K mg base (L2.CX P w) 5 f fd ["self", "row"] (spTold K C CB CN)
  ob : ∃ f fd, OBadState K mg CB f fd
  on : ∃ f fd, ONoDeed K mg CN f fd
  ol : mg "LooksError" = some (.ref CL)
  rp : mg "repr" = none
  ee : Ee K CB CN
abbrev nLaw : List Str := ["_law_script", "_law_pen_here", "_law_turn", "_law_deeds", "_law_plain_here", "_law_made_here", "_law_again", "_law_row", "_law_named_here", "_law_state", "_law_given", "_law_here", "_law_there", "_law_path", "_law_at", "_law_odd", "_law_wrong", "_law_none", "_law_due", "_law_told", "_law_k"]
theorem scLaw : FnScope nLaw ["_law_script"] (defScope sLaw) := ⟨rfl, rfl, rfl, by decide +kernel, rfl, by decide +kernel, by decide +kernel⟩
/-- a row with something that is no deed -/
theorem row_deed {K : PySem.W.Frag} {C CB CN CL : Addr} (EE : Ee K CB CN) {H : Hp} {Q : VK} {x r : Addr} {v : V} {ws : List Str} {rs : List (List Int)} {ss : List Str} {st : Int} {ks : List Int} {y : V} {dy : PyData} {rest : List V} {done : List Str → List (List Int) → List Int → Int → Prop}
    (mac : MachAt K C H x ws rs ss st) (pt : Parts ws rs ss st) (hr : Sq K H r ((nm ws ks).map V.str ++ y :: rest)) (ix : Ix ws.length ks) (hl : ks.length ≤ 100) (hv : v = .non ∨ ∃ s0, v = .int s0 ∧ 0 ≤ s0 ∧ s0 < (rs.length : Int))
    (hd : ∀ G, Same H G → Dp K G y dy) (sd : SeqAt.shaped dy = true) (nd : ∀ z ∈ ws, PyData.eqv (.str z) dy = false)
    (k : ∀ p G, Same H G → H p = none → G p = some (.tup [.str "deed", .int (ks.length : Int)]) → Q (.ref p) G) (f : Addr) : Row K C CB CN H (WF K CB CN CL f Q) x r v done := by
  have fin : ∀ s0 : Int, 0 ≤ s0 → s0 < (rs.length : Int) → ((v = .non ∧ s0 = st) ∨ v = .int s0) → Row K C CB CN H (WF K CB CN CL f Q) x r v done := fun s0 h0 h1 hv =>
    ⟨ws, rs, ss, st, ks, y :: rest, mac, pt, hr, ix, hl, .inr ⟨s0, h0, h1, hv, .inr ⟨y, dy, rest, rfl, hd, sd, nd, rs_deed EE k f⟩⟩⟩
  rcases hv with rfl | ⟨s0, rfl, h0, h1⟩
  · exact fin st pt.st.1 pt.st.2 (.inl ⟨rfl, rfl⟩)
  · exact fin s0 h0 h1 (.inr rfl)
/-- a state that is none -/
theorem row_state {K : PySem.W.Frag} {C CB CN CL : Addr} (EE : Ee K CB CN) {H : Hp} {Q : VK} {x r : Addr} {v : V} {ty : String} {ws : List Str} {rs : List (List Int)} {ss : List Str} {st : Int} {ks : List Int} {tl : List V} {done : List Str → List (List Int) → List Int → Int → Prop}
    (mac : MachAt K C H x ws rs ss st) (pt : Parts ws rs ss st) (hr : Sq K H r ((nm ws ks).map V.str ++ tl)) (ix : Ix ws.length ks) (hl : ks.length ≤ 100) (hv : Th K H v ty) (nn : v ≠ .non) (nx : ixB v rs.length = false) (ok : reprOk v)
    (k : ∀ p G, Same H G → H p = none → G p = some (.tup [.str "state", .str (reprV v)]) → Q (.ref p) G) (f : Addr) : Row K C CB CN H (WF K CB CN CL f Q) x r v done :=
  ⟨ws, rs, ss, st, ks, tl, mac, pt, hr, ix, hl, .inl ⟨ty, hv, nn, nx, rs_state EE ok k f⟩⟩
/-- a row as it is -/
theorem row_done {K : PySem.W.Frag} {C CB CN : Addr} {E : XK} {H : Hp} {x r : Addr} {v : V} {s0 : Int} {ws : List Str} {rs : List (List Int)} {ss : List Str} {st : Int} {ks : List Int} {done : List Str → List (List Int) → List Int → Int → Prop}
    (mac : MachAt K C H x ws rs ss st) (pt : Parts ws rs ss st) (hr : Sq K H r ((nm ws ks).map V.str)) (ix : Ix ws.length ks) (hl : ks.length ≤ 100) (h0 : 0 ≤ s0) (h1 : s0 < (rs.length : Int)) (hv : (v = .non ∧ s0 = st) ∨ v = .int s0) (k : done ss rs ks s0) : Row K C CB CN H E x r v done :=
  ⟨ws, rs, ss, st, ks, [], mac, pt, by rw [List.append_nil]; exact hr, ix, hl, .inr ⟨s0, h0, h1, hv, .inl ⟨rfl, k⟩⟩⟩
/-- tuple + tuple, a slice of a tuple: some tuple -/
theorem catA_any {K : PySem.W.Frag} {H : Hp} {Q : VK} {a b : Addr} {xs ys : List V} (ha : SqT K H a xs) (hb : SqT K H b ys) (hz : xs.length + ys.length ≤ 1000) (k : ∀ p H', SqT K H' p (xs ++ ys) → Same H H' → Q (.ref p) H') : rCatA K (.ref a) (.ref b) H Q := by
  refine ⟨a, b, xs, ys, rfl, rfl, ha, hb, Nat.le_of_lt (small1000 hz), fun e => ?_, fun _ e => ?_, fun _ _ p hp => k p _ (SqT.of upd_same) (same_upd hp)⟩
  · exact k b H (by rw [e, List.nil_append]; exact hb) (Same.refl H)
  · exact k a H (by rw [e, List.append_nil]; exact ha) (Same.refl H)
theorem cutV_all {xs : List V} {lo hi : Option Int} (h : HT.sIx xs.length 0 lo = 0 ∧ HT.sIx xs.length xs.length hi = xs.length) : cutV xs lo hi = xs := by
  unfold cutV
  simp only [h.1, h.2, List.drop_zero, Nat.sub_zero, List.take_length]
theorem slA_any {K : PySem.W.Frag} {H : Hp} {Q : VK} {a : Addr} {xs : List V} {lo hi : Option Int} (ha : SqT K H a xs) (k : ∀ p H', SqT K H' p (cutV xs lo hi) → Same H H' → Q (.ref p) H') : rSlA K (.ref a) lo hi H Q := by
  refine ⟨a, xs, rfl, ha, fun e => ?_, fun _ p hp => k p _ (SqT.of upd_same) (same_upd hp)⟩
  exact k a H (by rw [cutV_all e]; exact ha) (Same.refl H)
theorem cut_from {xs : List V} {i : Nat} (h : i ≤ xs.length) : cutV xs (some (i : Int)) none = xs.drop i := by
  unfold cutV
  rw [HT.sIx_none, HT.sIx_nat, Nat.min_eq_left h]
  exact List.take_of_length_le (by rw [List.length_drop]; omega)
end K1
set_option Elab.async false
set_option linter.all false
set_option maxRecDepth 100000
/-! the law's end of a round: four wrong rows and a wrong state, told -/
namespace K1
open PySem L2 LamX
/-- a state that is none, as the law has it -/
structure NoSt (v : V) (m : Nat) : Prop where
  th : ∀ (K : PySem.W.Frag) (H : Hp), ∃ ty, Th K H v ty
  nn : v ≠ .non
  nx : ixB v m = false
  ok : reprOk v
  so : PyData.strOk (reprV v) = true
theorem dueE (t : PyData) (h : t.canLay0 = true) : PyData.eqv (.list [t, t]) (.list [t, t]) = true := PySem.SeqAt.eqv_refl _ (by simp [PyData.canLay0, PyData.canLayAll0, h])
theorem dueS (t : PyData) (h : t.canLay0 = true) (e : t.depth ≤ 4) : SeqAt.shaped (.list [t, t]) = true := by
  refine shaped_of ?_ ?_
  · simp [PyData.canLay0, PyData.canLayAll0, h]
  · simp only [PyData.depth, PyData.depthAll]; omega
theorem dueD {K : PySem.W.Frag} {G : Hp} {l p q : Addr} {t : PyData} (h : G l = some (.lst [.ref p, .ref q])) (hp : Dp K G (.ref p) t) (hq : Dp K G (.ref q) t) : Dp K G (.ref l) (.list [t, t]) := .lst (SqL.of h) (.cons hp (.cons hq .nil))
abbrev dDeed (j : Nat) : PyData := .tuple [.str "deed", .int (j : Int)]
abbrev dState (v : V) : PyData := .tuple [.str "state", .str (reprV v)]
theorem dDeed_l (j : Nat) : (dDeed j).canLay0 = true := by
  have : PyData.strOk ("deed" : Str) = true := by decide +kernel
  simp [PyData.canLay0, PyData.canLayAll0, this]
theorem dState_l {v : V} (h : PyData.strOk (reprV v) = true) : (dState v).canLay0 = true := by
  have : PyData.strOk ("state" : Str) = true := by decide +kernel
  simp [PyData.canLay0, PyData.canLayAll0, this, h]
theorem dDeed_d (j : Nat) : (dDeed j).depth ≤ 4 := by simp [PyData.depth, PyData.depthAll]
theorem dState_d (v : V) : (dState v).depth ≤ 4 := by simp [PyData.depth, PyData.depthAll]
section
variable {P : Program} {w : World} {K : PySem.W.Frag} {mg : Str → Option Value} {base : Heap} {C CB CN CL : Addr} {T : List (Addr × Str)}
theorem lams_ok (F : Fs P w K mg base C CB CN CL T) (f c pT : Addr) (A : Around) (outer : List Env) (s : Shared) (H0 : Hp) (E : XK) (hr : Room 8 (A.deeper (PyProof.Rows.envOfC "law" (defScope sLaw) s.heap.objs.size f (.ref c))))
    (TB : TabB base mg c pT) (mem : (pT, qLaw) ∈ T) (uni : ∀ p ∈ T, p.1 = pT → p.2 = qLaw) :
    ∃ t, PSs (cxOf CX0 P w K mg base nLaw "law" (defScope sLaw) f (.ref c) A outer s H0 E).nox (inBody.drop 14) t ∧
      ∀ (D : Ends) (H : Hp) (v0 v1 v2 v3 v4 v6 v7 v10 v11 v12 v13 v14 v15 v19 v20 : Option V) (x na wr du : Addr) (sv : Int) (no odd : V) (d cc dl p : Addr) (n : Nat) (ws : List Str) (rs : List (List Int)) (ss : List Str) (st : Int) (ks : List Int) (j : Nat) (rest : List V) (dy : PyData),
        Mn K C T H d cc n dl p x ws rs ss st → Parts ws rs ss st → Ix ws.length ks → ks.length ≤ 40 → j ≤ ks.length → 0 ≤ sv → sv < (rs.length : Int) →
        SqT K H na ((nm ws ks).map V.str) → SqT K H wr ((nm ws (ks.take j)).map V.str ++ odd :: rest) → H du = some (.tup [.str "deed", .int (j : Int)]) → NoSt no rs.length →
        (∀ G, KeptN d H G → Dp K G odd dy) → SeqAt.shaped dy = true → (∀ z ∈ ws, PyData.eqv (.str z) dy = false) →
        (∀ (v19 : Option V) (H' : Hp), PenAt H' d cc n → KeptN d H H' → Tabs T H' → D.nx [v0, v1, v2, v3, v4, some (.ref x), v6, v7, some (.ref na), some (.int sv), v10, v11, v12, v13, v14, v15, some (.ref wr), some no, some (.ref du), v19, v20] H') →
        t D [v0, v1, v2, v3, v4, some (.ref x), v6, v7, some (.ref na), some (.int sv), v10, v11, v12, v13, v14, v15, some (.ref wr), some no, some (.ref du), v19, v20] H := by
  obtain ⟨T2, M, _, _, _, _, _, _, _, _, ⟨fR, fdR, DF⟩, ⟨fP, fdP, dsP, MP, bP, bP1, vP, GP⟩, ⟨fA, fdA, dsA, MA, bA, bA1, vA, GA⟩, ⟨fT, fdT, MT, bT, GT⟩, ⟨fB, fdB, OB⟩, ⟨fN, fdN, ON⟩, hL, hrp, EE⟩ := F
  have T1 : Bt mg := T2.toBt
  have hr5 : Room 5 (cxOf CX0 P w K mg base nLaw "law" (defScope sLaw) f (.ref c) A outer s H0 E).nox.A := hr.mono (by decide)
  have hr6 : Room 6 (cxOf CX0 P w K mg base nLaw "law" (defScope sLaw) f (.ref c) A outer s H0 E).nox.A := hr.mono (by decide)
  have hr7 : Room 7 (cxOf CX0 P w K mg base nLaw "law" (defScope sLaw) f (.ref c) A outer s H0 E).nox.A := hr.mono (by decide)
  refine ⟨_, pss_cons (ps_set (i := 19) scLaw.nd rfl (Or.inl rfl) (pe_lst (pa_cons
        (pe_lamS (T := T) (k := 3) DF scRefused rfl (Or.inl rfl) rfl (fun gcd => gives_refused OB ON hL hrp) TB rfl mem uni hr5 (lamS_by (by show lamSB (defScope sLaw) _ = true; decide +kernel))
          (fun A outer s2 H2 E f c' hr3 => pe_meth (pv 5) M.cl MP GP hr3 bP1 vP (passes_call (takes_of rfl rfl rfl rfl) fun _ _ _ _ h => h) (pa_cons (pv 16) pa_nil)))
        (pa_cons (pe_lamD (T := T) (k := 4) (y0 := "_law_a") (i0 := 1) DF scRefused rfl (Or.inl rfl) rfl (fun gcd => gives_refused OB ON hL hrp) TB rfl mem uni hr6 (lamP_by (by show lamPB (defScope sLaw) _ _ = true; decide +kernel)) (by show ("_law_a" : Str) ∉ nLaw; decide)
          (fun A outer s2 H2 E f c' hr3 => pe_meth (pv 5) M.cl MA GA hr3 bA .nil (passes_call (takes_of rfl rfl rfl rfl) fun _ _ _ _ h => h) (pa_cons (pv 16) (pa_cons (pv 9) pa_nil)))) pa_nil))))
      (pss_cons (ps_if (PW.pt (pw_or (pt_cmpR (op_neD hr.units) (pv 19) (pe_lst (pa_cons (pv 18) (pa_cons (pv 18) pa_nil))) (nomark _))
          (pw_or1 (pt_cmpR (op_neD hr.units) (pe_lamS (T := T) (k := 5) DF scRefused rfl (Or.inl rfl) rfl (fun gcd => gives_refused OB ON hL hrp) TB rfl mem uni hr7 (lamS_by (by show lamSB (defScope sLaw) _ = true; decide +kernel))
            (fun A outer s2 H2 E f c' hr3 => pe_meth (pv 5) M.cl MT GT hr3 bT .nil (passes_call (takes_of rfl rfl rfl rfl) fun _ _ _ _ h => h) (pa_cons (pv 16) pa_nil))) (pv 18) (nomark _))))) (pss_one (ps_ret pe_bl)) pss_nil)
      (pss_cons (ps_set (i := 19) scLaw.nd rfl (Or.inl rfl) (pe_lst (pa_cons
        (pe_lamS (T := T) (k := 4) DF scRefused rfl (Or.inl rfl) rfl (fun gcd => gives_refused OB ON hL hrp) TB rfl mem uni hr6 (lamS_by (by show lamSB (defScope sLaw) _ = true; decide +kernel))
          (fun A outer s2 H2 E f c' hr3 => pe_meth (pv 5) M.cl MA GA hr3 bA .nil (passes_call (takes_of rfl rfl rfl rfl) fun _ _ _ _ h => h) (pa_cons (pv 16) (pa_cons (pv 17) pa_nil))))
        (pa_cons (pe_lamD (T := T) (k := 3) (y0 := "_law_a") (i0 := 2) DF scRefused rfl (Or.inl rfl) rfl (fun gcd => gives_refused OB ON hL hrp) TB rfl mem uni hr5 (lamP_by (by show lamPB (defScope sLaw) _ _ = true; decide +kernel)) (by show ("_law_a" : Str) ∉ nLaw; decide)
          (fun A outer s2 H2 E f c' hr3 => pe_meth (pv 5) M.cl MP GP hr3 bP .nil (passes_call (takes_of rfl rfl rfl rfl) fun _ _ _ _ h => h) (pa_cons (pv 8) (pa_cons (pv 17) pa_nil)))) pa_nil))))
      (pss_one (ps_if (pt_cmpR (op_neD hr.units) (pv 19) (pe_op op_rep (pe_lst (pa_cons (pe_tup (pa_cons pe_str (pa_cons (pe_callB call_repr_any (by rfl) hrp PyProof.Rows.boot_repr (pa_cons (pv 17) pa_nil)) pa_nil))) pa_nil)) pe_int) (nomark _)) (pss_one (ps_ret pe_bl)) pss_nil)))), ?_⟩
  intro D H v0 v1 v2 v3 v4 v6 v7 v10 v11 v12 v13 v14 v15 v19 v20 x na wr du sv no odd d cc dl p n ws rs ss st ks j rest dy mn pt hix hkl hj hs0 hs1 hna hwr hdu hno hod sd nd done
  have hkj : (ks.take j).length = j := by rw [List.length_take]; omega
  obtain ⟨kv, hd0⟩ := mn.hd
  have key : ∀ {H1 G : Hp} {Q : VK} {v : V} {dn : List Str → List (List Int) → List Int → Int → Prop} (f : Addr), Mn K C T H1 d cc n dl p x ws rs ss st → KeptN d H H1 → (v = .non ∨ ∃ s0, v = .int s0 ∧ 0 ≤ s0 ∧ s0 < (rs.length : Int)) →
      (∀ p G, Same H1 G → H1 p = none → G p = some (.tup [.str "deed", .int (j : Int)]) → Q (.ref p) G) → Row K C CB CN H1 (WF K CB CN CL f Q) x wr v dn := by
    intro H1 G Q v dn f m1 k1 hv k
    refine row_deed EE (y := odd) (dy := dy) (rest := rest) m1.mac pt (.inr (seqT_pen hwr hd0 k1)) (hix.take j) (by omega) hv (fun G sG => hod G (k1.trans (Kept.same sG).n)) sd nd (fun p G s1 h1 e1 => k p G s1 h1 ?_) f
    rw [e1, hkj]
  have keyS : ∀ {H1 : Hp} {Q : VK} {r : Addr} {tl : List V} {js : List Int} {dn : List Str → List (List Int) → List Int → Int → Prop} (f : Addr), Mn K C T H1 d cc n dl p x ws rs ss st → SqT K H1 r ((nm ws js).map V.str ++ tl) → Ix ws.length js → js.length ≤ 100 →
      (∀ p G, Same H1 G → H1 p = none → G p = some (.tup [.str "state", .str (reprV no)]) → Q (.ref p) G) → Row K C CB CN H1 (WF K CB CN CL f Q) x r no dn := by
    intro H1 Q r tl js dn f m1 h1 ix l1 k
    obtain ⟨ty, th⟩ := hno.th K H1
    exact row_state EE m1.mac pt (.inr h1) ix l1 th hno.nn hno.nx hno.ok k f
  -- path(wrong)
  refine ⟨mn.tab, fun H1 e1 T1 f1 => ?_⟩
  have m1 := mn.go e1.n (e1.pen mn.pen) T1
  obtain ⟨dx1, t1, r1, l1, as1, hx1, _⟩ := id m1.mac
  refine ⟨_, rfl, x, dx1, _, rfl, hx1, mf_path _ _ _ _, _, rfl, x, wr, .non, rfl, key (G := H1) f1 m1 e1.n (.inl rfl) fun p1 G1 s1 z1 g1 => ?_⟩
  have m2 := m1.same s1
  have k2 : KeptN d H G1 := e1.n.trans (Kept.same s1).n
  -- after(wrong, state)
  refine ⟨m2.tab, fun H3 e3 T3 f3 => ?_⟩
  have m3 := m2.go e3.n (e3.pen m2.pen) T3
  have k3 := k2.trans e3.n
  obtain ⟨dx3, t3, r3, l3, as3, hx3, _⟩ := id m3.mac
  refine ⟨_, rfl, x, dx3, _, rfl, hx3, mf_after _ _ _ _, _, rfl, _, rfl, x, wr, .int sv, rfl, key (G := H3) f3 m3 k3 (.inr ⟨sv, rfl, hs0, hs1⟩) fun p3 G3 s3 z3 g3 => ?_⟩
  have m4 := m3.same s3
  have k4 := k3.trans (Kept.same s3).n
  have g13 := s3 _ _ (e3.tup g1)
  refine ⟨Nat.le_of_ble_eq_true rfl, fun q hq => ?_⟩
  have sq := same_upd (o := .lst [V.ref p1, V.ref p3]) hq
  have eq5 : upd G3 q (.lst [V.ref p1, V.ref p3]) q = some (.lst [V.ref p1, V.ref p3]) := upd_same
  have m5 := m4.same sq
  have k5 := k4.trans (Kept.same sq).n
  have g15 := sq _ _ g13
  have g35 := sq _ _ g3
  generalize upd G3 q (.lst [V.ref p1, V.ref p3]) = H5 at m5 k5 g15 g35 eq5 ⊢
  -- told != [due, due]
  refine ⟨_, rfl, _, rfl, _, rfl, Nat.le_of_ble_eq_true rfl, fun q2 hq2 => ?_⟩
  have sq2 := same_upd (o := .lst [V.ref du, V.ref du]) hq2
  have m6 := m5.same sq2
  have k6 := k5.trans (Kept.same sq2).n
  have ndu := mn.n1 hdu (fun _ z => by cases z)
  have du6 := k6.tup ndu hdu
  have tD : ∀ {G : Hp} {a : Addr}, G a = some (.tup [.str "deed", .int (j : Int)]) → Dp K G (.ref a) (dDeed j) := fun h => .tup (SqT.of h) (.cons (.str _) (.cons (.int _) .nil))
  refine ⟨_, _, dueD (sq2 _ _ eq5) (tD (sq2 _ _ g15)) (tD (sq2 _ _ g35)), dueD upd_same (tD du6) (tD du6), dueS _ (dDeed_l j) (dDeed_d j), dueS _ (dDeed_l j) (dDeed_d j), _, rfl, ?_⟩
  rw [dueE _ (dDeed_l j)]
  refine iteF ?_
  -- told(wrong)
  refine ⟨m6.tab, fun H7 e7 T7 f7 => ?_⟩
  have m7 := m6.go e7.n (e7.pen m6.pen) T7
  have k7 := k6.trans e7.n
  obtain ⟨dx7, t7, r7, l7, as7, hx7, _⟩ := id m7.mac
  refine ⟨_, rfl, x, dx7, _, rfl, hx7, mf_told _ _ _ _, _, rfl, x, wr, rfl, key (G := H7) f7 m7 k7 (.inl rfl) fun p8 G8 s8 z8 g8 => ?_⟩
  have m8 := m7.same s8
  have k8 := k7.trans (Kept.same s8).n
  have du8 := k8.tup ndu hdu
  refine ⟨_, rfl, _, _, tD g8, tD du8, shaped_of (dDeed_l j) (by have := dDeed_d j; omega), shaped_of (dDeed_l j) (by have := dDeed_d j; omega), _, rfl, ?_⟩
  rw [PySem.SeqAt.eqv_refl _ (dDeed_l j)]
  refine iteF ?_
  -- after(wrong, none)
  refine ⟨m8.tab, fun H9 e9 T9 f9 => ?_⟩
  have m9 := m8.go e9.n (e9.pen m8.pen) T9
  have k9 := k8.trans e9.n
  obtain ⟨dx9, t9, r9, l9, as9, hx9, _⟩ := id m9.mac
  refine ⟨_, rfl, x, dx9, _, rfl, hx9, mf_after _ _ _ _, _, rfl, _, rfl, x, wr, no, rfl, keyS f9 m9 (seqT_pen hwr hd0 k9) (hix.take j) (by omega) fun p10 G10 s10 z10 g10 => ?_⟩
  have m10 := m9.same s10
  have k10 := k9.trans (Kept.same s10).n
  -- path(named, none)
  refine ⟨m10.tab, fun H11 e11 T11 f11 => ?_⟩
  have m11 := m10.go e11.n (e11.pen m10.pen) T11
  have k11 := k10.trans e11.n
  obtain ⟨dx11, t11, r11, l11, as11, hx11, _⟩ := id m11.mac
  refine ⟨_, rfl, x, dx11, _, rfl, hx11, mf_path _ _ _ _, _, rfl, _, rfl, x, na, no, rfl, keyS (tl := []) f11 m11 (by rw [List.append_nil]; exact seqT_pen hna hd0 k11) hix (by omega) fun p12 G12 s12 z12 g12 => ?_⟩
  have m12 := m11.same s12
  have k12 := k11.trans (Kept.same s12).n
  have g102 := s12 _ _ (e11.tup g10)
  refine ⟨Nat.le_of_ble_eq_true rfl, fun q3 hq3 => ?_⟩
  have s13 := same_upd (o := .lst [V.ref p10, V.ref p12]) hq3
  have eq13 : upd G12 q3 (.lst [V.ref p10, V.ref p12]) q3 = some (.lst [V.ref p10, V.ref p12]) := upd_same
  have m13 := m12.same s13
  have k13 := k12.trans (Kept.same s13).n
  have g1013 := s13 _ _ g102
  have g1213 := s13 _ _ g12
  generalize upd G12 q3 (.lst [V.ref p10, V.ref p12]) = H13 at m13 k13 g1013 g1213 eq13 ⊢
  -- told != [("state", repr(none))] * 2
  refine ⟨_, rfl, _, rfl, no, rfl, hno.ok, Nat.le_of_ble_eq_true rfl, fun u1 hu1 => ⟨Nat.le_of_ble_eq_true rfl, fun u2 hu2 => ?_⟩⟩
  have sU := (same_upd (o := .tup [V.str "state", V.str (reprV no)]) hu1).trans (same_upd (o := .lst [V.ref u1]) hu2)
  have eu1 : upd (upd H13 u1 (.tup [V.str "state", V.str (reprV no)])) u2 (.lst [V.ref u1]) u1 = some (.tup [V.str "state", V.str (reprV no)]) := by
    rw [upd_ne (ne_of_none upd_same hu2)]; exact upd_same
  have eu2 : upd (upd H13 u1 (.tup [V.str "state", V.str (reprV no)])) u2 (.lst [V.ref u1]) u2 = some (.lst [V.ref u1]) := upd_same
  generalize upd (upd H13 u1 (.tup [V.str "state", V.str (reprV no)])) u2 (.lst [V.ref u1]) = H14 at sU eu1 eu2 ⊢
  refine ⟨u2, 2, [V.ref u1], rfl, rfl, eu2, by decide, by decide, Nat.le_of_ble_eq_true rfl, fun u3 hu3 => ?_⟩
  have s15 := same_upd (o := .lst [V.ref u1, V.ref u1]) hu3
  have tS : ∀ {G : Hp} {a : Addr}, G a = some (.tup [.str "state", .str (reprV no)]) → Dp K G (.ref a) (dState no) := fun h => .tup (SqT.of h) (.cons (.str _) (.cons (.str _) .nil))
  have lS := dState_l hno.so
  have g3 := s15.trans (Same.refl _)
  refine ⟨_, _, dueD (s15 _ _ (sU _ _ eq13)) (tS (s15 _ _ (sU _ _ g1013))) (tS (s15 _ _ (sU _ _ g1213))), dueD upd_same (tS (s15 _ _ eu1)) (tS (s15 _ _ eu1)), dueS _ lS (dState_d no), dueS _ lS (dState_d no), _, rfl, ?_⟩
  rw [dueE _ lS]
  refine iteF ?_
  have m15 := (m13.same sU).same s15
  exact done _ _ m15.pen (k13.trans (Kept.same (sU.trans s15)).n) m15.tab
end
end K1
set_option Elab.async false
set_option linter.all false
set_option maxRecDepth 100000
/-! the law's middle of a round: a wrong deed, a wrong state -/
namespace K1
open PySem L2 LamX
theorem shaped_strsL {ws : List Str} (h : OkS ws) : SeqAt.shaped (.list (ws.map PyData.str)) = true := shaped_of (by rw [PyData.canLay0, canLay_strs _ h]) (by rw [PyData.depth]; have := depth_strs ws; omega)
theorem any_no {ws : List Str} {dv : PyData} (h : ∀ z ∈ ws, PyData.eqv (.str z) dv = false) : ((ws.map PyData.str).any fun q => PyData.eqv q dv) = false := by
  rw [List.any_eq_false]
  intro q hq
  obtain ⟨z, hz, rfl⟩ := List.mem_map.mp hq
  rw [h z hz]; simp
theorem eqv_no {a b : Str} (h : a ≠ b) : PyData.eqv (.str a) (.str b) = false := by rw [eqv_str]; exact decide_eq_false h
theorem tl_app (a b : Str) : (a ++ b).cps.toList = a.cps.toList ++ b.cps.toList := by
  show (a.cps ++ b.cps).toList = _
  simp
/-- an odd deed -/
theorem odd_ok {K : PySem.W.Frag} {v : V} {t : Addr} {ws : List Str} {k : Nat} (hw : ∀ z ∈ ws, Wd z) (he : ∀ z ∈ ws, z.cps.toList.length = k) (h0 : ws.getD 0 "" ∈ ws)
    (h : v ∈ [V.str "zzzzzzzzzzzz", V.str "", V.non, V.int 0, V.str "A", V.ref t, V.str (ws.getD 0 "" ++ "0"), V.bl true]) :
    ∃ dv : PyData, dv.canLay0 = true ∧ dv.depth ≤ 3 ∧ (∀ z ∈ ws, PyData.eqv (.str z) dv = false) ∧ ∀ H : Hp, H t = some (.tup [.str "a"]) → Dp K H v dv := by
  have lenne : ∀ {z b : Str}, z.cps.toList.length ≠ b.cps.toList.length → z ≠ b := fun h e => h (by rw [e])
  have l7 : ∀ z ∈ ws, z.cps.toList.length ≤ 7 ∧ 1 ≤ z.cps.toList.length := fun z hz => by
    obtain ⟨c, r, e, _, _, h3⟩ := hw z hz
    rw [e]; simp; omega
  simp only [List.mem_cons, List.not_mem_nil, or_false] at h
  rcases h with rfl | rfl | rfl | rfl | rfl | rfl | rfl | rfl
  · refine ⟨.str "zzzzzzzzzzzz", by decide +kernel, by decide, fun z hz => eqv_no (lenne ?_), fun H e => .str _⟩
    have h12 : ("zzzzzzzzzzzz" : Str).cps.toList.length = 12 := by decide +kernel
    have := l7 z hz
    omega
  · refine ⟨.str "", by decide +kernel, by decide, fun z hz => eqv_no (lenne ?_), fun H e => .str _⟩
    have h12 : ("" : Str).cps.toList.length = 0 := by decide +kernel
    have := l7 z hz
    omega
  · exact ⟨.none, rfl, by decide, fun z hz => by simp [PyData.eqv], fun H e => .non⟩
  · exact ⟨.int 0, rfl, by decide, fun z hz => by simp [PyData.eqv], fun H e => .int _⟩
  · refine ⟨.str "A", by decide +kernel, by decide, fun z hz => eqv_no fun e => ?_, fun H e => .str _⟩
    obtain ⟨c, r, e1, hc, _, _⟩ := hw z hz
    rw [e] at e1
    have hA : ("A" : Str).cps.toList = [65] := by decide +kernel
    rw [hA] at e1
    cases e1
    exact absurd hc (by decide +kernel)
  · refine ⟨.tuple [.str "a"], by decide +kernel, by decide, fun z hz => by simp [PyData.eqv], fun H e => .tup (SqT.of e) (.cons (.str "a") .nil)⟩
  · refine ⟨.str (ws.getD 0 "" ++ "0"), ?_, by simp [PyData.depth], fun z hz => eqv_no (lenne ?_), fun H e => .str _⟩
    · rw [PyData.canLay0]
      refine ok_chars fun c hc => ?_
      rw [tl_app] at hc
      rcases List.mem_append.mp hc with hc | hc
      · exact List.mem_append_left _ ((hw _ h0).chars c hc)
      · have e0 : ("0" : Str).cps.toList = [48] := by decide +kernel
        rw [e0] at hc
        rw [List.mem_singleton.mp hc]
        decide +kernel
    · have h1 : ("0" : Str).cps.toList.length = 1 := by decide +kernel
      rw [tl_app, List.length_append, he z hz, he _ h0]
      omega
  · exact ⟨.bool true, rfl, by decide, fun z hz => by simp [PyData.eqv], fun H e => .bl _⟩
theorem reprM : ∀ m ≤ 12, reprOk (.int ((m : Nat) : Int)) ∧ PyData.strOk (reprV (.int ((m : Nat) : Int))) = true := by
  have h1 : ∀ m ≤ 12, ((m : Nat) : Int).natAbs.log2 < 1920 := by decide +kernel
  have h2 : ∀ m ≤ 12, PyData.strOk (reprV (.int ((m : Nat) : Int))) = true := by decide +kernel
  exact fun m hm => ⟨h1 m hm, h2 m hm⟩
/-- an odd state -/
theorem nost_ok {v : V} {m : Nat} (hm : m ≤ 12) (h : v ∈ [V.int (-1), V.int (m : Int), V.bl true, V.str "0", V.int (10 ^ Int.toNat 30)]) : NoSt v m := by
  have h30 : (10 : Int) ^ Int.toNat 30 > 12 := by decide +kernel
  simp only [List.mem_cons, List.not_mem_nil, or_false] at h
  rcases h with rfl | rfl | rfl | rfl | rfl
  · exact ⟨fun K H => ⟨_, .int _⟩, (by intro z; cases z), by unfold ixB; simp, (by show (Int.natAbs (-1)).log2 < 1920; decide +kernel), by decide +kernel⟩
  · exact ⟨fun K H => ⟨_, .int _⟩, (by intro z; cases z), by unfold ixB; simp, (reprM m hm).1, (reprM m hm).2⟩
  · exact ⟨fun K H => ⟨_, .bl _⟩, (by intro z; cases z), rfl, trivial, by decide +kernel⟩
  · exact ⟨fun K H => ⟨_, .str _ (by decide +kernel)⟩, (by intro z; cases z), rfl, (by show (PySem.reprText "0").length ≤ sizeLine; exact Nat.le_trans (by decide +kernel : _ ≤ 10) (by decide)), by decide +kernel⟩
  · refine ⟨fun K H => ⟨_, .int _⟩, (by intro z; cases z), ?_, (by show (Int.natAbs (10 ^ Int.toNat 30)).log2 < 1920; decide +kernel), by decide +kernel⟩
    show (decide ((0 : Int) ≤ 10 ^ Int.toNat 30) && decide ((10 : Int) ^ Int.toNat 30 < (m : Int))) = false
    rw [decide_eq_false (by omega : ¬ ((10 : Int) ^ Int.toNat 30 < (m : Int)))]
    simp
section
variable {P : Program} {w : World} {K : PySem.W.Frag} {mg : Str → Option Value} {base : Heap} {C CB CN CL : Addr} {T : List (Addr × Str)}
theorem mid_ok (F : Fs P w K mg base C CB CN CL T) (f c pT : Addr) (A : Around) (outer : List Env) (s : Shared) (H0 : Hp) (E : XK) (hr : Room 8 (A.deeper (PyProof.Rows.envOfC "law" (defScope sLaw) s.heap.objs.size f (.ref c))))
    (TB : TabB base mg c pT) (mem : (pT, qLaw) ∈ T) (uni : ∀ p ∈ T, p.1 = pT → p.2 = qLaw) :
    ∃ t, PSs (cxOf CX0 P w K mg base nLaw "law" (defScope sLaw) f (.ref c) A outer s H0 E).nox (inBody.drop 9) t ∧
      ∀ (D : Ends) (H : Hp) (v0 v2 v6 v10 v11 v12 v13 v14 v15 v16 v17 v18 v19 v20 : Option V) (x na ro : Addr) (sv : Int) (d cc dl p : Addr) (n : Nat) (ws : List Str) (rs : List (List Int)) (ss : List Str) (st : Int) (ks : List Int) (lw : Nat),
        Mn K C T H d cc n dl p x ws rs ss st → Parts ws rs ss st → rs.length ≤ 12 → (∀ z ∈ ws, z.cps.toList.length = lw) → Ix ws.length ks → ks.length ≤ 40 → n ≤ 500000 → 0 ≤ sv → sv < (rs.length : Int) →
        SqT K H na ((nm ws ks).map V.str) → H ro = some (.lst (ks.map V.int)) →
        (∀ (v14 v15 v16 v17 v18 v19 : Option V) (n' : Nat) (H' : Hp), PenAt H' d cc n' → n' ≤ n + 10 → KeptN d H H' → Tabs T H' → D.nx [v0, some (.ref d), v2, some (.ref dl), some (.ref p), some (.ref x), v6, some (.ref ro), some (.ref na), some (.int sv), v10, v11, v12, v13, v14, v15, v16, v17, v18, v19, v20] H') →
        t D [v0, some (.ref d), v2, some (.ref dl), some (.ref p), some (.ref x), v6, some (.ref ro), some (.ref na), some (.int sv), v10, v11, v12, v13, v14, v15, v16, v17, v18, v19, v20] H := by
  obtain ⟨t14, ht14, hq14⟩ := lams_ok F f c pT A outer s H0 E hr TB mem uni
  obtain ⟨T2, M, _, ⟨fD, fdD, mgD, kpD, bD, GD⟩, ⟨fP, fdP, mgP, kpP, bP, GP⟩, _, _, _, _, _, _, _, _, _, _, _, _, _, _⟩ := F
  have T1 : Bt mg := T2.toBt
  have hr1 : Room 1 (cxOf CX0 P w K mg base nLaw "law" (defScope sLaw) f (.ref c) A outer s H0 E).nox.A := hr.mono (by decide)
  have hr2 : Room 2 (cxOf CX0 P w K mg base nLaw "law" (defScope sLaw) f (.ref c) A outer s H0 E).nox.A := hr.mono (by decide)
  have hu := hu_of hr
  refine ⟨_, pss_cons (ps_set (i := 14) scLaw.nd rfl (Or.inl rfl) (pe_call GD hr1 rfl mgD kpD bD .nil pass0 (pa_cons (pv 1) (pa_cons (pe_op op_add (pe_callB call_len (by rfl) T1.len PySem.boot_len (pa_cons (pv 7) pa_nil)) pe_int) pa_nil))))
      (pss_cons (ps_set (i := 15) scLaw.nd rfl (Or.inl rfl) (pe_call GP hr2 rfl mgP kpP bP .nil pass0 (pa_cons (pv 1) (pa_cons (pe_lst (pa_cons pe_str (pa_cons pe_str (pa_cons pe_non (pa_cons pe_int (pa_cons pe_str (pa_cons (pe_tup (pa_cons pe_str pa_nil))
          (pa_cons (pe_op op_add_str (pe_ix ix_list (pv 3) pe_int (fun _ _ => rfl)) pe_str) (pa_cons pe_bl pa_nil))))))))) pa_nil))))
      (pss_cons (ps_set (i := 16) scLaw.nd rfl (Or.inr rfl) (pe_op (r := rCatA K) op_catA (pe_op (r := rCatA K) op_catA (pe_slice (r := rSlA K) sl_tupA (pv 8) po_none (po_some (pv 14))) (pe_tup (pa_cons (pv 15) pa_nil))) (pe_slice (r := rSlA K) sl_tupA (pv 8) (po_some (pv 14)) po_none)))
      (pss_cons (ps_set (i := 17) scLaw.nd rfl (Or.inr rfl) (pe_call GP hr2 rfl mgP kpP bP .nil pass0 (pa_cons (pv 1) (pa_cons (pe_lst (pa_cons (pe_un un_neg pe_int) (pa_cons (pe_callB call_len (by rfl) T1.len PySem.boot_len (pa_cons (pe_dget hu (pv 4) pe_str (fun _ _ => rfl)) pa_nil))
          (pa_cons pe_bl (pa_cons pe_str (pa_cons (pe_op op_pow pe_int pe_int) pa_nil)))))) pa_nil))))
      (pss_cons (ps_set (i := 18) scLaw.nd rfl (Or.inl rfl) (pe_ifExp (pt_cmpR (op_inD (room65 hr)) (pv 15) (pv 3) (by rfl)) pe_non (pe_tup (pa_cons pe_str (pa_cons (pv 14) pa_nil)))))
        ht14)))), ?_⟩
  intro D H v0 v2 v6 v10 v11 v12 v13 v14 v15 v16 v17 v18 v19 v20 x na ro sv d cc dl p n ws rs ss st ks lw mn pt h12 hlw hix hkl hn hs0 hs1 hna hro done
  have wl := pt.gd.len
  have hw0 : ws.getD 0 "" ∈ ws := List.mem_of_getElem? (getD_get ("" : Str) (by omega))
  obtain ⟨kv, hd0⟩ := mn.hd
  -- at
  refine ⟨_, rfl, _, rfl, _, ks.length, rfl, .inl ⟨_, SqL.of hro, (List.length_map _).symm⟩, _, _, rfl, rfl, d, cc, n, (ks.length : Int) + 1, rfl, mn.pen, by omega, by omega, by omega, fun r H1 r0 r1 p1 k1 => ?_⟩
  obtain ⟨j, rfl⟩ : ∃ j : Nat, r = (j : Int) := ⟨r.toNat, by omega⟩
  have hj : j ≤ ks.length := by omega
  have m1 := mn.kept k1 p1
  -- odd
  refine ⟨_, rfl, Nat.le_of_ble_eq_true rfl, fun tt htt => ?_⟩
  have st1 := same_upd (o := .tup [V.str "a"]) htt
  have m2 := m1.same st1
  have ett : upd H1 tt (.tup [V.str "a"]) tt = some (.tup [V.str "a"]) := upd_same
  have ntt := (m1.pen.ne htt).1
  generalize upd H1 tt (.tup [V.str "a"]) = H2 at st1 m2 ett ⊢
  refine ⟨_, rfl, dl, _, 0, _, rfl, rfl, SqL.of m2.hdl, at_deed (k := 0) (by decide) (by omega), _, _, rfl, rfl, ?_, Nat.le_of_ble_eq_true rfl, fun q hq => ?_⟩
  · have h1 : ("0" : Str).length = 1 := by decide +kernel
    rw [h1]
    obtain ⟨c', r', e', _, _, h3'⟩ := pt.gd.wd _ hw0
    have : (ws.getD 0 "").length = (ws.getD 0 "").cps.toList.length := by simp [Str.length]
    show (ws.getD 0 "").length + 1 ≤ sizeLine
    rw [this, e']
    exact Nat.le_of_lt (small1000 (by simp; omega))
  have sq := same_upd (o := .lst [V.str "zzzzzzzzzzzz", V.str "", V.non, V.int 0, V.str "A", V.ref tt, V.str (ws.getD 0 "" ++ "0"), V.bl true]) hq
  have m3 := m2.same sq
  refine ⟨d, cc, q, _, _, rfl, m3.pen, by omega, (m2.pen.ne hq).1, SqL.of upd_same, Nat.le_of_ble_eq_true rfl, Nat.le_of_ble_eq_true rfl, fun odd H4 hodd p4 k4 => ?_⟩
  obtain ⟨dy, cl, dp, nd, od⟩ := odd_ok (K := K) pt.gd.wd hlw hw0 hodd
  have m4 := m3.kept k4 p4
  have e4 : KeptN d H H4 := k1.n.trans ((Kept.same st1).n.trans ((Kept.same sq).n.trans k4.n))
  have ett4 := k4 _ _ (sq _ _ ett) ntt
  have hna4 := seqT_pen hna hd0 e4
  -- wrong
  refine ⟨_, rfl, _, rfl, (j : Int), rfl, slA_any hna4 fun a1 H5 h5 s5 => ?_⟩
  rw [cut_to (by rw [List.length_map, nm_len]; exact hj)] at h5
  refine ⟨_, rfl, Nat.le_of_ble_eq_true rfl, fun a2 ha2 => catA_any (xs := ((nm ws ks).map V.str).take j) (ys := [odd]) (h5.ext (same_upd ha2)) (SqT.of upd_same) ?_ fun a3 H7 h7 s7 => ?_⟩
  · rw [List.length_take, List.length_map, nm_len]; simp; omega
  have s47 := (s5.trans (same_upd ha2)).trans s7
  have hna7 := hna4.ext s47
  refine ⟨_, rfl, _, rfl, (j : Int), rfl, ?_⟩
  delta tNoPart
  show rSlA K (.ref na) (some (j : Int)) none H7 _
  refine slA_any hna7 fun a4 H8 h8 s8 => ?_
  rw [cut_from (by rw [List.length_map, nm_len]; exact hj)] at h8
  refine catA_any (h7.ext s8) h8 ?_ fun wr H9 h9 s9 => ?_
  · simp [nm_len]; omega
  have s49 := s47.trans (s8.trans s9)
  have m9 := m4.same s49
  have e9 : KeptN d H H9 := e4.trans (Kept.same s49).n
  have ett9 := s49 _ _ ett4
  have hwr : SqT K H9 wr ((nm ws (ks.take j)).map V.str ++ odd :: ((nm ws ks).map V.str).drop j) := by
    have : ((nm ws ks).map V.str).take j = (nm ws (ks.take j)).map V.str := by rw [nm, nm, List.map_take, List.map_take]
    rw [← this]
    rw [List.append_assoc] at h9
    exact h9
  -- none
  obtain ⟨t', r', l', as', ep, et, er, el, hR⟩ := m9.pl.ex
  refine ⟨_, rfl, 1, rfl, _, rfl, p, _, rfl, gRows ep, _, rs.length, rfl, .inl ⟨_, SqL.of er, by rw [List.length_map, hR.1]⟩, _, _, rfl, rfl, ⟨by decide, by decide, by decide⟩, Nat.le_of_ble_eq_true rfl, fun q2 hq2 => ?_⟩
  have sq2 := same_upd (o := .lst [V.int (-1), V.int (rs.length : Int), V.bl true, V.str "0", V.int (10 ^ Int.toNat 30)]) hq2
  have m10 := m9.same sq2
  refine ⟨d, cc, q2, _, _, rfl, m10.pen, by omega, (m9.pen.ne hq2).1, SqL.of upd_same, Nat.le_of_ble_eq_true rfl, Nat.le_of_ble_eq_true rfl, fun no H11 hno p11 k11 => ?_⟩
  have nost := nost_ok h12 hno
  have m11 := m10.kept k11 p11
  have g911 : KeptN d H9 H11 := (Kept.same sq2).n.trans k11.n
  have e11 : KeptN d H H11 := e9.trans g911
  have ett11 := k11 _ _ (sq2 _ _ ett9) ntt
  obtain ⟨kv9, hd9⟩ := m9.hd
  have hwr11 := seqT_pen hwr hd9 g911
  -- due
  have sdy : SeqAt.shaped dy = true := shaped_of cl (by omega)
  refine ⟨_, rfl, _, rfl, dy, _, od _ ett11, .lst (SqL.of m11.hdl) (dp_strs ws), sdy, shaped_strsL (ok_wd pt.gd.wd), _, rfl, ?_⟩
  rw [any_no nd]
  refine iteF ⟨_, rfl, Nat.le_of_ble_eq_true rfl, fun du hdu => ?_⟩
  have sdu := same_upd (o := .tup [V.str "deed", V.int (j : Int)]) hdu
  have m12 := m11.same sdu
  have e12 : KeptN d H _ := e11.trans (Kept.same sdu).n
  refine hq14 D _ v0 _ v2 _ _ v6 _ v10 v11 v12 v13 _ _ v19 v20 x na wr du sv no odd d cc dl p _ ws rs ss st ks j _ dy m12 pt hix hkl hj hs0 hs1 (seqT_pen hna hd0 e12) (hwr11.ext sdu) upd_same nost (fun G kG => od G (kG.tup ntt (sdu _ _ ett11))) sdy nd fun w19 H13 p13 k13 T13 => ?_
  exact done _ _ _ _ _ _ _ H13 p13 (by omega) (e12.trans k13) T13
end
end K1
set_option Elab.async false
set_option linter.all false
set_option maxRecDepth 100000
/-! the law's round: path, after, told of right rows -/
namespace K1
open PySem L2 LamX
theorem ints_l (ns : List Int) : (PyData.list (ns.map PyData.int)).canLay0 = true := by rw [PyData.canLay0, canLay_ints]
theorem dpL {K : PySem.W.Frag} {H : Hp} {a : Addr} {ns : List Int} (h : H a = some (.lst (ns.map V.int))) : Dp K H (.ref a) (.list (ns.map PyData.int)) := .lst (SqL.of h) (dp_ints ns)
theorem shaped_int (i : Int) : SeqAt.shaped (.int i) = true := shaped_of rfl (Nat.zero_le _)
section
variable {P : Program} {w : World} {K : PySem.W.Frag} {mg : Str → Option Value} {base : Heap} {C CB CN CL : Addr} {T : List (Addr × Str)}
theorem back_ok (F : Fs P w K mg base C CB CN CL T) (f c pT : Addr) (A : Around) (outer : List Env) (s : Shared) (H0 : Hp) (E : XK) (hr : Room 8 (A.deeper (PyProof.Rows.envOfC "law" (defScope sLaw) s.heap.objs.size f (.ref c))))
    (TB : TabB base mg c pT) (mem : (pT, qLaw) ∈ T) (uni : ∀ p ∈ T, p.1 = pT → p.2 = qLaw) :
    ∃ t, PSs (cxOf CX0 P w K mg base nLaw "law" (defScope sLaw) f (.ref c) A outer s H0 E).nox (inBody.drop 4) t ∧
      ∀ (D : Ends) (H : Hp) (v0 v2 v6 v13 v14 v15 v16 v17 v18 v19 v20 : Option V) (x na ro gi he th : Addr) (sv : Int) (d cc dl p : Addr) (n : Nat) (ws : List Str) (rs : List (List Int)) (ss : List Str) (st : Int) (ks : List Int) (lw : Nat),
        Mn K C T H d cc n dl p x ws rs ss st → Parts ws rs ss st → rs.length ≤ 12 → (∀ z ∈ ws, z.cps.toList.length = lw) → Ix ws.length ks → ks.length ≤ 40 → n ≤ 500000 → 0 ≤ sv → sv < (rs.length : Int) →
        SqT K H na ((nm ws ks).map V.str) → H ro = some (.lst (ks.map V.int)) → Sq K H gi ((nm ws ks).map V.str) → H he = some (.lst ((way rs ks st).map V.int)) → H th = some (.lst ((way rs ks sv).map V.int)) →
        (∀ (v13 v14 v15 v16 v17 v18 v19 : Option V) (n' : Nat) (H' : Hp), PenAt H' d cc n' → n' ≤ n + 10 → KeptN d H H' → Tabs T H' → D.nx [v0, some (.ref d), v2, some (.ref dl), some (.ref p), some (.ref x), v6, some (.ref ro), some (.ref na), some (.int sv), some (.ref gi), some (.ref he), some (.ref th), v13, v14, v15, v16, v17, v18, v19, v20] H') →
        t D [v0, some (.ref d), v2, some (.ref dl), some (.ref p), some (.ref x), v6, some (.ref ro), some (.ref na), some (.int sv), some (.ref gi), some (.ref he), some (.ref th), v13, v14, v15, v16, v17, v18, v19, v20] H := by
  obtain ⟨t9, ht9, hq9⟩ := mid_ok F f c pT A outer s H0 E hr TB mem uni
  obtain ⟨T2, M, _, _, _, _, _, _, _, _, _, ⟨fP, fdP, dsP, MP, bP, bP1, vP, GP⟩, ⟨fA, fdA, dsA, MA, bA, bA1, vA, GA⟩, ⟨fT, fdT, MT, bT, GT⟩, _, _, _, _, _⟩ := F
  have hr3 : Room 3 (cxOf CX0 P w K mg base nLaw "law" (defScope sLaw) f (.ref c) A outer s H0 E).nox.A := hr.mono (by decide)
  have hr4 : Room 4 (cxOf CX0 P w K mg base nLaw "law" (defScope sLaw) f (.ref c) A outer s H0 E).nox.A := hr.mono (by decide)
  have hr5 : Room 5 (cxOf CX0 P w K mg base nLaw "law" (defScope sLaw) f (.ref c) A outer s H0 E).nox.A := hr.mono (by decide)
  have hu := hu_of hr
  refine ⟨_, pss_cons (ps_set (i := 13) scLaw.nd rfl (Or.inl rfl) (pe_meth (pv 5) M.cl MP GP hr3 bP .nil passL (pa_cons (pv 10) (pa_cons (pv 9) pa_nil))))
      (pss_cons (ps_if (PW.pt (pw_or (pt_cmpR (op_neD hr.units) (pe_meth (pv 5) M.cl MP GP hr3 bP1 vP passL (pa_cons (pv 10) pa_nil)) (pv 11) (nomark _))
          (pw_or (pt_cmpR (op_neD hr.units) (pv 13) (pv 12) (nomark _))
          (pw_or1 (pt_cmpR (op_neD hr.units) (pe_meth (pv 5) M.cl MA GA hr4 bA1 vA passL (pa_cons (pv 10) pa_nil)) (pe_ix ix_list (pv 11) (pe_un un_neg pe_int) (fun _ _ => rfl)) (nomark _)))))) (pss_one (ps_ret pe_bl)) pss_nil)
      (pss_cons (ps_expr (pe_bm PySem.F.plainAttrs_list PySem.F.slot_list_append PySem.F.type_list_append mt_append (pv 13) (pa_cons pe_int pa_nil)))
      (pss_cons (ps_if (PW.pt (pw_or (pt_cmpR (op_neD hr.units) (pe_meth (pv 5) M.cl MP GP hr3 bP .nil passL (pa_cons (pv 10) (pa_cons (pv 9) pa_nil))) (pv 12) (nomark _))
          (pw_or1 (pt_cmpR (op_neD hr.units) (pe_meth (pv 5) M.cl MA GA hr4 bA .nil passL (pa_cons (pv 10) (pa_cons (pv 9) pa_nil))) (pe_ix ix_list (pv 12) (pe_un un_neg pe_int) (fun _ _ => rfl)) (nomark _))))) (pss_one (ps_ret pe_bl)) pss_nil)
      (pss_cons (ps_if (pt_cmpR (op_neD hr.units) (pe_meth (pv 5) M.cl MT GT hr5 bT .nil passL (pa_cons (pv 10) pa_nil)) (pe_ix ix_list (pe_dget hu (pv 4) pe_str (fun _ _ => rfl)) (pe_ix ix_list (pv 11) (pe_un un_neg pe_int) (fun _ _ => rfl)) (fun _ _ => rfl)) (nomark _)) (pss_one (ps_ret pe_bl)) pss_nil)
        ht9)))), ?_⟩
  intro D H v0 v2 v6 v13 v14 v15 v16 v17 v18 v19 v20 x na ro gi he th sv d cc dl p n ws rs ss st ks lw mn pt h12 hlw hix hkl hn hs0 hs1 hna hro hgi hhe hth done
  have wl := pt.gd.len
  have oss : OkS ss := fun z hz => ok_chars fun c hc => (pt.tl.2 z hz).2.2 c hc
  have mac : ∀ {G : Hp}, Same H G → MachAt K C G x ws rs ss st := fun sG => (mn.same sG).mac
  have kl : ks.length ≤ 100 := by omega
  obtain ⟨dx, t1, r1, l1, as1, hx, _⟩ := id mn.mac
  -- path(given, state)
  refine ⟨_, rfl, x, dx, _, rfl, hx, mf_path _ _ _ _, _, rfl, _, rfl, x, gi, .int sv, rfl, row_done mn.mac pt hgi hix kl hs0 hs1 (.inr rfl) fun l H1 hl s1 el => ?_⟩
  -- path(given) != here
  refine ⟨_, rfl, x, dx, _, rfl, s1 _ _ hx, mf_path _ _ _ _, _, rfl, x, gi, .non, rfl, row_done (mac s1) pt (hgi.same s1) hix kl pt.st.1 pt.st.2 (.inl ⟨rfl, rfl⟩) fun l2 H2 hl2 s2 el2 => ?_⟩
  have s02 := s1.trans s2
  refine ⟨_, rfl, _, _, dpL el2, dpL (s02 _ _ hhe), shaped_ints _, shaped_ints _, _, rfl, ?_⟩
  rw [PySem.SeqAt.eqv_refl _ (ints_l _)]
  refine iteF ?_
  refine ⟨_, rfl, _, rfl, _, _, dpL (s2 _ _ el), dpL (s02 _ _ hth), shaped_ints _, shaped_ints _, _, rfl, ?_⟩
  rw [PySem.SeqAt.eqv_refl _ (ints_l _)]
  refine iteF ?_
  refine ⟨_, rfl, x, dx, _, rfl, s02 _ _ hx, mf_after _ _ _ _, _, rfl, x, gi, .non, rfl, row_done (mac s02) pt (hgi.same s02) hix kl pt.st.1 pt.st.2 (.inl ⟨rfl, rfl⟩) fun H3 s3 => ?_⟩
  have s03 := s02.trans s3
  refine ⟨_, rfl, 1, rfl, he, _, _, _, rfl, rfl, SqL.of (s03 _ _ hhe), (by rw [way_eq]; exact at_last), _, _, .int _, .int _, shaped_int _, shaped_int _, _, rfl, ?_⟩
  rw [PySem.SeqAt.eqv_refl _ rfl]
  refine iteF ?_
  -- path.append(0)
  have el3 := s3 _ _ (s2 _ _ el)
  refine ⟨_, rfl, .inl ⟨rfl, _, SqL.of el3⟩, l, _, _, rfl, rfl, el3, ?_, ?_⟩
  · rw [List.length_map, way, wayN_len]; exact small1000 (by omega)
  have s04 : Same H (upd H3 l (.lst ((way rs ks sv).map V.int ++ [V.int 0]))) := fun b o e => by rw [upd_ne (ne_of_none e hl)]; exact s03 b o e
  generalize upd H3 l (.lst ((way rs ks sv).map V.int ++ [V.int 0])) = H4 at s04 ⊢
  -- path(given, state) != there
  refine ⟨_, rfl, x, dx, _, rfl, s04 _ _ hx, mf_path _ _ _ _, _, rfl, _, rfl, x, gi, .int sv, rfl, row_done (mac s04) pt (hgi.same s04) hix kl hs0 hs1 (.inr rfl) fun l5 H5 hl5 s5 el5 => ?_⟩
  have s05 := s04.trans s5
  refine ⟨_, rfl, _, _, dpL el5, dpL (s05 _ _ hth), shaped_ints _, shaped_ints _, _, rfl, ?_⟩
  rw [PySem.SeqAt.eqv_refl _ (ints_l _)]
  refine iteF ?_
  refine ⟨_, rfl, x, dx, _, rfl, s05 _ _ hx, mf_after _ _ _ _, _, rfl, _, rfl, x, gi, .int sv, rfl, row_done (mac s05) pt (hgi.same s05) hix kl hs0 hs1 (.inr rfl) fun H6 s6 => ?_⟩
  have s06 := s05.trans s6
  refine ⟨_, rfl, 1, rfl, th, _, _, _, rfl, rfl, SqL.of (s06 _ _ hth), (by rw [way_eq]; exact at_last), _, _, .int _, .int _, shaped_int _, shaped_int _, _, rfl, ?_⟩
  rw [PySem.SeqAt.eqv_refl _ rfl]
  refine iteF ?_
  -- told(given) != tells[here[-1]]
  refine ⟨_, rfl, x, dx, _, rfl, s06 _ _ hx, mf_told _ _ _ _, _, rfl, x, gi, rfl, row_done (mac s06) pt (hgi.same s06) hix kl pt.st.1 pt.st.2 (.inl ⟨rfl, rfl⟩) fun H7 s7 => ?_⟩
  have s07 := s06.trans s7
  have m7 := mn.same s07
  obtain ⟨t', r', l', as', ep, et, er, el', hR⟩ := m7.pl.ex
  have hl0 := pt.led hix pt.st.1 pt.st.2
  have hz : ss.getD (led rs ks st).toNat "" ∈ ss := List.mem_of_getElem? (getD_get ("" : Str) (by have := pt.tl.1; omega))
  refine ⟨_, rfl, p, _, rfl, gTells ep, _, rfl, 1, rfl, he, _, _, _, rfl, rfl, SqL.of (s07 _ _ hhe), (by rw [way_eq]; exact at_last), l', _, _, _, rfl, rfl, SqL.of el', at_deed hl0.1 (by rw [pt.tl.1]; exact hl0.2), _, _, .str _, .str _, shaped_str oss hz, shaped_str oss hz, _, rfl, ?_⟩
  rw [PySem.SeqAt.eqv_refl _ (by rw [PyData.canLay0]; exact oss _ hz)]
  refine iteF ?_
  refine hq9 D _ v0 v2 v6 _ _ _ _ v14 v15 v16 v17 v18 v19 v20 x na ro sv d cc dl p n ws rs ss st ks lw m7 pt h12 hlw hix hkl hn hs0 hs1 (hna.ext s07) (s07 _ _ hro) fun w14 w15 w16 w17 w18 w19 n' H' p' hn' k' T' => ?_
  exact done _ _ _ _ _ _ _ n' H' p' hn' ((Kept.same s07).n.trans k') T'
end
end K1
set_option Elab.async false
set_option linter.all false
set_option maxRecDepth 100000
/-! the law's round, from its begin -/
namespace K1
open PySem L2 LamX
section
variable {P : Program} {w : World} {K : PySem.W.Frag} {mg : Str → Option Value} {base : Heap} {C CB CN CL : Addr} {T : List (Addr × Str)}
theorem round_ok (F : Fs P w K mg base C CB CN CL T) (f c pT : Addr) (A : Around) (outer : List Env) (s : Shared) (H0 : Hp) (E : XK) (hr : Room 8 (A.deeper (PyProof.Rows.envOfC "law" (defScope sLaw) s.heap.objs.size f (.ref c))))
    (TB : TabB base mg c pT) (mem : (pT, qLaw) ∈ T) (uni : ∀ p ∈ T, p.1 = pT → p.2 = qLaw) :
    ∃ t, PSs (cxOf CX0 P w K mg base nLaw "law" (defScope sLaw) f (.ref c) A outer s H0 E).nox inBody t ∧
      ∀ (D : Ends) (H : Hp) (v0 v2 v6 v7 v8 v9 v10 v11 v12 v13 v14 v15 v16 v17 v18 v19 v20 : Option V) (x : Addr) (d cc dl p : Addr) (n : Nat) (ws : List Str) (rs : List (List Int)) (ss : List Str) (st : Int) (lw : Nat),
        Mn K C T H d cc n dl p x ws rs ss st → Parts ws rs ss st → rs.length ≤ 12 → (∀ z ∈ ws, z.cps.toList.length = lw) → n ≤ 400000 →
        (∀ (v7 v8 v9 v10 v11 v12 v13 v14 v15 v16 v17 v18 v19 v20 : Option V) (n' : Nat) (H' : Hp), PenAt H' d cc n' → n' ≤ n + 100 → KeptN d H H' → Tabs T H' → D.nx [v0, some (.ref d), v2, some (.ref dl), some (.ref p), some (.ref x), v6, v7, v8, v9, v10, v11, v12, v13, v14, v15, v16, v17, v18, v19, v20] H') →
        t D [v0, some (.ref d), v2, some (.ref dl), some (.ref p), some (.ref x), v6, v7, v8, v9, v10, v11, v12, v13, v14, v15, v16, v17, v18, v19, v20] H := by
  obtain ⟨t4, ht4, hq4⟩ := back_ok F f c pT A outer s H0 E hr TB mem uni
  obtain ⟨T2, M, _, ⟨fD, fdD, mgD, kpD, bD, GD⟩, _, _, _, _, ⟨fN, fdN, mgN, kpN, bN, GN⟩, ⟨fW, fdW, mgW, kpW, bW, GW⟩, _, _, _, _, _, _, _, _, _⟩ := F
  have T1 : Bt mg := T2.toBt
  have hr1 : Room 1 (cxOf CX0 P w K mg base nLaw "law" (defScope sLaw) f (.ref c) A outer s H0 E).nox.A := hr.mono (by decide)
  have hr2 : Room 2 (cxOf CX0 P w K mg base nLaw "law" (defScope sLaw) f (.ref c) A outer s H0 E).nox.A := hr.mono (by decide)
  have hu := hu_of hr
  obtain ⟨t3, ht3, hq3⟩ : ∃ t3, PSs (cxOf CX0 P w K mg base nLaw "law" (defScope sLaw) f (.ref c) A outer s H0 E).nox (inBody.drop 3) t3 ∧
      ∀ (D : Ends) (H : Hp) (v0 v2 v6 v11 v12 v13 v14 v15 v16 v17 v18 v19 v20 : Option V) (x na ro gi : Addr) (sv : Int) (d cc dl p : Addr) (n : Nat) (ws : List Str) (rs : List (List Int)) (ss : List Str) (st : Int) (ks : List Int) (lw : Nat),
        Mn K C T H d cc n dl p x ws rs ss st → Parts ws rs ss st → rs.length ≤ 12 → (∀ z ∈ ws, z.cps.toList.length = lw) → Ix ws.length ks → ks.length ≤ 40 → n ≤ 500000 → 0 ≤ sv → sv < (rs.length : Int) →
        SqT K H na ((nm ws ks).map V.str) → H ro = some (.lst (ks.map V.int)) → Sq K H gi ((nm ws ks).map V.str) →
        (∀ (v11 v12 v13 v14 v15 v16 v17 v18 v19 : Option V) (n' : Nat) (H' : Hp), PenAt H' d cc n' → n' ≤ n + 10 → KeptN d H H' → Tabs T H' → D.nx [v0, some (.ref d), v2, some (.ref dl), some (.ref p), some (.ref x), v6, some (.ref ro), some (.ref na), some (.int sv), some (.ref gi), v11, v12, v13, v14, v15, v16, v17, v18, v19, v20] H') →
        t3 D [v0, some (.ref d), v2, some (.ref dl), some (.ref p), some (.ref x), v6, some (.ref ro), some (.ref na), some (.int sv), some (.ref gi), v11, v12, v13, v14, v15, v16, v17, v18, v19, v20] H := by
    refine ⟨_, pss_cons (ps_par (i := 11) (j := 12) (by rfl) scLaw.nd rfl rfl (by decide) rfl rfl (pa_cons (pe_call GW hr2 rfl mgW kpW bW .nil pass0 (pa_cons (pv 4) (pa_cons (pv 7) (pa_cons (pe_dget hu (pv 4) pe_str (fun _ _ => rfl)) pa_nil))))
            (pa_cons (pe_call GW hr2 rfl mgW kpW bW .nil pass0 (pa_cons (pv 4) (pa_cons (pv 7) (pa_cons (pv 9) pa_nil)))) pa_nil)) (by rfl))
        ht4, ?_⟩
    intro D H v0 v2 v6 v11 v12 v13 v14 v15 v16 v17 v18 v19 v20 x na ro gi sv d cc dl p n ws rs ss st ks lw mn pt h12 hlw hix hkl hn sv0 sv1 hna hro hgi done
    obtain ⟨t2, r2, l2, as2, ep2, _⟩ := mn.pl.ex
    refine ⟨_, rfl, _, rfl, _, rfl, p, _, rfl, gStart ep2, p, ro, st, ws, rs, ss, st, ks, rfl, mn.pl, pt, SqL.of hro, hix, by omega, pt.st.1, pt.st.2, fun he H9 hhe s9 ehe => ?_⟩
    have m9 := mn.same s9
    refine ⟨_, rfl, _, rfl, _, rfl, p, ro, sv, ws, rs, ss, st, ks, rfl, m9.pl, pt, SqL.of (s9 _ _ hro), hix, by omega, sv0, sv1, fun th H10 hth s10 eth => ?_⟩
    have sAll := s9.trans s10
    refine ⟨_, _, rfl, ?_⟩
    refine hq4 D _ v0 v2 v6 v13 v14 v15 v16 v17 v18 v19 v20 x na ro gi he th sv d cc dl p n ws rs ss st ks lw (mn.same sAll) pt h12 hlw hix hkl hn sv0 sv1 (hna.ext sAll) (sAll _ _ hro) (hgi.same sAll) (s10 _ _ ehe) eth fun w13 w14 w15 w16 w17 w18 w19 n' H' p' hn' k' T' => ?_
    exact done _ _ _ _ _ _ _ _ _ n' H' p' hn' ((Kept.same sAll).n.trans k') T'
  refine ⟨_, pss_cons (ps_setLc (i := 7) (own := [("_law_k", 20)]) (g := gName 20) (by rfl) scLaw.nd rfl rfl (sw_true rfl rfl rfl (by decide +kernel))
          (pi_range1 rfl T1.range (pa_cons (pe_call GD hr1 rfl mgD kpD bD .nil pass0 (pa_cons (pv 1) (pa_cons pe_int pa_nil))) pa_nil))
          (blkOk_by (own := [("_law_k", 20)]) (N := nLaw) (sc := defScope sLaw) (by decide +kernel)) (fun _ _ _ _ _ => pg_name (i := 20) scLaw.nd rfl (Or.inl rfl)) (fun _ _ _ _ _ => pts_nil)
          (fun _ _ _ _ _ => pe_call GD hr1 rfl mgD kpD bD .nil pass0 (pa_cons (pv 1) (pa_cons (pe_callB (r := rLn K) call_len (by rfl) T1.len PySem.boot_len (pa_cons (pv 3) pa_nil)) pa_nil))))
      (pss_cons (ps_asg (pe_tup (pa_cons (pe_call GN hr1 rfl mgN kpN bN .nil pass0 (pa_cons (pv 3) (pa_cons (pv 7) pa_nil)))
            (pa_cons (pe_call GD hr1 rfl mgD kpD bD .nil pass0 (pa_cons (pv 1) (pa_cons (pe_callB call_len (by rfl) T1.len PySem.boot_len (pa_cons (pe_dget hu (pv 4) pe_str (fun _ _ => rfl)) pa_nil)) pa_nil))) pa_nil)))
          (pg_tup (by rfl) (pgs_cons (pg_name (i := 8) scLaw.nd rfl (Or.inr rfl)) (pgs_cons (pg_name (i := 9) scLaw.nd rfl (Or.inr rfl)) pgs_nil))))
      (pss_cons (ps_set (i := 10) scLaw.nd rfl (Or.inl rfl) (pe_ifExp (pt_cmpR op_eq (pe_call GD hr1 rfl mgD kpD bD .nil pass0 (pa_cons (pv 1) (pa_cons pe_int pa_nil))) pe_int (nomark _)) (pv 8)
          (pe_callTy (r := rLi K) call_list_of (by rfl) T1.list PyProof.Rows.boot_list (pa_cons (pv 8) pa_nil))))
        ht3)), ?_⟩
  intro D H v0 v2 v6 v7 v8 v9 v10 v11 v12 v13 v14 v15 v16 v17 v18 v19 v20 x d cc dl p n ws rs ss st lw mn pt h12 hlw hn done
  have wl := pt.gd.len
  have rl := pt.many
  -- the row
  refine ⟨_, rfl, d, cc, n, _, rfl, mn.pen, by omega, by decide, by decide, fun r H2 r0 r1 p2 k2 => ?_⟩
  obtain ⟨J, rfl⟩ : ∃ J : Nat, r = (J : Int) := ⟨r.toNat, by omega⟩
  have m2 := mn.kept k2 p2
  refine ⟨(J : Int), rfl, by omega, by omega, fun D2 hD2 => ?_⟩
  rw [Int.toNat_natCast]
  obtain ⟨n2d, n2c⟩ := p2.ne hD2
  refine lc_range (lo := 0) (n := J) (fun j H' => ∃ qs : List Int, qs.length = j ∧ Ix ws.length qs ∧ H' D2 = some (.lst (qs.map V.int)) ∧ PenAt H' d cc (n + 1 + j) ∧ Kept d H2 H') ?_ ?_ ?_
  · exact ⟨[], rfl, (fun k h => nomatch h), upd_same, p2.upd n2d n2c, (Kept.refl d H2).upd hD2⟩
  · rintro j H3 hj ⟨qs, hqs, hix, hD3, p3, k3⟩
    have dl3 := k3 _ _ m2.hdl (m2.n1 m2.hdl (fun _ z => by cases z))
    refine ⟨rfl, _, rfl, _, rfl, _, ws.length, rfl, .inl ⟨_, SqL.of dl3, (List.length_map _).symm⟩, d, cc, _, (ws.length : Int), rfl, p3, by omega, by omega, by omega, fun y H4 y0 y1 p4 k4 => ?_⟩
    refine ⟨_, k4 _ _ hD3 n2d, ?_, qs ++ [y], by simp [hqs], fun z hz => ?_, ?_, p4.upd n2d n2c, (k3.trans k4).upd hD2⟩
    · rw [List.length_map]; exact small1000 (by omega)
    · rcases List.mem_append.mp hz with h | h
      · exact hix z h
      · rw [List.mem_singleton.mp h]; exact ⟨y0, y1⟩
    · rw [upd_same, List.map_append]; rfl
  · rintro H3 ⟨ks, hqs, hix, hD3, p3, k3⟩
    have m3 := m2.kept k3 p3
    have k03 : KeptN d H H3 := k2.n.trans k3.n
    -- named, state
    refine ⟨_, rfl, _, rfl, dl, D2, ws, ks, rfl, SqL.of m3.hdl, SqL.of hD3, hix, by omega, fun na H4 hna s4 ena => ?_⟩
    have m4 := m3.same s4
    have nna := (m3.pen.ne hna).1
    obtain ⟨t', r', l', as', ep, et, er, el', hR⟩ := m4.pl.ex
    refine ⟨_, rfl, _, rfl, p, _, rfl, gRows ep, _, rs.length, rfl, .inl ⟨_, SqL.of er, by rw [List.length_map, hR.1]⟩, d, cc, _, (rs.length : Int), rfl, m4.pen, by omega, by omega, by omega, fun sv H5 sv0 sv1 p5 k5 => ?_⟩
    have m5 := m4.kept k5 p5
    refine ⟨Nat.le_of_ble_eq_true rfl, fun tp htp => ?_⟩
    have s6 := same_upd (o := .tup [V.ref na, V.int sv]) htp
    have m6 := m5.same s6
    have hna6 := s6 _ _ (k5 _ _ ena nna)
    have hD6 := s6 _ _ (k5 _ _ (s4 _ _ hD3) n2d)
    have k06 : KeptN d H _ := k03.trans ((Kept.same s4).n.trans (k5.n.trans (Kept.same s6).n))
    refine ⟨tp, _, rfl, SqT.of upd_same, rfl, _, _, rfl, _, _, rfl, rfl, ?_⟩
    generalize upd H5 tp (.tup [V.ref na, V.int sv]) = H6 at m6 hna6 hD6 k06 ⊢
    -- given
    refine ⟨_, rfl, d, cc, _, 2, rfl, m6.pen, by omega, by decide, by decide, fun g H7 g0 g1 p7 k7 => ?_⟩
    have m7 := m6.kept k7 p7
    have hna7 := k7 _ _ hna6 nna
    have hD7 := k7 _ _ hD6 n2d
    have k07 := k06.trans k7.n
    refine ⟨rfl, _, rfl, ?_⟩
    refine ite2 (fun _ => ⟨_, rfl, ?_⟩) (fun _ => ⟨_, rfl, na, _, rfl, .inr (SqT.of hna7), fun l hl => ?_⟩)
    · exact hq3 D H7 v0 v2 v6 v11 v12 v13 v14 v15 v16 v17 v18 v19 v20 x na D2 na sv d cc dl p _ ws rs ss st ks lw m7 pt h12 hlw hix (by omega) (by omega) sv0 sv1 (SqT.of hna7) hD7 (.inr (SqT.of hna7)) fun w11 w12 w13 w14 w15 w16 w17 w18 w19 n' H' p' hn' k' T' =>
        done _ _ _ _ _ _ _ _ _ _ _ _ _ _ n' H' p' (by omega) (k07.trans k') T'
    · have s8 := same_upd (o := .lst ((nm ws ks).map V.str)) hl
      exact hq3 D _ v0 v2 v6 v11 v12 v13 v14 v15 v16 v17 v18 v19 v20 x na D2 l sv d cc dl p _ ws rs ss st ks lw (m7.same s8) pt h12 hlw hix (by omega) (by omega) sv0 sv1 (SqT.of (s8 _ _ hna7)) (s8 _ _ hD7) (.inl (SqL.of upd_same)) fun w11 w12 w13 w14 w15 w16 w17 w18 w19 n' H' p' hn' k' T' =>
        done _ _ _ _ _ _ _ _ _ _ _ _ _ _ n' H' p' (by omega) (k07.trans ((Kept.same s8).n.trans k')) T'
end
end K1
set_option Elab.async false
set_option linter.all false
set_option maxRecDepth 100000
/-! the law -/
namespace K1
open PySem L2 LamX
def spLaw (K : PySem.W.Frag) (T : List (Addr × Str)) : Sp := fun vs H Q _ => ∃ (a : Addr) (ns : List Int), vs = [.ref a] ∧ SqL K H a (ns.map V.int) ∧ ns.length ≤ 63 ∧ Tabs T H ∧ ∀ H', Q (.bl true) H'
def menu : List Str := ["yes", "no", "x/1"]
theorem menu_ok : ∀ z ∈ menu, 1 ≤ z.cps.toList.length ∧ z.cps.toList.length ≤ 60 ∧ ∀ x ∈ z.cps.toList, x ∈ TL' := by decide +kernel
theorem menu_tl {z : Str} (h : z ∈ menu) : Tl z := menu_ok z h
section
variable {P : Program} {w : World} {K : PySem.W.Frag} {mg : Str → Option Value} {base : Heap} {C CB CN CL : Addr} {T : List (Addr × Str)}
theorem ok_law (F : Fs P w K mg base C CB CN CL T) {f c pT : Addr} {fd : FuncData} (FL : FunC K "law" "law" sLaw f fd c) (TB : TabB base mg c pT) (mem : (pT, qLaw) ∈ T) (uni : ∀ p ∈ T, p.1 = pT → p.2 = qLaw) : FnOk P w K mg base CX0 9 f fd ["_law_script"] (spLaw K T) := by
  refine FL.ok scLaw (fun vs H Q E h => ?_) (fun A outer s H vs Q E hr h => ?_)
  · obtain ⟨a, ns, rfl, _⟩ := h
    rfl
  · obtain ⟨a, ns, rfl, ha, hns, hT, k⟩ := h
    obtain ⟨tR, htR, hqR⟩ := round_ok F f c pT A outer s H E hr TB mem uni
    obtain ⟨T2, M, ⟨fE, fdE, mgE, kpE, bE, GE⟩, ⟨fD, fdD, mgD, kpD, bD, GD⟩, _, ⟨fW, fdW, mgW, kpW, bW, GW⟩, ⟨fL, fdL, mgL, kpL, bL, GL⟩, ⟨fM, fdM, mgM, kpM, bM, GM⟩, _, _, _, _, _, _, _, _, _, _, _⟩ := F
    have T1 : Bt mg := T2.toBt
    have hr1 : Room 1 (cxOf CX0 P w K mg base nLaw "law" (defScope sLaw) f (.ref c) A outer s H E).nox.A := hr.mono (by decide)
    have hr3 : Room 3 (cxOf CX0 P w K mg base nLaw "law" (defScope sLaw) f (.ref c) A outer s H E).nox.A := hr.mono (by decide)
    have hr7 : Room 7 (cxOf CX0 P w K mg base nLaw "law" (defScope sLaw) f (.ref c) A outer s H E).nox.A := hr.mono (by decide)
    refine ⟨_, pss_cons (ps_set (i := 1) scLaw.nd rfl (Or.inr rfl) (pe_call GE hr1 rfl mgE kpE bE .nil pass0 (pa_cons (pv 0) pa_nil)))
      (pss_cons (ps_for PassesOwn.never rfl (pi_range1 rfl T1.range (pa_cons (pe_op op_add pe_int (pe_callB (call_min2 rfl) (by rfl) T2.min PyProof.Rows.boot_min (pa_cons pe_int (pa_cons (pe_callB call_len (by rfl) T1.len PySem.boot_len (pa_cons (pv 0) pa_nil)) pa_nil)))) pa_nil)) (pg_name (i := 2) scLaw.nd rfl (Or.inl rfl))
        (pss_cons (ps_set (i := 3) scLaw.nd rfl (Or.inr rfl) (pe_call GW hr3 rfl mgW kpW bW .nil pass0 (pa_cons (pv 1) (pa_cons (pe_op op_add pe_int (pe_call GD hr1 rfl mgD kpD bD .nil pass0 (pa_cons (pv 1) (pa_cons pe_int pa_nil)))) pa_nil))))
        (pss_cons (ps_set (i := 4) scLaw.nd rfl (Or.inl rfl) (pe_call GL hr3 rfl mgL kpL bL .nil pass0 (pa_cons (pv 1) (pa_cons (pv 3) (pa_cons pe_int (pa_cons (pe_lst (pa_cons pe_str (pa_cons pe_str (pa_cons pe_str pa_nil)))) pa_nil))))))
        (pss_cons (ps_set (i := 5) scLaw.nd rfl (Or.inr rfl) (pe_call GM hr7 rfl mgM kpM bM .nil pass0 (pa_cons (pv 4) pa_nil)))
        (pss_one (ps_for PassesOwn.never rfl (pi_range1 rfl T1.range (pa_cons pe_int pa_nil)) (pg_name (i := 6) scLaw.nd rfl (Or.inl rfl)) htR))))))
      (pss_one (ps_ret pe_bl))), ?_⟩
    refine ⟨_, rfl, a, ns, rfl, ha, hns, fun d cc Hs hd0 hc0 hpen0 sm0 => ?_⟩
    refine ⟨_, rfl, _, ns.length, rfl, .inl ⟨_, sm0.seq ha, (List.length_map _).symm⟩, _, _, rfl, _, _, rfl, rfl, ?_⟩
    obtain ⟨J, eJ, hJ⟩ : ∃ J : Nat, (2 + (if (ns.length : Int) < 3 then (ns.length : Int) else 3)) = (J : Int) ∧ J ≤ 5 := by
      by_cases h : (ns.length : Int) < 3
      · rw [if_pos h]; exact ⟨2 + ns.length, by omega, by omega⟩
      · rw [if_neg h]; exact ⟨5, by omega, by omega⟩
    refine ⟨(J : Int), by rw [← eJ], by omega, by omega, ?_⟩
    rw [Int.toNat_natCast]
    refine for_range (lo := 0) (n := J) (fun i σ H' => ∃ (v2 v3 v4 v5 v6 v7 v8 v9 v10 v11 v12 v13 v14 v15 v16 v17 v18 v19 v20 : Option V) (n : Nat), σ = [some (.ref a), some (.ref d), v2, v3, v4, v5, v6, v7, v8, v9, v10, v11, v12, v13, v14, v15, v16, v17, v18, v19, v20] ∧ PenAt H' d cc n ∧ n ≤ 1000 * i ∧ Tabs T H') ?_ ?_ ?_
    · exact ⟨_, _, _, _, _, _, _, _, _, _, _, _, _, _, _, _, _, _, _, 0, rfl, hpen0, Nat.le_refl _, hT.same sm0⟩
    · rintro i σ H1 hi ⟨v2, v3, v4, v5, v6, v7, v8, v9, v10, v11, v12, v13, v14, v15, v16, v17, v18, v19, v20, n, rfl, hp1, hn, T1'⟩
      -- deeds
      refine ⟨_, rfl, _, rfl, d, cc, n, 4, rfl, hp1, by omega, by decide, by decide, fun r0 H2 r00 r01 hp2 kp2 => ⟨_, _, rfl, rfl, ?_⟩⟩
      obtain ⟨M', eM, hM'⟩ : ∃ M' : Nat, 1 + r0 = (M' : Int) ∧ (1 ≤ M' ∧ M' ≤ 4) := ⟨(1 + r0).toNat, by omega, by omega, by omega⟩
      refine ⟨d, cc, n + 1, M', by show [V.ref d, V.int (1 + r0)] = _; rw [eM], hp2, by omega, by omega, fun dl ws H3 hdl0 hdl3 hwl hnd hwd heq hp3 kp3 => ?_⟩
      obtain ⟨lw, hlw⟩ := heq
      have gd : GoodD ws := ⟨hnd, hwd, by omega, by omega⟩
      have T3 : Tabs T H3 := (T1'.pen hp1 kp2).pen hp2 kp3
      have ndl : dl ≠ d := (hp2.ne hdl0).1
      -- plain
      refine ⟨_, rfl, _, rfl, Nat.le_of_ble_eq_true rfl, fun lm hlm => ?_⟩
      have s4 := same_upd (o := .lst [V.str "yes", V.str "no", V.str "x/1"]) hlm
      have hlm4 : upd H3 lm (.lst [V.str "yes", V.str "no", V.str "x/1"]) lm = some (.lst (menu.map V.str)) := upd_same
      have nlm := (hp3.ne hlm).1
      have hp4 := hp3.same s4
      have hdl4 := s4 _ _ hdl3
      have T4 := T3.same s4
      generalize upd H3 lm (.lst [V.str "yes", V.str "no", V.str "x/1"]) = H4 at s4 hlm4 hp4 hdl4 T4 ⊢
      refine ⟨d, cc, dl, lm, _, 8, ws, menu, rfl, hp4, by omega, SqL.of hdl4, ndl, by omega, SqL.of hlm4, nlm, by decide, by decide, by decide, by decide, fun p rs ss st H5 hp0 pl gp hp5 kp5 => ?_⟩
      have npd := (hp4.ne hp0).1
      have pt : Parts ws rs ss st := ⟨gd, ⟨gp.many.1, by have := gp.many.2; omega⟩, gp.row, ⟨gp.tl.1, fun z hz => menu_tl (gp.tl.2 z hz)⟩, gp.st⟩
      have T5 := T4.pen hp4 kp5
      have hdl5 := kp5 _ _ hdl4 ndl
      -- made
      refine ⟨_, rfl, p, ws, rs, ss, st, rfl, pl, pt, fun x H6 hx0 mac s6 => ?_⟩
      have mn : Mn K C T H6 d cc _ dl p x ws rs ss st := ⟨hp5.same s6, s6 _ _ hdl5, npd, pl.same s6, mac, T5.same s6⟩
      -- four rounds
      refine ⟨4, rfl, by decide, by decide, for_range (n := 4) (fun i' σ H' => ∃ (v6 v7 v8 v9 v10 v11 v12 v13 v14 v15 v16 v17 v18 v19 v20 : Option V) (n' : Nat), σ = [some (.ref a), some (.ref d), some (.int (0 + (i : Int))), some (.ref dl), some (.ref p), some (.ref x), v6, v7, v8, v9, v10, v11, v12, v13, v14, v15, v16, v17, v18, v19, v20] ∧ Mn K C T H' d cc n' dl p x ws rs ss st ∧ n' ≤ n + 421 + 100 * i') ?_ ?_ ?_⟩
      · exact ⟨_, _, _, _, _, _, _, _, _, _, _, _, _, _, _, _, rfl, mn, by omega⟩
      · rintro i' σ H7 hi' ⟨v6, v7, v8, v9, v10, v11, v12, v13, v14, v15, v16, v17, v18, v19, v20, n7, rfl, m7, hn7⟩
        refine hqR _ H7 _ _ _ v7 v8 v9 v10 v11 v12 v13 v14 v15 v16 v17 v18 v19 v20 x d cc dl p n7 ws rs ss st lw m7 pt gp.many.2 hlw (by omega) fun w7 w8 w9 w10 w11 w12 w13 w14 w15 w16 w17 w18 w19 w20 n8 H8 p8 hn8 k8 T8 => ?_
        exact ⟨_, _, _, _, _, _, _, _, _, _, _, _, _, _, _, n8, rfl, m7.go k8 p8 T8, by omega⟩
      · rintro σ H7 ⟨v6, v7, v8, v9, v10, v11, v12, v13, v14, v15, v16, v17, v18, v19, v20, n7, rfl, m7, hn7⟩
        exact ⟨_, _, _, _, _, _, _, _, _, _, _, _, _, _, _, _, _, _, _, n7, rfl, m7.pen, by omega, m7.tab⟩
    · rintro σ H1 _
      exact k H1
end
end K1
set_option Elab.async false
set_option linter.all false
set_option maxRecDepth 100000
/-! the end of a law whose defs make lambdas: the tables of all defs -/
namespace K1
open PySem PySem.Spec PyProof.Rows L2 LamX
/-- the code object of each def of the text and its table, still empty -/
def OwnTabs (q : Program) (mg : Str → Option Value) (h : Heap) : Prop :=
  ∀ e ∈ recsOf q, ∃ (f : Addr) (o : Obj) (fd : FuncData) (c P : Addr), mg e.name = some (.ref f) ∧ h.get? f = some o ∧ o.data = .func fd ∧ fd.code = .ref c ∧ PySem.W.CodeHd h c P ∧ h.get? P = some { cls := .none, data := .fields #[] }
theorem tab_at {q : Program} {mg : Str → Option Value} {K : PySem.W.Frag} {h : Heap} {x : Str} {f c P : Addr} {oc e : Value} {od dd : Option Addr} {fd : FuncData} {sl s2 : Array (Option Value)} {vs : Array Value} (X : K.In h) (O : OwnTabs q mg h) (hx : ((recsOf q).any fun e => e.name == x) = true)
    (g : mg x = some (.ref f)) (l : K.lookup f = some ⟨oc, od, .func fd, sl⟩) (hc : fd.code = .ref c) (lc : K.lookup c = some ⟨e, dd, .fields vs, s2⟩) (h11 : vs[11]? = some (.ref P)) : PySem.W.CodeHd h c P ∧ h.get? P = some { cls := .none, data := .fields #[] } := by
  obtain ⟨r, hr, er⟩ := List.any_eq_true.mp hx
  obtain ⟨f', o, fd', c', P', a1, a2, a3, a4, a5, a6⟩ := O r hr
  rw [beq_iff_eq.mp er, g] at a1
  cases a1
  rw [X _ _ l] at a2
  cases a2
  cases a3
  rw [hc] at a4
  cases a4
  obtain ⟨o, ws, _, _, _, _, _, _, _, b1, _, b3, b4, _⟩ := id a5
  rw [X _ _ lc] at b1
  cases b1
  cases b3
  rw [h11] at b4
  cases b4
  exact ⟨a5, a6⟩
theorem walk_tabs {l : PySem.W.OpenLaw} {n k : Nat} {q : Program} {loose : List Str} {XP : (Str → Option Value) → Heap → Prop} {YP : World → Heap → Prop} {d : DefRec} {K : Params → PySem.W.Frag} {CX : World → CXT} {x : Str}
    (hn : l.most = some n) (hs : n ≤ sizeLine) (hd : d.params.defaults = []) (hr : Room k callerA) (hY : ∀ (w : World) (h : Heap), YP w h → (K w.params).In h)
    (F : ∀ (w : World) (mg : Str → Option Value) (fa : Addr) (h : Heap), YP w h → (K w.params).In h → h.Ns mainGlobals mg → mg d.name = some (.ref fa) → OwnTabs q mg h → LawAtS l w (K w.params) (CX w) k n x mg fa h)
    (hC : ∀ (w : World) (H : Hp) (s : Shared) (e : Value) (s' : Shared), CX w [] H s (fun _ _ _ => False) e s' → False) :
    PySem.W.WalkO q loose XP YP l.row.toRowW d [] (fun f vs => PySem.call f vs) := by
  refine Att.attach_callB hn hd ?_
  intro w s₀ s₁ mg mb fa o pm cd doc a vs ns G Y ho hdt hcd hmg hobj hints hlen hbits hg
  have tabs : OwnTabs q mg s₁.heap := fun e he => by
    obtain ⟨f, o, fd, c, P, b1, b2, b3, b4, b5, b6⟩ := G.T.tab e he
    exact ⟨f, o, fd, c, P, b1, b2, b3, b4, PySem.W.CodeHd.of b5 b6, b6.2⟩
  obtain ⟨fd, cs, sp, t1, t2, t3, b, s, f⟩ := F w mg fa _ Y (hY w _ Y) G.T.g hmg tabs
  exact law_callTs (hY w _ Y) G.T.g G.T.b G.T.builtins G.T.nolimit hg t1 t2 t3 G.T.bmain hobj hints (Nat.le_trans hlen hs) hr f b (fun H hH hS => s H a ns hlen hbits hH hS) fun H e s' => hC w H s₁ e s'
theorem exm_of {K : PySem.W.Frag} {S N : Addr} {b : Bool} (h1 : PySem.W.subIn K (.ref N) (.type "BaseException") = some true) (h2 : PySem.W.isClsIn K N = true) (h3 : PySem.W.typeIn K (.ref N) = some (.type "type")) (h4 : PySem.W.subIn K (.ref S) (.ref N) = some b) :
    PySem.W.exmOne K (.ref S) (.ref N) = some b := by
  have e1 : (PySem.W.subIn K (.ref N) (.type "BaseException") == some true) = true := by rw [h1] <;> rfl
  have e2 : ((PySem.W.clsIn K N).isSome && PySem.W.typeIn K (.ref N) == some (.type "type")) = true := by
    have h2' : (PySem.W.clsIn K N).isSome = true := h2
    rw [h2', h3] <;> rfl
  show (if (PySem.W.subIn K (.ref N) (.type "BaseException") == some true) = true then (if ((PySem.W.clsIn K N).isSome && PySem.W.typeIn K (.ref N) == some (.type "type")) = true then PySem.W.subIn K (.ref S) (.ref N) else none) else none) = some b
  rw [if_pos e1, if_pos e2]
  exact h4
end K1
set_option Elab.async false
set_option linter.all false
set_option maxRecDepth 100000
namespace K1
open PySem PyProof.Rows L2 LamX
set_option maxHeartbeats 0 in
theorem all_mk {l : PySem.W.OpenLaw} {q : Program} {w : World} {K : PySem.W.Frag} {h : Heap} {mg : Str → Option Value}
    {E0 f1 f2 f3 f4 f5 f6 f7 f8 f9 f10 f11 cc11 pt11 f12 f13 f14 f15 f16 f17 f18 f19 f20 C f21 T21 f22 T22 f23 T23 f24 EB NB f25 EN NN f26 fa : Addr}
    {od1 an1 od2 an2 od3 an3 od4 an4 od5 an5 od6 an6 od7 an7 od8 an8 od9 an9 od10 an10 dd11c od11 an11 od12 an12 od13 an13 od14 an14 od15 an15 od16 an16 od17 an17 od18 an18 od19 an19 od20 an20 odT21 od21 an21 odT22 od22 an22 odT23 od23 an23 od24 an24 ddB od25 an25 ddN od26 an26 : Option Addr}
    {sl1 sl2 sl3 sl4 sl5 sl6 sl7 sl8 sl9 sl10 slc11 sl11 sl12 sl13 sl14 sl15 sl16 sl17 sl18 sl19 sl20 slT21 sl21 slT22 sl22 slT23 sl23 sl24 sl25 sl26 : Array (Option Value)}
    {oc1 kV1 dc1 pm1 ct1 cd1 oc2 kV2 dc2 pm2 ct2 cd2 oc3 kV3 dc3 pm3 ct3 cd3 oc4 kV4 dc4 pm4 ct4 cd4 oc5 kV5 dc5 pm5 ct5 cd5 oc6 kV6 dc6 pm6 ct6 cd6 oc7 kV7 dc7 pm7 ct7 cd7 oc8 kV8 dc8 pm8 ct8 cd8 oc9 kV9 dc9 pm9 ct9 cd9 oc10 kV10 dc10 pm10 ct10 cd10 ec11 oc11 kV11 dc11 pm11 ct11 oc12 kV12 dc12 pm12 ct12 cd12 oc13 kV13 dc13 pm13 ct13 cd13 oc14 kV14 dc14 pm14 ct14 cd14 oc15 kV15 dc15 pm15 ct15 cd15 oc16 kV16 dc16 pm16 ct16 cd16 oc17 kV17 dc17 pm17 ct17 cd17 oc18 kV18 dc18 pm18 ct18 cd18 oc19 kV19 dc19 pm19 ct19 cd19 oc20 kV20 dc20 pm20 ct20 cd20 ocT21 oc21 kV21 dc21 pm21 ct21 cd21 ocT22 oc22 kV22 dc22 pm22 ct22 cd22 ocT23 oc23 kV23 dc23 pm23 ct23 cd23 oc24 kV24 dc24 pm24 ct24 cd24 oc25 kV25 dc25 pm25 ct25 cd25 oc26 kV26 dc26 pm26 ct26 cd26 : Value}
    {m0B m1B m2B m3B m5B m0N m1N m2N m3N m5N : Option Value}
    {tc0 tc1 tc2 tc3 tc4 tc5 tc6 : Tok}
    {nT21 nT22 nT23 : Nat}
    {nmB qnB nmN qnN : Str}
    {bsB subB bsN subN : List Value}
    {snB snN : List Str}
    {abB abN : Bool}
    {colB colN : Option Bool}
    {vs11 : Array Value}
    (X : K.In h) (G : h.Ns mainGlobals mg) (hfa : mg "law" = some (.ref fa)) (O : OwnTabs q mg h)
    (a1 : PySem.W.nsIn K mainGlobals "_law_pen" = some (some (.ref f1)))
    (l1 : K.lookup f1 = some ⟨oc1, od1, .func (PySem.W.fnOf "_law_pen" "_law_pen" (defArgs sPen) (defBody sPen) (defScope sPen) .none kV1 dc1 pm1 an1 cd1 ct1), sl1⟩)
    (c1 : PySem.W.codeIn K (cd1) "_law_pen" = true)
    (k1 : PySem.W.keepIn K (.ref f1) = true)
    (a2 : PySem.W.nsIn K mainGlobals "_law_draw" = some (some (.ref f2)))
    (l2 : K.lookup f2 = some ⟨oc2, od2, .func (PySem.W.fnOf "_law_draw" "_law_draw" (defArgs sDraw) (defBody sDraw) (defScope sDraw) .none kV2 dc2 pm2 an2 cd2 ct2), sl2⟩)
    (c2 : PySem.W.codeIn K (cd2) "_law_draw" = true)
    (k2 : PySem.W.keepIn K (.ref f2) = true)
    (a3 : PySem.W.nsIn K mainGlobals "_law_pick" = some (some (.ref f3)))
    (l3 : K.lookup f3 = some ⟨oc3, od3, .func (PySem.W.fnOf "_law_pick" "_law_pick" (defArgs sPick) (defBody sPick) (defScope sPick) .none kV3 dc3 pm3 an3 cd3 ct3), sl3⟩)
    (c3 : PySem.W.codeIn K (cd3) "_law_pick" = true)
    (k3 : PySem.W.keepIn K (.ref f3) = true)
    (a4 : PySem.W.nsIn K mainGlobals "_law_words" = some (some (.ref f4)))
    (l4 : K.lookup f4 = some ⟨oc4, od4, .func (PySem.W.fnOf "_law_words" "_law_words" (defArgs sWords) (defBody sWords) (defScope sWords) .none kV4 dc4 pm4 an4 cd4 ct4), sl4⟩)
    (c4 : PySem.W.codeIn K (cd4) "_law_words" = true)
    (k4 : PySem.W.keepIn K (.ref f4) = true)
    (a5 : PySem.W.nsIn K mainGlobals "_law_named" = some (some (.ref f5)))
    (l5 : K.lookup f5 = some ⟨oc5, od5, .func (PySem.W.fnOf "_law_named" "_law_named" (defArgs sNamed) (defBody sNamed) (defScope sNamed) .none kV5 dc5 pm5 an5 cd5 ct5), sl5⟩)
    (c5 : PySem.W.codeIn K (cd5) "_law_named" = true)
    (k5 : PySem.W.keepIn K (.ref f5) = true)
    (a6 : PySem.W.nsIn K mainGlobals "_law_plain" = some (some (.ref f6)))
    (l6 : K.lookup f6 = some ⟨oc6, od6, .func (PySem.W.fnOf "_law_plain" "_law_plain" (defArgs sPlain) (defBody sPlain) (defScope sPlain) .none kV6 dc6 pm6 an6 cd6 ct6), sl6⟩)
    (c6 : PySem.W.codeIn K (cd6) "_law_plain" = true)
    (k6 : PySem.W.keepIn K (.ref f6) = true)
    (a7 : PySem.W.nsIn K mainGlobals "_law_made" = some (some (.ref f7)))
    (l7 : K.lookup f7 = some ⟨oc7, od7, .func (PySem.W.fnOf "_law_made" "_law_made" (defArgs sMade) (defBody sMade) (defScope sMade) .none kV7 dc7 pm7 an7 cd7 ct7), sl7⟩)
    (c7 : PySem.W.codeIn K (cd7) "_law_made" = true)
    (k7 : PySem.W.keepIn K (.ref f7) = true)
    (a8 : PySem.W.nsIn K mainGlobals "_law_led" = some (some (.ref f8)))
    (l8 : K.lookup f8 = some ⟨oc8, od8, .func (PySem.W.fnOf "_law_led" "_law_led" (defArgs sLed) (defBody sLed) (defScope sLed) .none kV8 dc8 pm8 an8 cd8 ct8), sl8⟩)
    (c8 : PySem.W.codeIn K (cd8) "_law_led" = true)
    (k8 : PySem.W.keepIn K (.ref f8) = true)
    (a9 : PySem.W.nsIn K mainGlobals "_law_way" = some (some (.ref f9)))
    (l9 : K.lookup f9 = some ⟨oc9, od9, .func (PySem.W.fnOf "_law_way" "_law_way" (defArgs sWay) (defBody sWay) (defScope sWay) .none kV9 dc9 pm9 an9 cd9 ct9), sl9⟩)
    (c9 : PySem.W.codeIn K (cd9) "_law_way" = true)
    (k9 : PySem.W.keepIn K (.ref f9) = true)
    (a10 : PySem.W.nsIn K mainGlobals "_law_refused" = some (some (.ref f10)))
    (l10 : K.lookup f10 = some ⟨oc10, od10, .func (PySem.W.fnOf "_law_refused" "_law_refused" (defArgs sRefused) (defBody sRefused) (defScope sRefused) .none kV10 dc10 pm10 an10 cd10 ct10), sl10⟩)
    (c10 : PySem.W.codeIn K (cd10) "_law_refused" = true)
    (k10 : PySem.W.keepIn K (.ref f10) = true)
    (a11 : PySem.W.nsIn K mainGlobals "law" = some (some (.ref f11)))
    (l11 : K.lookup f11 = some ⟨oc11, od11, .func (PySem.W.fnOf "law" "law" (defArgs sLaw) (defBody sLaw) (defScope sLaw) .none kV11 dc11 pm11 an11 (.ref cc11) ct11), sl11⟩)
    (c11 : PySem.W.codeIn K ((.ref cc11)) "law" = true)
    (k11 : PySem.W.keepIn K (.ref f11) = true)
    (lc11 : K.lookup cc11 = some ⟨ec11, dd11c, .fields vs11, slc11⟩)
    (h11 : vs11[11]? = some (.ref pt11))
    (np11 : K.lookup pt11 = none)
    (mr11 : ((recsOf q).any fun e => e.name == ("law" : Str)) = true)
    (a12 : PySem.W.nsIn K mainGlobals "is_integer" = some (some (.ref f12)))
    (l12 : K.lookup f12 = some ⟨oc12, od12, .func (PySem.W.fnOf "is_integer" "is_integer" (defArgs sIsInt) (defBody sIsInt) (defScope sIsInt) .none kV12 dc12 pm12 an12 cd12 ct12), sl12⟩)
    (c12 : PySem.W.codeIn K (cd12) "is_integer" = true)
    (k12 : PySem.W.keepIn K (.ref f12) = true)
    (a13 : PySem.W.nsIn K mainGlobals "is_index" = some (some (.ref f13)))
    (l13 : K.lookup f13 = some ⟨oc13, od13, .func (PySem.W.fnOf "is_index" "is_index" (defArgs sIsIndex) (defBody sIsIndex) (defScope sIsIndex) .none kV13 dc13 pm13 an13 cd13 ct13), sl13⟩)
    (c13 : PySem.W.codeIn K (cd13) "is_index" = true)
    (k13 : PySem.W.keepIn K (.ref f13) = true)
    (a14 : PySem.W.nsIn K mainGlobals "is_word" = some (some (.ref f14)))
    (l14 : K.lookup f14 = some ⟨oc14, od14, .func (PySem.W.fnOf "is_word" "is_word" (defArgs sIsWord) (defBody sIsWord) (defScope sIsWord) .none kV14 dc14 pm14 an14 cd14 ct14), sl14⟩)
    (c14 : PySem.W.codeIn K (cd14) "is_word" = true)
    (k14 : PySem.W.keepIn K (.ref f14) = true)
    (a15 : PySem.W.nsIn K mainGlobals "is_tell" = some (some (.ref f15)))
    (l15 : K.lookup f15 = some ⟨oc15, od15, .func (PySem.W.fnOf "is_tell" "is_tell" (defArgs sIsTell) (defBody sIsTell) (defScope sIsTell) .none kV15 dc15 pm15 an15 cd15 ct15), sl15⟩)
    (c15 : PySem.W.codeIn K (cd15) "is_tell" = true)
    (k15 : PySem.W.keepIn K (.ref f15) = true)
    (a16 : PySem.W.nsIn K mainGlobals "check_different" = some (some (.ref f16)))
    (l16 : K.lookup f16 = some ⟨oc16, od16, .func (PySem.W.fnOf "check_different" "check_different" (defArgs sCheckDiff) (defBody sCheckDiff) (defScope sCheckDiff) .none kV16 dc16 pm16 an16 cd16 ct16), sl16⟩)
    (c16 : PySem.W.codeIn K (cd16) "check_different" = true)
    (k16 : PySem.W.keepIn K (.ref f16) = true)
    (a17 : PySem.W.nsIn K mainGlobals "check_group" = some (some (.ref f17)))
    (l17 : K.lookup f17 = some ⟨oc17, od17, .func (PySem.W.fnOf "check_group" "check_group" (defArgs sCheckGroup) (defBody sCheckGroup) (defScope sCheckGroup) .none kV17 dc17 pm17 an17 cd17 ct17), sl17⟩)
    (c17 : PySem.W.codeIn K (cd17) "check_group" = true)
    (k17 : PySem.W.keepIn K (.ref f17) = true)
    (a18 : PySem.W.nsIn K mainGlobals "check_deeds" = some (some (.ref f18)))
    (l18 : K.lookup f18 = some ⟨oc18, od18, .func (PySem.W.fnOf "check_deeds" "check_deeds" (defArgs sCheckDeeds) (defBody sCheckDeeds) (defScope sCheckDeeds) .none kV18 dc18 pm18 an18 cd18 ct18), sl18⟩)
    (c18 : PySem.W.codeIn K (cd18) "check_deeds" = true)
    (k18 : PySem.W.keepIn K (.ref f18) = true)
    (a19 : PySem.W.nsIn K mainGlobals "check_rows" = some (some (.ref f19)))
    (l19 : K.lookup f19 = some ⟨oc19, od19, .func (PySem.W.fnOf "check_rows" "check_rows" (defArgs sCheckRows) (defBody sCheckRows) (defScope sCheckRows) .none kV19 dc19 pm19 an19 cd19 ct19), sl19⟩)
    (c19 : PySem.W.codeIn K (cd19) "check_rows" = true)
    (k19 : PySem.W.keepIn K (.ref f19) = true)
    (a20 : PySem.W.nsIn K mainGlobals "check_tells" = some (some (.ref f20)))
    (l20 : K.lookup f20 = some ⟨oc20, od20, .func (PySem.W.fnOf "check_tells" "check_tells" (defArgs sCheckTells) (defBody sCheckTells) (defScope sCheckTells) .none kV20 dc20 pm20 an20 cd20 ct20), sl20⟩)
    (c20 : PySem.W.codeIn K (cd20) "check_tells" = true)
    (k20 : PySem.W.keepIn K (.ref f20) = true)
    (aC : PySem.W.nsIn K mainGlobals "Machine" = some (some (.ref C)))
    (pgC : PySem.W.plainGet K C Str.empty = true)
    (hdC : PySem.W.hasDictIn K C = true)
    (poC : PySem.W.plainOver K C = true)
    (saC : PySem.W.findIn K (.ref C) "__setattr__" = some (some (.builtin "object.__setattr__")))
    (mkC : PySem.W.makesIn K C = true)
    (kcC : PySem.W.keepIn K (.ref C) = true)
    (nC_deeds : PySem.W.findIn K (.ref C) "deeds" = some none)
    (nC_rows : PySem.W.findIn K (.ref C) "rows" = some none)
    (nC_tells : PySem.W.findIn K (.ref C) "tells" = some none)
    (nC_start : PySem.W.findIn K (.ref C) "start" = some none)
    (a21 : PySem.W.findIn K (.ref C) "__init__" = some (some (.ref f21)))
    (i21 : PySem.W.isFn K (.ref f21) = true)
    (l21 : K.lookup f21 = some ⟨oc21, od21, .func (PySem.W.fnOf "__init__" "Machine.__init__" (defArgs sMInit) (defBody sMInit) (defScope sMInit) (.ref T21) kV21 dc21 pm21 an21 cd21 ct21), sl21⟩)
    (c21 : PySem.W.codeIn K (cd21) "Machine.__init__" = true)
    (k21 : PySem.W.keepIn K (.ref f21) = true)
    (lT21 : K.lookup T21 = some ⟨ocT21, odT21, .seq #[.int 0 tc0] nT21, slT21⟩)
    (a22 : PySem.W.findIn K (.ref C) "path" = some (some (.ref f22)))
    (i22 : PySem.W.isFn K (.ref f22) = true)
    (l22 : K.lookup f22 = some ⟨oc22, od22, .func (PySem.W.fnOf "path" "Machine.path" (defArgs sMPath) (defBody sMPath) (defScope sMPath) (.ref T22) kV22 dc22 pm22 an22 cd22 ct22), sl22⟩)
    (c22 : PySem.W.codeIn K (cd22) "Machine.path" = true)
    (k22 : PySem.W.keepIn K (.ref f22) = true)
    (lT22 : K.lookup T22 = some ⟨ocT22, odT22, .seq #[.none] nT22, slT22⟩)
    (a23 : PySem.W.findIn K (.ref C) "after" = some (some (.ref f23)))
    (i23 : PySem.W.isFn K (.ref f23) = true)
    (l23 : K.lookup f23 = some ⟨oc23, od23, .func (PySem.W.fnOf "after" "Machine.after" (defArgs sMAfter) (defBody sMAfter) (defScope sMAfter) (.ref T23) kV23 dc23 pm23 an23 cd23 ct23), sl23⟩)
    (c23 : PySem.W.codeIn K (cd23) "Machine.after" = true)
    (k23 : PySem.W.keepIn K (.ref f23) = true)
    (lT23 : K.lookup T23 = some ⟨ocT23, odT23, .seq #[.none] nT23, slT23⟩)
    (a24 : PySem.W.findIn K (.ref C) "told" = some (some (.ref f24)))
    (i24 : PySem.W.isFn K (.ref f24) = true)
    (l24 : K.lookup f24 = some ⟨oc24, od24, .func (PySem.W.fnOf "told" "Machine.told" (defArgs sMTold) (defBody sMTold) (defScope sMTold) .none kV24 dc24 pm24 an24 cd24 ct24), sl24⟩)
    (c24 : PySem.W.codeIn K (cd24) "Machine.told" = true)
    (k24 : PySem.W.keepIn K (.ref f24) = true)
    (a00 : PySem.W.nsIn K mainGlobals "LooksError" = some (some (.ref E0)))
    (aB : PySem.W.nsIn K mainGlobals "BadState" = some (some (.ref EB)))
    (xB : K.lookup EB = some (excClassObj nmB qnB EB NB bsB [.ref E0, .type "ValueError", .type "Exception", .type "BaseException", .type "object"] true snB subB abB colB ddB m0B m1B m2B m3B m5B "ValueError.__new__"))
    (saB : PySem.W.findIn K (.ref EB) "__setattr__" = some (some (.builtin "object.__setattr__")))
    (gaB : PySem.W.findIn K (.ref EB) "__getattribute__" = some (some (.builtin "BaseException.__getattribute__")))
    (ggB : PySem.W.findIn K (.ref EB) "__getattr__" = some none)
    (eB : PySem.W.subIn K (.ref EB) (.type "BaseException") = some true)
    (tB : PySem.W.typeIn K (.ref EB) = some (.type "type"))
    (kkB : PySem.W.keepIn K (.ref EB) = true)
    (hB : PySem.W.hasDictIn K EB = true)
    (iB : PySem.W.isClsIn K EB = true)
    (noB_state : PySem.W.findIn K (.ref EB) "state" = some none)
    (a25 : PySem.W.findIn K (.ref EB) "__init__" = some (some (.ref f25)))
    (t25 : PySem.W.typeIn K (.ref f25) = some (.type "function"))
    (l25 : K.lookup f25 = some ⟨oc25, od25, .func (PySem.W.fnOf "__init__" "BadState.__init__" (defArgs sBadState) (defBody sBadState) (defScope sBadState) .none kV25 dc25 pm25 an25 cd25 ct25), sl25⟩)
    (c25 : PySem.W.codeIn K (cd25) "BadState.__init__" = true)
    (k25 : PySem.W.keepIn K (.ref f25) = true)
    (aN : PySem.W.nsIn K mainGlobals "NoDeed" = some (some (.ref EN)))
    (xN : K.lookup EN = some (excClassObj nmN qnN EN NN bsN [.ref E0, .type "ValueError", .type "Exception", .type "BaseException", .type "object"] true snN subN abN colN ddN m0N m1N m2N m3N m5N "ValueError.__new__"))
    (saN : PySem.W.findIn K (.ref EN) "__setattr__" = some (some (.builtin "object.__setattr__")))
    (gaN : PySem.W.findIn K (.ref EN) "__getattribute__" = some (some (.builtin "BaseException.__getattribute__")))
    (ggN : PySem.W.findIn K (.ref EN) "__getattr__" = some none)
    (eN : PySem.W.subIn K (.ref EN) (.type "BaseException") = some true)
    (tN : PySem.W.typeIn K (.ref EN) = some (.type "type"))
    (kkN : PySem.W.keepIn K (.ref EN) = true)
    (hN : PySem.W.hasDictIn K EN = true)
    (iN : PySem.W.isClsIn K EN = true)
    (noN_index : PySem.W.findIn K (.ref EN) "index" = some none)
    (a26 : PySem.W.findIn K (.ref EN) "__init__" = some (some (.ref f26)))
    (t26 : PySem.W.typeIn K (.ref f26) = some (.type "function"))
    (l26 : K.lookup f26 = some ⟨oc26, od26, .func (PySem.W.fnOf "__init__" "NoDeed.__init__" (defArgs sNoDeed) (defBody sNoDeed) (defScope sNoDeed) .none kV26 dc26 pm26 an26 cd26 ct26), sl26⟩)
    (c26 : PySem.W.codeIn K (cd26) "NoDeed.__init__" = true)
    (k26 : PySem.W.keepIn K (.ref f26) = true)
    (sBB : PySem.W.subIn K (.ref EB) (.ref EB) = some true)
    (sNB : PySem.W.subIn K (.ref EN) (.ref EB) = some false)
    (sNN : PySem.W.subIn K (.ref EN) (.ref EN) = some true)
    (co_LETTERS : PySem.W.nsIn K mainGlobals "LETTERS" = some (some (.str zLE tc1)))
    (co_DIGITS : PySem.W.nsIn K mainGlobals "DIGITS" = some (some (.str zDG tc2)))
    (co_LONGEST_WORD : PySem.W.nsIn K mainGlobals "LONGEST_WORD" = some (some (.int 12 tc3)))
    (co_LONGEST_TELL : PySem.W.nsIn K mainGlobals "LONGEST_TELL" = some (some (.int 60 tc4)))
    (co_MOST_DEEDS : PySem.W.nsIn K mainGlobals "MOST_DEEDS" = some (some (.int 6 tc5)))
    (co_MOST_STATES : PySem.W.nsIn K mainGlobals "MOST_STATES" = some (some (.int 60 tc6)))
    (z_int : PySem.W.nsIn K mainGlobals "int" = some none)
    (z_len : PySem.W.nsIn K mainGlobals "len" = some none)
    (z_list : PySem.W.nsIn K mainGlobals "list" = some none)
    (z_range : PySem.W.nsIn K mainGlobals "range" = some none)
    (z_tuple : PySem.W.nsIn K mainGlobals "tuple" = some none)
    (z_isinstance : PySem.W.nsIn K mainGlobals "isinstance" = some none)
    (z_bool : PySem.W.nsIn K mainGlobals "bool" = some none)
    (z_str : PySem.W.nsIn K mainGlobals "str" = some none)
    (z_all : PySem.W.nsIn K mainGlobals "all" = some none)
    (z_enumerate : PySem.W.nsIn K mainGlobals "enumerate" = some none)
    (z_min : PySem.W.nsIn K mainGlobals "min" = some none)
    (z_repr : PySem.W.nsIn K mainGlobals "repr" = some none) :
    LawAtS l w K L2.CX0 9 63 "_law_script" mg fa h := by
  have e := (PySem.W.mg_of X G a11).symm.trans hfa
  cases e
  have D1 : Df K mg "_law_pen" sPen ["_law_script"] f1 _ := ⟨fun_mk (st := sPen) l1 c1 k1, PySem.W.mg_of X G a1, (fun_mk (st := sPen) l1 c1 k1).binds (ps := ["_law_script"]) fun _ _ _ _ _ _ us hl => match us, hl with | [_], _ => rfl⟩
  have D2 : Df K mg "_law_draw" sDraw ["_law_pen_here", "_law_many"] f2 _ := ⟨fun_mk (st := sDraw) l2 c2 k2, PySem.W.mg_of X G a2, (fun_mk (st := sDraw) l2 c2 k2).binds (ps := ["_law_pen_here", "_law_many"]) fun _ _ _ _ _ _ us hl => match us, hl with | [_, _], _ => rfl⟩
  have D3 : Df K mg "_law_pick" sPick ["_law_pen_here", "_law_some"] f3 _ := ⟨fun_mk (st := sPick) l3 c3 k3, PySem.W.mg_of X G a3, (fun_mk (st := sPick) l3 c3 k3).binds (ps := ["_law_pen_here", "_law_some"]) fun _ _ _ _ _ _ us hl => match us, hl with | [_, _], _ => rfl⟩
  have D4 : Df K mg "_law_words" sWords ["_law_pen_here", "_law_many"] f4 _ := ⟨fun_mk (st := sWords) l4 c4 k4, PySem.W.mg_of X G a4, (fun_mk (st := sWords) l4 c4 k4).binds (ps := ["_law_pen_here", "_law_many"]) fun _ _ _ _ _ _ us hl => match us, hl with | [_, _], _ => rfl⟩
  have D5 : Df K mg "_law_named" sNamed ["_law_deeds", "_law_row"] f5 _ := ⟨fun_mk (st := sNamed) l5 c5 k5, PySem.W.mg_of X G a5, (fun_mk (st := sNamed) l5 c5 k5).binds (ps := ["_law_deeds", "_law_row"]) fun _ _ _ _ _ _ us hl => match us, hl with | [_, _], _ => rfl⟩
  have D6 : Df K mg "_law_plain" sPlain ["_law_pen_here", "_law_deeds", "_law_most", "_law_tells"] f6 _ := ⟨fun_mk (st := sPlain) l6 c6 k6, PySem.W.mg_of X G a6, (fun_mk (st := sPlain) l6 c6 k6).binds (ps := ["_law_pen_here", "_law_deeds", "_law_most", "_law_tells"]) fun _ _ _ _ _ _ us hl => match us, hl with | [_, _, _, _], _ => rfl⟩
  have D7 : Df K mg "_law_made" sMade ["_law_plain_here"] f7 _ := ⟨fun_mk (st := sMade) l7 c7 k7, PySem.W.mg_of X G a7, (fun_mk (st := sMade) l7 c7 k7).binds (ps := ["_law_plain_here"]) fun _ _ _ _ _ _ us hl => match us, hl with | [_], _ => rfl⟩
  have D8 : Df K mg "_law_led" sLed ["_law_plain_here", "_law_row", "_law_spot"] f8 _ := ⟨fun_mk (st := sLed) l8 c8 k8, PySem.W.mg_of X G a8, (fun_mk (st := sLed) l8 c8 k8).binds (ps := ["_law_plain_here", "_law_row", "_law_spot"]) fun _ _ _ _ _ _ us hl => match us, hl with | [_, _, _], _ => rfl⟩
  have D9 : Df K mg "_law_way" sWay ["_law_plain_here", "_law_row", "_law_state"] f9 _ := ⟨fun_mk (st := sWay) l9 c9 k9, PySem.W.mg_of X G a9, (fun_mk (st := sWay) l9 c9 k9).binds (ps := ["_law_plain_here", "_law_row", "_law_state"]) fun _ _ _ _ _ _ us hl => match us, hl with | [_, _, _], _ => rfl⟩
  have D10 : Df K mg "_law_refused" sRefused ["_law_call"] f10 _ := ⟨fun_mk (st := sRefused) l10 c10 k10, PySem.W.mg_of X G a10, (fun_mk (st := sRefused) l10 c10 k10).binds (ps := ["_law_call"]) fun _ _ _ _ _ _ us hl => match us, hl with | [_], _ => rfl⟩
  have FC11 : FunC K "law" "law" sLaw f11 _ cc11 := ⟨⟨_, _, _, _, _, _, _, _, rfl, l11, c11⟩, k11⟩
  have TA11 := tab_at (q := q) X O mr11 (PySem.W.mg_of X G a11) l11 rfl lc11 h11
  have D11 : Df K mg "law" sLaw ["_law_script"] f11 _ := ⟨FC11.toFun, PySem.W.mg_of X G a11, FC11.toFun.binds (ps := ["_law_script"]) fun _ _ _ _ _ _ us hl => match us, hl with | [_], _ => rfl⟩
  have D12 : Df K mg "is_integer" sIsInt ["value"] f12 _ := ⟨fun_mk (st := sIsInt) l12 c12 k12, PySem.W.mg_of X G a12, (fun_mk (st := sIsInt) l12 c12 k12).binds (ps := ["value"]) fun _ _ _ _ _ _ us hl => match us, hl with | [_], _ => rfl⟩
  have D13 : Df K mg "is_index" sIsIndex ["value", "many"] f13 _ := ⟨fun_mk (st := sIsIndex) l13 c13 k13, PySem.W.mg_of X G a13, (fun_mk (st := sIsIndex) l13 c13 k13).binds (ps := ["value", "many"]) fun _ _ _ _ _ _ us hl => match us, hl with | [_, _], _ => rfl⟩
  have D14 : Df K mg "is_word" sIsWord ["value"] f14 _ := ⟨fun_mk (st := sIsWord) l14 c14 k14, PySem.W.mg_of X G a14, (fun_mk (st := sIsWord) l14 c14 k14).binds (ps := ["value"]) fun _ _ _ _ _ _ us hl => match us, hl with | [_], _ => rfl⟩
  have D15 : Df K mg "is_tell" sIsTell ["value"] f15 _ := ⟨fun_mk (st := sIsTell) l15 c15 k15, PySem.W.mg_of X G a15, (fun_mk (st := sIsTell) l15 c15 k15).binds (ps := ["value"]) fun _ _ _ _ _ _ us hl => match us, hl with | [_], _ => rfl⟩
  have D16 : Df K mg "check_different" sCheckDiff ["deeds"] f16 _ := ⟨fun_mk (st := sCheckDiff) l16 c16 k16, PySem.W.mg_of X G a16, (fun_mk (st := sCheckDiff) l16 c16 k16).binds (ps := ["deeds"]) fun _ _ _ _ _ _ us hl => match us, hl with | [_], _ => rfl⟩
  have D17 : Df K mg "check_group" sCheckGroup ["deeds"] f17 _ := ⟨fun_mk (st := sCheckGroup) l17 c17 k17, PySem.W.mg_of X G a17, (fun_mk (st := sCheckGroup) l17 c17 k17).binds (ps := ["deeds"]) fun _ _ _ _ _ _ us hl => match us, hl with | [_], _ => rfl⟩
  have D18 : Df K mg "check_deeds" sCheckDeeds ["deeds"] f18 _ := ⟨fun_mk (st := sCheckDeeds) l18 c18 k18, PySem.W.mg_of X G a18, (fun_mk (st := sCheckDeeds) l18 c18 k18).binds (ps := ["deeds"]) fun _ _ _ _ _ _ us hl => match us, hl with | [_], _ => rfl⟩
  have D19 : Df K mg "check_rows" sCheckRows ["rows", "many"] f19 _ := ⟨fun_mk (st := sCheckRows) l19 c19 k19, PySem.W.mg_of X G a19, (fun_mk (st := sCheckRows) l19 c19 k19).binds (ps := ["rows", "many"]) fun _ _ _ _ _ _ us hl => match us, hl with | [_, _], _ => rfl⟩
  have D20 : Df K mg "check_tells" sCheckTells ["tells", "many"] f20 _ := ⟨fun_mk (st := sCheckTells) l20 c20 k20, PySem.W.mg_of X G a20, (fun_mk (st := sCheckTells) l20 c20 k20).binds (ps := ["tells", "many"]) fun _ _ _ _ _ _ us hl => match us, hl with | [_, _], _ => rfl⟩
  have F21 : FunD K "__init__" "Machine.__init__" (defArgs sMInit) (defBody sMInit) (defScope sMInit) [.int 0] [] f21 _ := ⟨⟨_, _, _, _, _, _, _, _, _, _, rfl, l21, c21, .inr ⟨by simp, T21, _, [.int 0 tc0], nT21, rfl, lT21, rfl, (.cons ⟨_, rfl⟩ .nil)⟩, .inl rfl⟩, k21⟩
  have b21 : Binds K (PySem.W.fnOf "__init__" "Machine.__init__" (defArgs sMInit) (defBody sMInit) (defScope sMInit) (.ref T21) kV21 dc21 pm21 an21 cd21 ct21) ["self", "deeds", "rows", "tells", "start"] [] := by
    obtain ⟨ds, v, b⟩ := F21.binds1 (ps := ["self", "deeds", "rows", "tells", "start"]) 5 1 (by simp) rfl fun T kV doc pm an cdv ct us its hu hi => match us, hu, its, hi with | [_, _, _, _, _], _, [_], _ => ⟨_, rfl, rfl⟩
    cases v
    exact b
  obtain ⟨ds21, vd21, b021⟩ := F21.binds1 (ps := ["self", "deeds", "rows", "tells", "start"]) 4 0 (by simp) rfl fun T kV doc pm an cdv ct us its hu hi => match us, hu, its, hi with | [_, _, _, _], _, [_], _ => ⟨_, rfl, rfl⟩
  have Mk21 : Mk K C f21 := ⟨mkC, a21, i21, kcC⟩
  have F22 : FunD K "path" "Machine.path" (defArgs sMPath) (defBody sMPath) (defScope sMPath) [.non] [] f22 _ := ⟨⟨_, _, _, _, _, _, _, _, _, _, rfl, l22, c22, .inr ⟨by simp, T22, _, [.none], nT22, rfl, lT22, rfl, (.cons rfl .nil)⟩, .inl rfl⟩, k22⟩
  have b22 : Binds K (PySem.W.fnOf "path" "Machine.path" (defArgs sMPath) (defBody sMPath) (defScope sMPath) (.ref T22) kV22 dc22 pm22 an22 cd22 ct22) ["self", "row", "state"] [] := by
    obtain ⟨ds, v, b⟩ := F22.binds1 (ps := ["self", "row", "state"]) 3 1 (by simp) rfl fun T kV doc pm an cdv ct us its hu hi => match us, hu, its, hi with | [_, _, _], _, [_], _ => ⟨_, rfl, rfl⟩
    cases v
    exact b
  obtain ⟨ds22, vd22, b022⟩ := F22.binds1 (ps := ["self", "row", "state"]) 2 0 (by simp) rfl fun T kV doc pm an cdv ct us its hu hi => match us, hu, its, hi with | [_, _], _, [_], _ => ⟨_, rfl, rfl⟩
  have MT22 : Meth K C "path" f22 := ⟨a22, i22, k22⟩
  have F23 : FunD K "after" "Machine.after" (defArgs sMAfter) (defBody sMAfter) (defScope sMAfter) [.non] [] f23 _ := ⟨⟨_, _, _, _, _, _, _, _, _, _, rfl, l23, c23, .inr ⟨by simp, T23, _, [.none], nT23, rfl, lT23, rfl, (.cons rfl .nil)⟩, .inl rfl⟩, k23⟩
  have b23 : Binds K (PySem.W.fnOf "after" "Machine.after" (defArgs sMAfter) (defBody sMAfter) (defScope sMAfter) (.ref T23) kV23 dc23 pm23 an23 cd23 ct23) ["self", "row", "state"] [] := by
    obtain ⟨ds, v, b⟩ := F23.binds1 (ps := ["self", "row", "state"]) 3 1 (by simp) rfl fun T kV doc pm an cdv ct us its hu hi => match us, hu, its, hi with | [_, _, _], _, [_], _ => ⟨_, rfl, rfl⟩
    cases v
    exact b
  obtain ⟨ds23, vd23, b023⟩ := F23.binds1 (ps := ["self", "row", "state"]) 2 0 (by simp) rfl fun T kV doc pm an cdv ct us its hu hi => match us, hu, its, hi with | [_, _], _, [_], _ => ⟨_, rfl, rfl⟩
  have MT23 : Meth K C "after" f23 := ⟨a23, i23, k23⟩
  have F24 := fun_mk (st := sMTold) l24 c24 k24
  have b24 : Binds K _ ["self", "row"] [] := F24.binds (ps := ["self", "row"]) fun _ _ _ _ _ _ us hl => match us, hl with | [_, _], _ => rfl
  have MT24 : Meth K C "told" f24 := ⟨a24, i24, k24⟩
  have FEB := fun_mk (st := sBadState) l25 c25 k25
  have OB : OBadState K mg EB f25 _ := ⟨⟨⟨nmB, qnB, NB, bsB, _, snB, subB, abB, colB, ddB, m0B, m1B, m2B, m3B, m5B, xB, rfl⟩, saB, eB, tB, kkB⟩, ⟨gaB, ggB, eB, hB⟩, PySem.W.mg_of X G aB, a25, t25, (fun f hf => by
      simp only [List.mem_cons, List.not_mem_nil, or_false] at hf
      rcases hf with rfl
      · exact noB_state), FEB, FEB.binds (ps := ["self", "state"]) fun _ _ _ _ _ _ us hl => match us, hl with | [_, _], _ => rfl⟩
  have FEN := fun_mk (st := sNoDeed) l26 c26 k26
  have ON : ONoDeed K mg EN f26 _ := ⟨⟨⟨nmN, qnN, NN, bsN, _, snN, subN, abN, colN, ddN, m0N, m1N, m2N, m3N, m5N, xN, rfl⟩, saN, eN, tN, kkN⟩, ⟨gaN, ggN, eN, hN⟩, PySem.W.mg_of X G aN, a26, t26, (fun f hf => by
      simp only [List.mem_cons, List.not_mem_nil, or_false] at hf
      rcases hf with rfl
      · exact noN_index), FEN, FEN.binds (ps := ["self", "index"]) fun _ _ _ _ _ _ us hl => match us, hl with | [_, _], _ => rfl⟩
  refine ⟨PySem.W.fnOf "law" "law" (defArgs sLaw) (defBody sLaw) (defScope sLaw) .none kV11 dc11 pm11 an11 (.ref cc11) ct11, [(cc11, pt11)], spLaw K [(pt11, qLaw)], ?_, ?_, ?_, fun s v => .of_eq rfl, ?_, fun base _ _ TB => ?_⟩
  · intro p hp
    simp only [List.mem_cons, List.not_mem_nil, or_false] at hp
    rcases hp with rfl
    · exact TA11.2
  · intro p hp
    simp only [List.mem_cons, List.not_mem_nil, or_false] at hp
    rcases hp with rfl
    · exact np11
  · intro p hp
    simp only [List.mem_cons, List.not_mem_nil, or_false] at hp
    rcases hp with rfl
    · exact TA11.1
  · intro H a ns hns _ hT hS
    refine ⟨a, ns, rfl, hS, hns, fun p hp => ?_, fun _ => rfl⟩
    simp only [List.mem_cons, List.not_mem_nil, or_false] at hp
    rcases hp with rfl
    · exact TabS.nil (hT (cc11, pt11) (by simp))
  · have BT : Bt2 mg := ⟨⟨PySem.W.mg_none_of X G z_int, PySem.W.mg_none_of X G z_len, PySem.W.mg_none_of X G z_list, PySem.W.mg_none_of X G z_range, PySem.W.mg_none_of X G z_tuple⟩, PySem.W.mg_none_of X G z_isinstance, PySem.W.mg_none_of X G z_bool, PySem.W.mg_none_of X G z_str, PySem.W.mg_none_of X G z_all, PySem.W.mg_none_of X G z_enumerate, PySem.W.mg_none_of X G z_min, ⟨_, PySem.W.mg_of X G co_LETTERS⟩, ⟨_, PySem.W.mg_of X G co_DIGITS⟩, ⟨_, PySem.W.mg_of X G co_LONGEST_WORD⟩, ⟨_, PySem.W.mg_of X G co_LONGEST_TELL⟩, ⟨_, PySem.W.mg_of X G co_MOST_DEEDS⟩, ⟨_, PySem.W.mg_of X G co_MOST_STATES⟩⟩
    have B1 : Bt mg := BT.toBt
    have MT : Tm K mg C := ⟨⟨pgC, hdC, poC, saC⟩, nC_deeds, nC_rows, nC_tells, nC_start, PySem.W.mg_of X G aC⟩
    have EE : Ee K EB EN := ⟨exm_of eB iB tB sBB, exm_of eB iB tB sNB, exm_of eN iN tN sNN⟩
    have GI : FnOk l.prog w K mg base L2.CX0 5 f21 _ pInit (spMInit K C) := ok_minit F21 MT BT D18 D17 D16 D14 D19 D13 D12 D20 D15
    have GP : FnOk l.prog w K mg base (L2.CX l.prog w) 3 f22 _ pPath (spPath K C EB EN) := ok_path F22 MT BT D13 D12 OB ON
    have GA : FnOk l.prog w K mg base (L2.CX l.prog w) 4 f23 _ pPath (spAfter K C EB EN) := ok_after F23 MT MT22 b22 GP
    have tbL := TB (cc11, pt11) (by simp)
    have FF : Fs l.prog w K mg base C EB EN E0 [(pt11, qLaw)] := ⟨BT, MT,
      ⟨_, _, D1.g, D1.F.kp, D1.b, ok_pen D1 B1⟩,
      ⟨_, _, D2.g, D2.F.kp, D2.b, ok_draw D2.F B1⟩,
      ⟨_, _, D3.g, D3.F.kp, D3.b, ok_pickL D3 D2 B1⟩,
      ⟨_, _, D4.g, D4.F.kp, D4.b, ok_words D4 D2 D3 B1⟩,
      ⟨_, _, D6.g, D6.F.kp, D6.b, ok_plain D6 D2 D3 B1⟩,
      ⟨_, _, D7.g, D7.F.kp, D7.b, ok_made D7 MT BT Mk21 GI b21⟩,
      ⟨_, _, D5.g, D5.F.kp, D5.b, ok_named D5 B1⟩,
      ⟨_, _, D9.g, D9.F.kp, D9.b, ok_way D9 D8 B1⟩,
      ⟨_, _, D10⟩,
      ⟨_, _, _, MT22, b22, b022, vd22, GP⟩,
      ⟨_, _, _, MT23, b23, b023, vd23, GA⟩,
      ⟨_, _, MT24, b24, ok_told F24 MT MT23 b023 vd23 GA⟩,
      ⟨_, _, OB⟩, ⟨_, _, ON⟩, PySem.W.mg_of X G a00, PySem.W.mg_none_of X G z_repr, EE⟩
    exact ok_law FF FC11 tbL (by simp) (by intro p hp e; simp only [List.mem_cons, List.not_mem_nil, or_false] at hp; rcases hp with rfl; rfl)

theorem walk {l : PySem.W.OpenLaw} {q : Program} {loose : List Str} {XP : (Str → Option Value) → Heap → Prop} {YP : World → Heap → Prop} {d : DefRec} {K : Params → PySem.W.Frag} (hn : l.most = some 63) (hdf : d.params.defaults = [])
    (hY : ∀ (w : World) (h : Heap), YP w h → (K w.params).In h)
    (F : ∀ (w : World) (mg : Str → Option Value) (fa : Addr) (h : Heap), (K w.params).In h → h.Ns mainGlobals mg → mg d.name = some (.ref fa) → OwnTabs q mg h → LawAtS l w (K w.params) L2.CX0 9 63 "_law_script" mg fa h) :
    PySem.W.WalkO q loose XP YP l.row.toRowW d [] (fun f vs => PySem.call f vs) :=
  walk_tabs (n := 63) (k := 9) (x := "_law_script") (CX := fun _ => L2.CX0) hn (by decide) hdf ⟨rfl, by decide, by decide⟩ hY (fun w mg fa h _ => F w mg fa h) fun _ _ _ _ _ z => z
end K1
open PySem PySem.W PyProof.Rows in
set_option maxRecDepth 100000 in
set_option maxHeartbeats 0 in
theorem PySem.Challenge.cw_betweenlooks_k03_where_rows_lead_holds : PySem.Challenge.rw_betweenlooks_k03_where_rows_lead.Holds := by
  w_on; o_law; k_head; (case hw => w_witness2)
  k_fill
  refine K1.walk (l := PySem.Challenge.rw_betweenlooks_k03_where_rows_lead) rfl rfl (fun w h Y => PySem.W.km_in_of Y) ?F
  case F =>
    intro w mg fa h KX G hmg OT
    refine' K1.all_mk KX G hmg OT ?a1 ?l1 ?c1 ?k1 ?a2 ?l2 ?c2 ?k2 ?a3 ?l3 ?c3 ?k3 ?a4 ?l4 ?c4 ?k4 ?a5 ?l5 ?c5 ?k5 ?a6 ?l6 ?c6 ?k6 ?a7 ?l7 ?c7 ?k7 ?a8 ?l8 ?c8 ?k8 ?a9 ?l9 ?c9 ?k9 ?a10 ?l10 ?c10 ?k10 ?a11 ?l11 ?c11 ?k11 ?lc11 ?h11 ?np11 ?mr11 ?a12 ?l12 ?c12 ?k12 ?a13 ?l13 ?c13 ?k13 ?a14 ?l14 ?c14 ?k14 ?a15 ?l15 ?c15 ?k15 ?a16 ?l16 ?c16 ?k16 ?a17 ?l17 ?c17 ?k17 ?a18 ?l18 ?c18 ?k18 ?a19 ?l19 ?c19 ?k19 ?a20 ?l20 ?c20 ?k20 ?aC ?pgC ?hdC ?poC ?saC ?mkC ?kcC ?nC_deeds ?nC_rows ?nC_tells ?nC_start ?a21 ?i21 ?l21 ?c21 ?k21 ?lT21 ?a22 ?i22 ?l22 ?c22 ?k22 ?lT22 ?a23 ?i23 ?l23 ?c23 ?k23 ?lT23 ?a24 ?i24 ?l24 ?c24 ?k24 ?a00 ?aB ?xB ?saB ?gaB ?ggB ?eB ?tB ?kkB ?hB ?iB ?noB_state ?a25 ?t25 ?l25 ?c25 ?k25 ?aN ?xN ?saN ?gaN ?ggN ?eN ?tN ?kkN ?hN ?iN ?noN_index ?a26 ?t26 ?l26 ?c26 ?k26 ?sBB ?sNB ?sNN ?co_LETTERS ?co_DIGITS ?co_LONGEST_WORD ?co_LONGEST_TELL ?co_MOST_DEEDS ?co_MOST_STATES ?z_int ?z_len ?z_list ?z_range ?z_tuple ?z_isinstance ?z_bool ?z_str ?z_all ?z_enumerate ?z_min ?z_repr
    (case a1 => k_is)
    (case l1 => k_is)
    (case c1 => k_is)
    (case k1 => k_is)
    (case a2 => k_is)
    (case l2 => k_is)
    (case c2 => k_is)
    (case k2 => k_is)
    (case a3 => k_is)
    (case l3 => k_is)
    (case c3 => k_is)
    (case k3 => k_is)
    (case a4 => k_is)
    (case l4 => k_is)
    (case c4 => k_is)
    (case k4 => k_is)
    (case a5 => k_is)
    (case l5 => k_is)
    (case c5 => k_is)
    (case k5 => k_is)
    (case a6 => k_is)
    (case l6 => k_is)
    (case c6 => k_is)
    (case k6 => k_is)
    (case a7 => k_is)
    (case l7 => k_is)
    (case c7 => k_is)
    (case k7 => k_is)
    (case a8 => k_is)
    (case l8 => k_is)
    (case c8 => k_is)
    (case k8 => k_is)
    (case a9 => k_is)
    (case l9 => k_is)
    (case c9 => k_is)
    (case k9 => k_is)
    (case a10 => k_is)
    (case l10 => k_is)
    (case c10 => k_is)
    (case k10 => k_is)
    (case a11 => k_is)
    (case l11 => k_is)
    (case c11 => k_is)
    (case k11 => k_is)
    (case lc11 => k_is)
    (case h11 => rfl)
    (case np11 => first | rfl | decide +kernel)
    (case mr11 => first | rfl | decide +kernel)
    (case a12 => k_is)
    (case l12 => k_is)
    (case c12 => k_is)
    (case k12 => k_is)
    (case a13 => k_is)
    (case l13 => k_is)
    (case c13 => k_is)
    (case k13 => k_is)
    (case a14 => k_is)
    (case l14 => k_is)
    (case c14 => k_is)
    (case k14 => k_is)
    (case a15 => k_is)
    (case l15 => k_is)
    (case c15 => k_is)
    (case k15 => k_is)
    (case a16 => k_is)
    (case l16 => k_is)
    (case c16 => k_is)
    (case k16 => k_is)
    (case a17 => k_is)
    (case l17 => k_is)
    (case c17 => k_is)
    (case k17 => k_is)
    (case a18 => k_is)
    (case l18 => k_is)
    (case c18 => k_is)
    (case k18 => k_is)
    (case a19 => k_is)
    (case l19 => k_is)
    (case c19 => k_is)
    (case k19 => k_is)
    (case a20 => k_is)
    (case l20 => k_is)
    (case c20 => k_is)
    (case k20 => k_is)
    (case aC => k_is)
    (case pgC => k_is)
    (case hdC => k_is)
    (case poC => k_is)
    (case saC => k_is)
    (case mkC => k_is)
    (case kcC => k_is)
    (case nC_deeds => k_is)
    (case nC_rows => k_is)
    (case nC_tells => k_is)
    (case nC_start => k_is)
    (case a21 => k_is)
    (case i21 => k_is)
    (case l21 => k_is)
    (case c21 => k_is)
    (case k21 => k_is)
    (case lT21 => k_is)
    (case a22 => k_is)
    (case i22 => k_is)
    (case l22 => k_is)
    (case c22 => k_is)
    (case k22 => k_is)
    (case lT22 => k_is)
    (case a23 => k_is)
    (case i23 => k_is)
    (case l23 => k_is)
    (case c23 => k_is)
    (case k23 => k_is)
    (case lT23 => k_is)
    (case a24 => k_is)
    (case i24 => k_is)
    (case l24 => k_is)
    (case c24 => k_is)
    (case k24 => k_is)
    (case a00 => k_is)
    (case aB => k_is)
    (case xB => k_is)
    (case saB => k_is)
    (case gaB => k_is)
    (case ggB => k_is)
    (case eB => k_is)
    (case tB => k_is)
    (case kkB => k_is)
    (case hB => k_is)
    (case iB => k_is)
    (case noB_state => k_is)
    (case a25 => k_is)
    (case t25 => k_is)
    (case l25 => k_is)
    (case c25 => k_is)
    (case k25 => k_is)
    (case aN => k_is)
    (case xN => k_is)
    (case saN => k_is)
    (case gaN => k_is)
    (case ggN => k_is)
    (case eN => k_is)
    (case tN => k_is)
    (case kkN => k_is)
    (case hN => k_is)
    (case iN => k_is)
    (case noN_index => k_is)
    (case a26 => k_is)
    (case t26 => k_is)
    (case l26 => k_is)
    (case c26 => k_is)
    (case k26 => k_is)
    (case sBB => k_is)
    (case sNB => k_is)
    (case sNN => k_is)
    (case co_LETTERS => k_is)
    (case co_DIGITS => k_is)
    (case co_LONGEST_WORD => k_is)
    (case co_LONGEST_TELL => k_is)
    (case co_MOST_DEEDS => k_is)
    (case co_MOST_STATES => k_is)
    (case z_int => k_is)
    (case z_len => k_is)
    (case z_list => k_is)
    (case z_range => k_is)
    (case z_tuple => k_is)
    (case z_isinstance => k_is)
    (case z_bool => k_is)
    (case z_str => k_is)
    (case z_all => k_is)
    (case z_enumerate => k_is)
    (case z_min => k_is)
    (case z_repr => k_is)
