import PyProof.Rows.All
import Wide.All
import OpenK.AllK
import Wide.FinOn
import HandS.ForMost
import HandS.Flow
import HandS.Wide
import HandS.Walk
import KE.GoesMore
import HandS.OwnEq
import PyProof.InstNe
import PyProof.NeKinds
import PyProof.IsRules
import HandS.Strs
import HandS.IsInst
import HandS.TupAny
import HandS.Defaults
import HandS.MakeKw
import HandS.ExcInit
import HandS.ExcField
import HandS.WordsExc
import HandS.Exc
import HandS.TryMany
import HandS.RaiseMore
import HandS.Lambda
import HandS.EndTab
import HandS.ExcOwn
import PyProof.P3In
import HandS.Deep
import HandS.TupLen
import HandS.DictTup
import HandS.Conv
import HandS.Style
import KE.KDictDisplayH
import HandS.Zip
import KE.KOwnIter
import HandS.IterVal
import HandS.Property
import PySem.Challenge.RW_betweenlooks_k29_marks_and_lots_made
set_option Elab.async false
set_option maxRecDepth 100000
namespace K1
open PySem L2
def top (i : Nat) : Stmt := PySem.Challenge.pw_betweenlooks_k29_marks_and_lots_made.main.body.getD i (.Pass ⟨0, 0, 0, 0⟩)
abbrev sPen : Stmt := top 47
abbrev sDraw : Stmt := top 48
abbrev sPick : Stmt := top 49
abbrev sWords : Stmt := top 50
/-! the pen: a dict of three -/
abbrev kCells : Key := Sum.inr "cells"
abbrev kAt : Key := Sum.inr "at"
abbrev kLeft : Key := Sum.inr "left"
theorem n_ca : ¬ (kCells = kAt) := by decide +kernel
theorem n_cl : ¬ (kCells = kLeft) := by decide +kernel
theorem n_al : ¬ (kAt = kLeft) := by decide +kernel
theorem n_la : ¬ (kLeft = kAt) := by decide +kernel
theorem n_ac : ¬ (kAt = kCells) := by decide +kernel
theorem n_lc : ¬ (kLeft = kCells) := by decide +kernel
def penK (c : Addr) (a l : Int) : List (Key × V) := [(kCells, .ref c), (kAt, .int a), (kLeft, .int l)]
theorem penK_cells (c : Addr) (a l : Int) : valV (penK c a l) kCells = some (.ref c) := valV_pos rfl
theorem penK_at (c : Addr) (a l : Int) : valV (penK c a l) kAt = some (.int a) := by
  unfold penK; rw [valV_neg n_ca]; exact valV_pos rfl
theorem penK_left (c : Addr) (a l : Int) : valV (penK c a l) kLeft = some (.int l) := by
  unfold penK; rw [valV_neg n_cl, valV_neg n_al]; exact valV_pos rfl
theorem penK_put_at (c : Addr) (a l b : Int) : putK (penK c a l) kAt (.int b) = penK c b l := by
  have h1 : ¬ (("cells" : Str) = "at") := by decide +kernel
  have h2 : ¬ (("left" : Str) = "at") := by decide +kernel
  unfold penK putK; simp [h1, h2]
theorem penK_put_left (c : Addr) (a l b : Int) : putK (penK c a l) kLeft (.int b) = penK c a b := by
  have h1 : ¬ (("cells" : Str) = "left") := by decide +kernel
  have h2 : ¬ (("at" : Str) = "left") := by decide +kernel
  unfold penK putK; simp [h1, h2]
/-- at d stands a pen that was drawn from at most n times -/
def PenAt (H : Hp) (d c : Addr) (n : Nat) : Prop := ∃ (ns : List Int) (a l : Int), H d = some (.dK (penK c a l)) ∧ H c = some (.lst (ns.map V.int)) ∧ ns.length ≤ 63 ∧ 0 ≤ a ∧ a ≤ n
/-- all but d is kept -/
def Kept (d : Addr) (H H' : Hp) : Prop := ∀ b o, H b = some o → b ≠ d → H' b = some o
theorem Kept.refl (d : Addr) (H : Hp) : Kept d H H := fun _ _ e _ => e
theorem Kept.trans {d : Addr} {H H1 H2 : Hp} (a : Kept d H H1) (b : Kept d H1 H2) : Kept d H H2 := fun c o e n => b c o (a c o e n) n
theorem Kept.same {d : Addr} {H H1 : Hp} (a : Same H H1) : Kept d H H1 := fun c o e _ => a c o e
theorem same_upd {H : Hp} {p : Addr} {o : HO} (h : H p = none) : Same H (upd H p o) := fun b u e => by rw [upd_ne (ne_of_none e h)]; exact e
theorem PenAt.mono {H : Hp} {d c : Addr} {n m : Nat} (h : PenAt H d c n) (l : n ≤ m) : PenAt H d c m := by
  obtain ⟨ns, a, x, h1, h2, h3, h4, h5⟩ := h
  exact ⟨ns, a, x, h1, h2, h3, h4, by omega⟩
theorem PenAt.same {H H' : Hp} {d c : Addr} {n : Nat} (h : PenAt H d c n) (s : Same H H') : PenAt H' d c n := by
  obtain ⟨ns, a, x, h1, h2, h3⟩ := h
  exact ⟨ns, a, x, s _ _ h1, s _ _ h2, h3⟩
theorem PenAt.ne {H : Hp} {d c D : Addr} {n : Nat} (h : PenAt H d c n) (z : H D = none) : D ≠ d ∧ D ≠ c := by
  obtain ⟨ns, a, x, h1, h2, h3⟩ := h
  exact ⟨(ne_of_none h1 z).symm, (ne_of_none h2 z).symm⟩
theorem PenAt.upd {H : Hp} {d c D : Addr} {n : Nat} {o : HO} (h : PenAt H d c n) (n1 : D ≠ d) (n2 : D ≠ c) : PenAt (upd H D o) d c n := by
  obtain ⟨ns, a, x, h1, h2, h3⟩ := h
  exact ⟨ns, a, x, by rw [upd_ne n1.symm]; exact h1, by rw [upd_ne n2.symm]; exact h2, h3⟩
theorem Kept.upd {d D : Addr} {H0 H : Hp} {o : HO} (k : Kept d H0 H) (h : H0 D = none) : Kept d H0 (upd H D o) := fun b u e nb => by
  rw [upd_ne (ne_of_none e h)]; exact k b u e nb
theorem Kept.free {d c : Addr} {H H' : Hp} {n : Nat} (k : Kept d H H') (p : PenAt H' d c n) {l : Addr} (h : H' l = none) : H l = none := by
  cases q : H l with
  | none => rfl
  | some o =>
    by_cases e : l = d
    · obtain ⟨ns, a, x, h1, _⟩ := p
      subst e; rw [h] at h1; cases h1
    · have := k l o q e; rw [h] at this; cases this
theorem penK_len (c : Addr) (a l : Int) : (penK c a l).length < sizeLine := by show 3 < sizeLine; decide
theorem dp_ints {K : PySem.W.Frag} {H : Hp} : ∀ ns : List Int, DpAll K H (ns.map V.int) (ns.map PyData.int)
  | [] => .nil
  | n :: r => .cons (.int n) (dp_ints r)
theorem canLay_ints : ∀ ns : List Int, PyData.canLayAll0 (ns.map PyData.int) = true
  | [] => rfl
  | n :: r => by simp [PyData.canLayAll0, PyData.canLay0, canLay_ints r]
theorem eqv_ints_nil (ns : List Int) : PyData.eqv (.list (ns.map PyData.int)) (.list []) = ns.isEmpty := by
  cases ns <;> simp [PyData.eqv, PyData.eqvAll]
theorem shaped_ints (ns : List Int) : SeqAt.shaped (.list (ns.map PyData.int)) = true := by
  have h : ∀ ns : List Int, PyData.depthAll (ns.map PyData.int) ≤ 1 := by
    intro ns
    induction ns with
    | nil => decide
    | cons n r ih => simp only [List.map_cons, PyData.depthAll, PyData.depth]; omega
  have h1 := h ns
  unfold SeqAt.shaped
  rw [PyData.canLay0, canLay_ints, PyData.depth]
  simp only [Bool.true_and, decide_eq_true_eq]
  omega
theorem map_get {ns : List Int} {j : Nat} (h : j < ns.length) : (ns.map V.int)[j]? = some (V.int (ns.getD j 0)) := by
  simp [List.getElem?_eq_getElem h, h]
theorem fmod_nat {a m : Int} (hm : 0 < m) : ∃ j : Nat, a.fmod m = (j : Int) ∧ (j : Int) < m := by
  have h1 := Int.fmod_nonneg_of_pos a hm
  have h2 := Int.fmod_lt_of_pos a hm
  exact ⟨(a.fmod m).toNat, by omega, by omega⟩
theorem fmod_bd {a m : Int} (hm : 0 < m) (hM : m ≤ 2147483648) : -(2 ^ 64) < a.fmod m ∧ a.fmod m < 2 ^ 64 := by
  have h1 := Int.fmod_nonneg_of_pos a hm
  have h2 := Int.fmod_lt_of_pos a hm
  exact ⟨by omega, by omega⟩
structure Bt (mg : Str → Option Value) : Prop where
  int : mg "int" = none
  len : mg "len" = none
  list : mg "list" = none
  range : mg "range" = none
  tuple : mg "tuple" = none
/-- draw: r below many; the pen has been drawn from once more; all else is kept -/
def spDraw : Sp := fun vs H Q _ => ∃ (d c : Addr) (n : Nat) (many : Int), vs = [.ref d, .int many] ∧ PenAt H d c n ∧ n ≤ 1000000 ∧ 0 < many ∧ many < 1073741824 ∧
  ∀ (r : Int) (H' : Hp), 0 ≤ r → r < many → PenAt H' d c (n + 1) → Kept d H H' → Q (.int r) H'
section
variable {P : Program} {w : World} {K : PySem.W.Frag} {mg : Str → Option Value} {base : Heap}
theorem scDraw : FnScope ["_law_pen_here", "_law_many", "_law_digit", "_law_at", "_law_cell", "_law_mixed"] ["_law_pen_here", "_law_many"] (defScope sDraw) := ⟨rfl, rfl, rfl, by decide +kernel, rfl, by decide +kernel, by decide +kernel⟩
theorem ok_draw {f : Addr} {fd : FuncData} (F : Fun K "_law_draw" "_law_draw" sDraw f fd) (T : Bt mg) : FnOk P w K mg base CX0 1 f fd ["_law_pen_here", "_law_many"] spDraw := by
  refine F.ok scDraw (fun vs H Q E h => ?_) (fun cdv A outer s H vs Q E hr h => ?_)
  · obtain ⟨d, c, n, many, rfl, _⟩ := h
    rfl
  · obtain ⟨d, c, n, many, rfl, ⟨ns, a, l, hd, hc, hns, ha0, ha1⟩, hn, hm0, hm1, k⟩ := h
    have hu := hu_of hr
    have ncd : c ≠ d := ne_of hc hd (by intro z; cases z)
    have gL : DGet H d (.str "left") (some (.int l)) := by have := DGet.k (k := kLeft) hd; rw [penK_left] at this; exact this
    refine ⟨_, pss_cons (ps_if (pt_cmpR op_ge (pe_dget hu (pv 0) pe_str (fun _ _ => rfl)) (pv 1) (nomark _))
        (pss_cons (ps_set (i := 2) scDraw.nd rfl (Or.inl rfl) (pe_op op_modN (pe_callTy call_int1 (by rfl) T.int (by decide +kernel) (pa_cons (pe_dget hu (pv 0) pe_str (fun _ _ => rfl)) pa_nil)) (pv 1)))
        (pss_cons (ps_dput hu (pv 0) pe_str (pe_op op_fdivN (pe_dget hu (pv 0) pe_str (fun _ _ => rfl)) (pv 1)) rfl)
        (pss_one (ps_ret (pv 2))))) pss_nil)
      (pss_cons (ps_set (i := 3) scDraw.nd rfl (Or.inl rfl) (pe_dget hu (pv 0) pe_str (fun _ _ => rfl)))
      (pss_cons (ps_dput hu (pv 0) pe_str (pe_op op_add (pv 3) pe_int) rfl)
      (pss_cons (ps_set (i := 4) scDraw.nd rfl (Or.inl rfl) (pe_op op_add (pe_op op_mul pe_int (pv 3)) pe_int))
      (pss_cons (ps_if (pt_cmpR (op_neD hr.units) (pe_dget hu (pv 0) pe_str (fun _ _ => rfl)) (pe_lst pa_nil) (nomark _))
          (pss_one (ps_set (i := 4) scDraw.nd rfl (Or.inl rfl) (pe_ix ix_list (pe_dget hu (pv 0) pe_str (fun _ _ => rfl)) (pe_op op_modN (pe_callTy call_int1 (by rfl) T.int (by decide +kernel) (pa_cons (pv 3) pa_nil)) (pe_callB call_len (by rfl) T.len PySem.boot_len (pa_cons (pe_dget hu (pv 0) pe_str (fun _ _ => rfl)) pa_nil))) (fun _ _ => rfl)))) pss_nil)
      (pss_cons (ps_if (PW.pt (pw_and (pt_cmpR op_lt (pv 3) (pe_callB call_len (by rfl) T.len PySem.boot_len (pa_cons (pe_dget hu (pv 0) pe_str (fun _ _ => rfl)) pa_nil)) (nomark _)) (pw_and1 (pt_cmpR op_ge (pv 4) (pe_op op_pow pe_int pe_int) (nomark _)))))
          (pss_cons (ps_dput hu (pv 0) pe_str (pe_op op_fdivN (pe_op op_sub (pv 4) (pe_op op_pow pe_int pe_int)) (pv 1)) rfl)
          (pss_one (ps_ret (pe_op op_modN (pe_callTy call_int1 (by rfl) T.int (by decide +kernel) (pa_cons (pe_op op_sub (pv 4) (pe_op op_pow pe_int pe_int)) pa_nil)) (pv 1))))) pss_nil)
      (pss_cons (ps_set (i := 5) scDraw.nd rfl (Or.inl rfl) (pe_op op_add (pe_op op_add (pe_op op_add (pe_op op_mul (pe_op op_modN (pe_callTy call_int1 (by rfl) T.int (by decide +kernel) (pa_cons (pv 4) pa_nil)) pe_int) pe_int) (pe_op op_mul (pe_op op_mul pe_int (pv 3)) (pv 3))) (pe_op op_mul pe_int (pv 3))) pe_int))
      (pss_cons (ps_set (i := 5) scDraw.nd rfl (Or.inl rfl) (pe_op op_modN (pe_callTy call_int1 (by rfl) T.int (by decide +kernel) (pa_cons (pv 5) pa_nil)) pe_int))
      (pss_cons (ps_set (i := 5) scDraw.nd rfl (Or.inl rfl) (pe_op op_modN (pe_callTy call_int1 (by rfl) T.int (by decide +kernel) (pa_cons (pe_op op_mul (pv 5) (pe_op op_add (pv 5) pe_int)) pa_nil)) pe_int))
      (pss_one (ps_ret (pe_op op_modN (pe_callTy call_int1 (by rfl) T.int (by decide +kernel) (pa_cons (pe_op op_fdivN (pe_op op_modN (pe_callTy call_int1 (by rfl) T.int (by decide +kernel) (pa_cons (pe_op op_mul (pv 5) (pv 5)) pa_nil)) pe_int) pe_int) pa_nil)) (pv 1)))))))))))), ?_⟩
    -- pen['left'] >= many
    refine ⟨_, rfl, d, _, rfl, gL, _, rfl, _, _, rfl, rfl, _, rfl, ?_⟩
    refine ite2 (fun _ => ?_) (fun _ => ?_)
    · refine ⟨_, rfl, d, _, rfl, gL, .inl ⟨_, rfl, ?_⟩⟩
      refine ⟨_, rfl, _, _, rfl, rfl, (by omega), ?_⟩
      refine ⟨_, rfl, d, _, rfl, gL, _, rfl, _, _, rfl, rfl, ⟨by omega, by omega⟩, ?_⟩
      refine ⟨_, rfl, d, _, rfl, DPut.k (k := kLeft) hd (penK_len _ _ _), ?_⟩
      refine ⟨_, rfl, ?_⟩
      refine k _ _ (Int.fmod_nonneg_of_pos _ hm0) (Int.fmod_lt_of_pos _ hm0) ⟨ns, a, l.fdiv many, ?_, ?_, hns, ha0, by omega⟩ ?_
      · rw [upd_same, penK_put_left]
      · rw [upd_ne ncd]; exact hc
      · intro b o e nb; rw [upd_ne nb]; exact e
    · have gA : DGet H d (.str "at") (some (.int a)) := by have := DGet.k (k := kAt) hd; rw [penK_at] at this; exact this
      refine ⟨_, rfl, d, _, rfl, gA, ?_⟩
      refine ⟨_, rfl, _, _, rfl, rfl, _, rfl, d, _, rfl, DPut.k (k := kAt) hd (penK_len _ _ _), ?_⟩
      rw [penK_put_at]
      have hd1 : upd H d (.dK (penK c (a + 1) l)) d = some (.dK (penK c (a + 1) l)) := upd_same
      have hc1 : upd H d (.dK (penK c (a + 1) l)) c = some (.lst (ns.map V.int)) := by rw [upd_ne ncd]; exact hc
      have kp1 : Kept d H (upd H d (.dK (penK c (a + 1) l))) := fun b o e nb => by rw [upd_ne nb]; exact e
      generalize upd H d (.dK (penK c (a + 1) l)) = H1 at hd1 hc1 kp1 ⊢
      refine ⟨_, rfl, _, _, rfl, rfl, .inl ⟨by decide, by decide⟩, _, _, rfl, rfl, ?_⟩
      have gC1 : DGet H1 d (.str "cells") (some (.ref c)) := by have := DGet.k (k := kCells) hd1; rw [penK_cells] at this; exact this
      refine ⟨_, rfl, d, _, rfl, gC1, Nat.zero_le _, fun q hq => ?_⟩
      have sm : Same H1 (upd H1 q (.lst [])) := same_upd hq
      have hq1 : upd H1 q (.lst []) q = some (.lst []) := upd_same
      have hd2 := sm _ _ hd1
      have hc2 := sm _ _ hc1
      have kp2 : Kept d H (upd H1 q (.lst [])) := kp1.trans (.same sm)
      generalize upd H1 q (.lst []) = H2 at hq1 hd2 hc2 kp2 ⊢
      have gC2 : DGet H2 d (.str "cells") (some (.ref c)) := by have := DGet.k (k := kCells) hd2; rw [penK_cells] at this; exact this
      refine ⟨_, _, .lst (SqL.of hc2) (dp_ints ns), .lst (SqL.of hq1) .nil, shaped_ints ns, by decide +kernel, _, rfl, ?_⟩
      rw [eqv_ints_nil]
      have len2 : LenV K (.ref c) H2 ns.length := .inl ⟨_, SqL.of hc2, (List.length_map _).symm⟩
      have hpos : (!ns.isEmpty) = true → 0 < ns.length := fun hne => by
        cases ns with
        | nil => cases hne
        | cons _ _ => exact Nat.succ_pos _
      have hix : (!ns.isEmpty) = true → atI (ns.map V.int) (a.fmod (ns.length : Int)) = some (V.int (ns.getD (a.fmod (ns.length : Int)).toNat 0)) := fun hne => by
        have hp := hpos hne
        obtain ⟨j, ej, hj⟩ := fmod_nat (a := a) (m := (ns.length : Int)) (by omega)
        rw [ej]
        exact atI_nat (map_get (by omega))
      refine ite2 (fun hne => ⟨_, rfl, d, _, rfl, gC2, _, rfl, .inl ⟨_, rfl, ⟨_, rfl, d, _, rfl, gC2, _, _, rfl, len2, _, _, rfl, rfl, (by have := hpos hne; omega), c, _, _, _, rfl, rfl, SqL.of hc2, hix hne, ?_⟩⟩⟩) (fun _ => ?_)
      all_goals
        refine ⟨_, rfl, _, rfl, d, _, rfl, gC2, _, _, rfl, len2, _, _, rfl, rfl, _, rfl, ?_⟩
        have fin : ∀ (H3 : Hp) (l' : Int) (r : Int), H3 d = some (.dK (penK c (a + 1) l')) → H3 c = some (.lst (ns.map V.int)) → Kept d H H3 → Q (.int (r.fmod many)) H3 := fun H3 l' r e1 e2 e3 =>
          k _ _ (Int.fmod_nonneg_of_pos _ hm0) (Int.fmod_lt_of_pos _ hm0) ⟨ns, a + 1, l', e1, e2, hns, by omega, by omega⟩ e3
        refine ite2 (fun _ => ⟨_, rfl, _, _, rfl, rfl, ⟨by decide, by decide, by decide⟩, _, _, rfl, rfl, _, rfl, ite2 (fun _ => ?_) (fun _ => ?_)⟩) (fun _ => ?_)
        ·
          refine ⟨_, rfl, _, _, rfl, rfl, ⟨by decide, by decide, by decide⟩, _, _, rfl, rfl, _, rfl, _, _, rfl, rfl, ⟨by omega, by omega⟩, _, rfl, d, _, rfl, DPut.k (k := kLeft) hd2 (penK_len _ _ _), ?_⟩
          rw [penK_put_left]
          refine ⟨_, rfl, _, _, rfl, rfl, ⟨by decide, by decide, by decide⟩, _, _, rfl, rfl, .inl ⟨_, rfl, ?_⟩⟩
          refine ⟨_, rfl, _, _, rfl, rfl, (by omega), ?_⟩
          refine fin _ _ _ upd_same (by rw [upd_ne ncd]; exact hc2) (fun b o e nb => by rw [upd_ne nb]; exact kp2 b o e nb)
        all_goals
          refine ⟨_, rfl, .inl ⟨_, rfl, ?_⟩⟩
          refine ⟨_, _, rfl, rfl, (by omega), ?_⟩
          refine ⟨_, _, rfl, rfl, .inr ⟨by decide, by decide⟩, ?_⟩
          refine ⟨_, rfl, _, _, rfl, rfl, .inl ⟨by decide, by decide⟩, _, rfl, _, _, rfl, rfl, .inr ⟨by omega, by omega⟩, ?_⟩
          refine ⟨_, _, rfl, rfl, _, rfl, _, _, rfl, rfl, .inl ⟨by decide, by decide⟩, ?_⟩
          refine ⟨_, _, rfl, rfl, _, _, rfl, rfl, ?_⟩
          -- mixed = int(mixed) % 2147483647
          refine ⟨_, rfl, .inl ⟨_, rfl, ?_⟩⟩
          refine ⟨_, _, rfl, rfl, (by omega), ?_⟩
          refine ⟨_, rfl, _, rfl, _, _, rfl, rfl, _, _, rfl, rfl, .inl (fmod_bd (by decide) (by decide)), .inl ⟨_, rfl, ?_⟩⟩
          refine ⟨_, _, rfl, rfl, (by omega), ?_⟩
          refine ⟨_, rfl, _, rfl, _, _, rfl, rfl, .inl (fmod_bd (by decide) (by decide)), .inl ⟨_, rfl, ?_⟩⟩
          refine ⟨_, _, rfl, rfl, (by omega), _, _, rfl, rfl, ⟨by decide, by decide⟩, .inl ⟨_, rfl, ?_⟩⟩
          refine ⟨_, rfl, _, _, rfl, rfl, (by omega), ?_⟩
          exact fin _ _ _ hd2 hc2 kp2
end
end K1
set_option Elab.async false
set_option linter.all false
set_option maxRecDepth 100000
namespace EO
open PySem
open AutoSeq1 (wpAny_loadPart')
set_option maxHeartbeats 1000000 in
theorem meets_enumerate_newT (l : Addr) (items : Array Value) (n : Nat) (dct : Option Addr) (sl : Array (Option Value)) :
    Meets (Builtin.«enumerate.__new__» ⟨[.type "enumerate", .ref l], []⟩) (fun _ R s => s.heap.get? l = some { cls := .type "tuple", dict := dct, data := .seq items n, slots := sl } ∧
      R (.ok (.ret (.ref (s.heap.push { cls := .type "tuple_iterator", data := .fields #[.ref l, .int 0 0] }).objs.size)))
        { s with heap := (s.heap.push { cls := .type "tuple_iterator", data := .fields #[.ref l, .int 0 0] }).push { cls := .type "enumerate", data := .fields #[.none, .bool false, .ref s.heap.objs.size, rawInt 0, .none, .none] } }) :=
  .of_wp fun prog w A R s h => by
    obtain ⟨hp, g, d, tk, os⟩ := s; obtain ⟨hl, h⟩ := h
    have hsub := sub_enumerate
    have hL : Heap.IsTuple (Shared.heap ⟨hp, g, d, tk, os⟩) l items := ⟨_, hl, rfl, n, rfl⟩
    wp_walk using wpAny_loadPart' hl
    refine wpAny_stack_any fun st => wpAny_pure ?_
    split
    · rename_i c _ _ _ _ _
      cases (c == Value.type "enumerate")
      · wp_walk using wpAny_loadPart' hl, wpAny_pyIter_tuple hL
        exact ⟨_, rfl, h⟩
      · wp_walk using wpAny_loadPart' hl, wpAny_pyIter_tuple hL
        exact ⟨_, rfl, h⟩
    · wp_walk using wpAny_loadPart' hl, wpAny_pyIter_tuple hL
      exact ⟨_, rfl, h⟩
section
variable {prog : Program} {w : World} {A : Around} {E : Value → Shared → Prop} {s : Shared}
theorem call_enumerate_tuple {l : Addr} {items : Array Value} {Q : Value → Shared → Prop} (hL : s.heap.IsTuple l items)
    (h : ∀ h', IsEnum h' (s.heap.objs.size + 1) s.heap.objs.size 0 .none → h'.IsTupleIter s.heap.objs.size l 0 → h'.objs.size = s.heap.objs.size + 2 →
      (∀ b o, s.heap.get? b = some o → h'.get? b = some o) → Q (.ref (s.heap.objs.size + 1)) { s with heap := h' }) :
    wpAny (model prog w) A (call (.type "enumerate") [.ref l]) Q E s := by
  obtain ⟨⟨c, dct, dt, sl⟩, hl, hc, n, hd⟩ := hL
  replace hc : c = .type "tuple" := hc
  replace hd : dt = .seq items n := hd
  subst hc hd
  refine callType_new F.called_enumerate (by decide) (F.typeCall_enumerate_1 _) (F.newCall_enumerate_1 _) (fun obj => F.args_object_init_2 obj _) F.entry_enumerate_new
    (meets_enumerate_newT l items n dct sl) ⟨hl, ?_⟩
  have hz : (s.heap.push { cls := .type "tuple_iterator", data := .fields #[.ref l, .int 0 0] }).objs.size = s.heap.objs.size + 1 := Heap.size_push ..
  show _ ∧ _
  rw [hz]
  have he : IsEnum ((s.heap.push { cls := .type "tuple_iterator", data := .fields #[.ref l, .int 0 0] }).push
      { cls := .type "enumerate", data := .fields #[.none, .bool false, .ref s.heap.objs.size, rawInt 0, .none, .none] }) (s.heap.objs.size + 1) s.heap.objs.size 0 .none := by
    have := Heap.get?_push_size (s.heap.push { cls := .type "tuple_iterator", data := .fields #[.ref l, .int 0 0] })
      (o := { cls := .type "enumerate", data := .fields #[.none, .bool false, .ref s.heap.objs.size, rawInt 0, .none, .none] }) rfl
    rw [hz] at this; exact this
  refine ⟨⟨_, he, rfl⟩, h _ he ⟨_, Heap.get?_push_of_some _ (Heap.get?_push_size _ rfl), rfl, rfl⟩ (by rw [Heap.size_push, hz]) fun b o x => Heap.get?_push_of_some _ (Heap.get?_push_of_some _ x)⟩
theorem enumT_end {e it t : Addr} {i : Nat} {k : Int} {items : Array Value} {old : Value} {Q : Option Value → Shared → Prop} (hh : A.handled = none)
    (he : IsEnum s.heap e it k old) (hit : s.heap.IsTupleIter it t i) (ht : s.heap.IsTuple t items) (hx : items[i]? = none)
    (hQ : ∀ h', Heap.ExtBut it s.heap h' → Q none { s with heap := h' }) : wpAny (model prog w) A (pyNext (.ref e)) Q E s := by
  have hT : s.TypeIs (.ref e) "enumerate" := ⟨_, he, rfl⟩
  unfold pyNext
  refine wpAny_bind (wpAny_attempt (wpAny_callSpecial?_slot (name := Str.ofString "__next__") hT F.slot_enumerate_next
    (wpAny_call_entry F.slot_enumerate_next hT F.entry_enumerate_next ?_ (F.args_enumerate_next_1 _))))
  show wpAny _ _ (field (.ref e) 2 >>= _) _ _ _
  refine wpAny_bind (wpAny_field he rfl (x := .ref it) rfl ?_)
  refine wpAny_bind (wpAny_nextOf_tuple_end hh hit ht hx fun h' x he' hx' => ?_)
  obtain ⟨o, ho, hc⟩ := hx'
  refine wpAny_bind (wpAny_isInstance (T := "StopIteration") (b := true) ⟨o, ho, hc⟩ isSubtype_stop ?_)
  exact wpAny_pure (hQ _ he')
end
end EO
namespace L2
open PySem PySem.Spec PyProof.Rows
/-! ### enumerate(tuple) -/
def IteT (K : PySem.W.Frag) (a : Addr) : It :=
  ⟨fun i H => ∃ (xs : List V) (x : V), SqT K H a xs ∧ xs[i]? = some x, fun i H v H' => ∃ T x, v = .ref T ∧ H T = none ∧ H' = upd H T (.tup [.int (i : Nat), x]) ∧ ∀ xs, SqT K H a xs → xs[i]? = some x, fun i H => ∃ xs : List V, SqT K H a xs ∧ xs.length ≤ i⟩
theorem turn_enumT {P : Program} {w : World} {K : PySem.W.Frag} {elts : List Expr} {kk : Nat} {tpos : Pos} (a e it : Addr) :
    Turn P w K (.Tuple elts kk tpos) (IteT K a) [e, it] e (fun i h => (∃ old, IsEnum h e it ((i : Nat) : Int) old) ∧ h.IsTupleIter it a i ∧ e ≠ it) where
  mem := by simp
  obj := fun i h st b hb => by
    obtain ⟨⟨old, he⟩, ⟨o, ho, hc, hd⟩, _⟩ := st
    have e' : b = e ∨ b = it := by simpa using hb
    rcases e' with z | z
    · rw [z]; exact ⟨_, he, fun v q => nomatch q⟩
    · rw [z]; exact ⟨o, ho, fun v q => by rw [hd] at q; cases q⟩
  keep := fun i h h' st k => let ⟨⟨old, he⟩, hi, hne⟩ := st; ⟨⟨old, k e (by simp) _ he⟩, hi.at fun o q => k it (by simp) o q, hne⟩
  item := by
    intro X hP hw hK hc i pins s σ H E I hf st hg
    subst hP hw hK
    obtain ⟨⟨old, he⟩, hit, hne⟩ := st
    obtain ⟨xs, x, hq, hx⟩ := hg
    obtain ⟨its, rv, p, hz⟩ := I.tuple hq
    obtain ⟨u, hu, ru⟩ := rv.get hx
    have hil' : i < its.length := (List.getElem?_eq_some_iff.mp hu).1
    have hel : e < s.heap.objs.size := Heap.lt_size he
    have hil : it < s.heap.objs.size := by obtain ⟨_, q, _⟩ := hit; exact Heap.lt_size q
    have hai : a ≠ it := by
      intro z
      obtain ⟨o1, q1, c1, _⟩ := p
      obtain ⟨o2, q2, c2, _⟩ := hit
      rw [z, q2] at q1; cases q1; rw [c2] at c1; exact absurd c1 (by simp)
    have hea : e ≠ a := by
      intro z
      obtain ⟨o1, q1, c1, _⟩ := p
      rw [← z] at q1
      have q2 := he
      unfold IsEnum at q2
      rw [q1] at q2; cases q2; exact absurd c1 (by simp)
    refine wpAny_pyNext_enum_itemD (Draws.tuple (A := X.A.in1) (I.ok.hd hc) it a hai its.toArray) he ⟨hit, p⟩ (by simpa using hil') hne (by simp [hne, hea]) fun y h' tk hy ho hit' hT hsz hk => ?_
    have hyu : y = u := by
      have : its.toArray[i]? = some u := by simpa using hu
      rw [this] at hy; exact (Option.some.inj hy).symm
    subst hyu
    refine ⟨_, rfl, wpAny_letOwnedTupleGo_enum (s := { s with heap := h', toks := tk + 1 }) ho fun h'' he' sb => ?_⟩
    have hT2 : h''.get? s.heap.objs.size = some { cls := .type "tuple", data := .seq #[.int i tk, y] } := (sb.2 _ (Nat.ne_of_gt hel)).trans hT
    have new : ObjOk X.prog X.w (upd H s.heap.objs.size (.tup [.int (i : Nat), x])) h'' s.heap.objs.size (.tup [.int (i : Nat), x]) :=
      ⟨by show 2 ≤ sizeLine; decide, [.int i tk, y], .cons ⟨_, rfl⟩ (.cons ru .nil), ⟨_, hT2, rfl, _, rfl⟩⟩
    have I1 : Inv X pins σ (upd H s.heap.objs.size (.tup [.int (i : Nat), x])) { s with heap := h'', toks := tk + 1 } :=
      I.turnedNew (ch := [e, it]) (fun b ob hb q => (sb.2 b (fun z => hb (by simp [z]))).trans (hk b ob (fun z => hb (by simp [z])) (fun z => hb (by simp [z])) q)) hf (Nat.le_refl _) new
    refine ⟨.ref s.heap.objs.size, _, I1, rfl, ⟨_, x, rfl, I.hok.fresh (Nat.le_refl _), rfl, fun ys hy => by rw [I.tuple_inj hy hq]; exact hx⟩, ⟨⟨y, ?_⟩, hit'.1.at fun o q => (sb.2 it (Ne.symm hne)).trans q, hne⟩, fun b hb => ?_⟩
    · have e1 : ((i + 1 : Nat) : Int) = (i : Int) + 1 := by omega
      rw [e1]; exact he'
    · have hb' : b < s.heap.objs.size := by
        have e' : b = e ∨ b = it := by simpa using hb
        rcases e' with z | z
        · rw [z]; exact hel
        · rw [z]; exact hil
      rw [upd_ne (Nat.ne_of_lt hb')]
      exact (hf b hb).1
  done := by
    intro X hP hw hK hc i pins s σ H E I hf st hg
    subst hP hw hK
    obtain ⟨⟨old, he⟩, hit, hne⟩ := st
    obtain ⟨xs, hq, hx⟩ := hg
    obtain ⟨its, rv, p, hz⟩ := I.tuple hq
    obtain ⟨f0, f1, f2, f3, f4, f5⟩ := hf it (by simp)
    have hl := rv.length
    exact EO.enumT_end (I.ok.hd hc) he hit p (by simp; omega) fun h' eb => ⟨rfl, I.turned (t' := s.toks) (fun b o hb q => eb b o hb q) f0 f1 f3 f4 f5⟩
  self := fun A i s Q E st h => let ⟨⟨_, he⟩, _⟩ := st; wpAny_pyIter_enum he h
def iEnumT (K : PySem.W.Frag) (ta : TA) : TI := fun σ H R => ta σ H fun vs H1 => ∃ a xs, vs = [.ref a] ∧ SqT K H1 a xs ∧ R (IteT K a) H1
theorem pi_enumT {X : Cx} {e : Expr} {ta : TA} {p pos tpos : Pos} {elts : List Expr} {kk : Nat} (hg : Gl X "enumerate") (hm : X.mg "enumerate" = none) (ha : PA X [e] ta) (hs : starEach [e] X.env = [(false, eval e X.env)] := by rfl) :
    PI X (.Tuple elts kk tpos) (.Call (.Name "enumerate" p) [e] [] pos) (iEnumT X.K ta) := by
  refine ⟨fun pins s σ H R I h => ?_⟩
  refine Call_ (ld_blt I hg hm boot_enumerate (PyProof.Rows.callWith_type1 (thn (ha.run pos pins s σ H _ I h) fun us s1 ⟨vs, H1, I1, r1, q1⟩ => ?_) hs rfl))
  obtain ⟨a, xs, ex, hq, q⟩ := q1
  subst ex
  cases r1 with
  | cons r rr =>
    cases rr
    cases r
    obtain ⟨its, rv, p', hz⟩ := I1.tuple hq
    refine EO.call_enumerate_tuple (by exact p') fun h' he hit hsz hk => wpAny_pyIter_enum he ?_
    have I2 : Inv X pins σ H1 { s1 with heap := h' } := I1.kept (t' := s1.toks) hk
    refine ⟨s1.heap.objs.size + 1, [s1.heap.objs.size + 1, s1.heap.objs.size], _, _, H1, rfl, I2, turn_enumT a (s1.heap.objs.size + 1) s1.heap.objs.size, ⟨⟨.none, he⟩, hit, Nat.succ_ne_self _⟩, fun b hb => ?_, q⟩
    have e' : b = s1.heap.objs.size + 1 ∨ b = s1.heap.objs.size := by simpa using hb
    have hle : s1.heap.objs.size ≤ b := by
      rcases e' with z | z
      · rw [z]; exact Nat.le_add_right _ _
      · rw [z]; exact Nat.le_refl _
    exact I1.fpOk hle (I1.hok.fresh hle)
theorem walk_enumT {K : PySem.W.Frag} {a : Addr} {xs : List V} : Walk (IteT K a) xs.length (fun H => SqT K H a xs) (YPair (fun i => some (.int (i : Nat))) (fun i => xs[i]?)) := by
  refine ⟨fun i _ hi q => ⟨xs, xs[i], q, by simp [hi]⟩, fun _ q => ⟨xs, q, Nat.le_refl _⟩, fun i H v H' _ q y => ?_⟩
  obtain ⟨T, x, h1, h2, h3, h4⟩ := y
  exact ⟨T, .int (i : Nat), x, h1, h2, h3, rfl, h4 xs q⟩
end L2
set_option Elab.async false
set_option maxRecDepth 100000
namespace EO
open PySem PySem.W PySem.Spec PyProof.Rows L2
section
variable {prog : Program} {w : World} {A : Around} {E : Value → Shared → Prop} {s : Shared} {K : Frag} {x C L f : Addr} {h₀ : Heap} {m : Str → Option Value} {ox : Obj} {od : Option Obj} {name : Str} {b tb : Value}
theorem cmp_dec_K {Q : Value → Shared → Prop} (hu : A.units < cLine) (X : K.In s.heap) (I : InstAt s.heap x ox C od) (hb : Looks (model prog w) s.heap (typeOf b) tb) (hn : notFirst K C tb = true)
    (hs : findIn K (.ref C) "__eq__" = some (some (.ref f))) (hf : isFn K (.ref f) = true)
    (h : wpAny (model prog w) A (call (.ref f) [.ref x, b]) (fun v s' => v = .notImplemented ∧ wpAny (model prog w) A (tryCompare b "__eq__" (.ref x)) (fun r s2 => r = none ∧ wpAny (model prog w) A (isSame (.ref x) b) (fun k s3 => Q (.bool k) s3) E s2) E s') E s) :
    wpAny (model prog w) A (richCompare .Eq (.ref x) b) Q E s := by
  have one : wpAny (model prog w) A (tryCompare (.ref x) "__eq__" b) (fun r s' => r = none ∧ wpAny (model prog w) A (tryCompare b "__eq__" (.ref x)) (fun r s2 => r = none ∧ wpAny (model prog w) A (isSame (.ref x) b) (fun k s3 => Q (.bool k) s3) E s2) E s') E s := by
    unfold tryCompare
    refine wpAny_bind (ifBound_K X I hs hf (wpAny_mono h (fun v s' hv => ?_) fun _ _ e => e))
    obtain ⟨rfl, hv⟩ := hv
    exact wpAny_pure ⟨rfl, hv⟩
  unfold richCompare
  simp only [oneThing_ref]
  refine wpAny_holding (wpAny_bind (wpAny_cRoomFor hu ?_))
  refine wpAny_bind (I.type.here (wpAny_bind (hb.here ?_)))
  split
  · rename_i q
    have e : subIn K tb (.ref C) = some false := by
      rcases Bool.or_eq_true_iff.mp hn with e | e
      · rw [beq_iff_eq.mp e] at q; simp at q
      · exact beq_iff_eq.mp e
    refine wpAny_bind ((looks_subIn X e).here ?_)
    simp only [Bool.false_eq_true, if_false]
    refine wpAny_bind (wpAny_mono one (fun r s' z => ?_) fun _ _ e => e)
    obtain ⟨rfl, z⟩ := z
    simp only [Bool.not_false, if_true]
    refine wpAny_bind (wpAny_mono z (fun r s' z => ?_) fun _ _ e => e)
    obtain ⟨rfl, z⟩ := z
    refine wpAny_bind (wpAny_rule ?_)
    exact wpAny_bind (wpAny_mono z (fun k s3 q => wpAny_pure q) fun _ _ e => e)
  · refine wpAny_bind (wpAny_pure ?_)
    simp only [Bool.false_eq_true, if_false]
    refine wpAny_bind (wpAny_mono one (fun r s' z => ?_) fun _ _ e => e)
    obtain ⟨rfl, z⟩ := z
    simp only [Bool.not_false, if_true]
    refine wpAny_bind (wpAny_mono z (fun r s' z => ?_) fun _ _ e => e)
    obtain ⟨rfl, z⟩ := z
    refine wpAny_bind (wpAny_rule ?_)
    exact wpAny_bind (wpAny_mono z (fun k s3 q => wpAny_pure q) fun _ _ e => e)
/-- a special method that is a built-in slot -/
theorem ifBound_B {M : Model} {id : String} {args : List Value} {Q : Option Value → Shared → Prop} (X : K.In s.heap) (I : InstAt s.heap x ox C od) (hs : findIn K (.ref C) name = some (some (.builtin id))) (hb : bindSpecial (.builtin id) (.ref x) = pure (.builtin id, [.ref x]))
    (h : wpAny M A (call (.builtin id) (.ref x :: args)) (fun v => Q (some v)) E s) : wpAny M A (callSpecialIfBound? (.ref x) name args) Q E s := by
  simp only [callSpecialIfBound?, bindSpecialIfBound?, hb]
  refine wpAny_holding (wpAny_bind (wpAny_bind (wpAny_bind (I.type.here ((looks_findIn X hs).here ?_)))))
  refine wpAny_bind (wpAny_askSetting (wpAny_ite ?_))
  have fin : wpAny M A (call (.builtin id) ([.ref x] ++ args) >>= fun v => pure (some v)) Q E s := wpAny_bind (wpAny_mono h (fun v s' h' => wpAny_pure h') fun _ _ h' => h')
  simp only [hb, pure_bind]
  split
  · exact wpAny_pure (by exact fin)
  · exact wpAny_tryCatch (wpAny_pure (by exact fin))
/-- the check of a slot of object's, called of an instance -/
theorem check_obj {M : Model} {id n : String} {rest : List Value} {Q : Unit → Shared → Prop} (hk : builtinKind id = some .slot) (hs : splitId id = some ("object", n)) (ha : argsOk id ⟨.ref x :: rest, []⟩)
    (X : K.In s.heap) (I : InstAt s.heap x ox C od) (hm : mroIn K C (.type "object") = some true) (hq : Q () s) : wpAny M A (checkBuiltinCall id ⟨.ref x :: rest, []⟩) Q E s := by
  simp only [checkBuiltinCall, hk, hs]
  refine wpAny_bind ?_
  unfold isInstance
  refine wpAny_bind (I.type.here ((looks_mroIn X hm).here ?_))
  simp only [Bool.not_true, Bool.false_eq_true, if_false]
  cases hsig : Manifest.signature? id with
  | none => exact wpAny_pure hq
  | some sig =>
    simp only [argsOk, hsig] at ha
    have h2 : Bind.checkArgs id sig ⟨.ref x :: rest, []⟩ = pure () := ha
    show wpAny M A (Bind.checkArgs id sig ⟨.ref x :: rest, []⟩) Q E _
    rw [h2]; exact wpAny_pure hq
/-- a != b by object's own, over an own == that answers True or False -/
theorem ne_K {Q : Value → Shared → Prop} (hu : A.units + 1 < cLine) (X : K.In s.heap) (I : InstAt s.heap x ox C od) (hb : Looks (model prog w) s.heap (typeOf b) tb) (hn : notFirst K C tb = true)
    (hs : findIn K (.ref C) "__eq__" = some (some (.ref f))) (hf : isFn K (.ref f) = true) (hne : findIn K (.ref C) "__ne__" = some (some (.builtin "object.__ne__"))) (hm : mroIn K C (.type "object") = some true)
    (h : wpAny (model prog w) A.in1 (call (.ref f) [.ref x, b]) (fun v s' => ∃ c, v = .bool c ∧ Q (.bool (!c)) s') E s) :
    wpAny (model prog w) A (richCompare .NotEq (.ref x) b) Q E s := by
  have body : wpAny (model prog w) A (call (.builtin "object.__ne__") [.ref x, b]) (fun v s' => ∃ c, v = .bool c ∧ Q (.bool c) s') E s := by
    refine wpAny_call ?_
    refine codeAny_call_builtin F.cmp_object.ne.plain F.cmpEntry_ne ?_
    refine check_obj (id := "object.__ne__") (n := "__ne__") (rest := [b]) (x := x) F.cmpKind_ne F.cmpSplit_ne (F.cmpArgs_ne _ _) X I hm ?_
    have h' : wpAny (model prog w) A.in1 (callSpecialIfBound? (.ref x) (Str.ofString "__eq__") [b]) (fun r s' => ∃ c, r = some (.bool c) ∧ Q (.bool (!c)) s') E s :=
      ifBound_K X I hs hf (wpAny_mono h (fun r s' hr => by obtain ⟨c, rfl, hq⟩ := hr; exact ⟨c, rfl, hq⟩) fun _ _ e => e)
    unfold Builtin.«object.__ne__»
    repeat (first
      | with_reducible refine wpAny_cRoomFor (A := A.in1) hu ?_
      | (refine wpAny_bind (m := callSpecialIfBound? (.ref x) (Str.ofString "__eq__") [b]) (wpAny_mono h' (fun r s' hr => ?_) fun _ _ e => e)
         obtain ⟨c, rfl, hq⟩ := hr)
      | wp_step)
    exact ⟨_, rfl, hq⟩
  have one : wpAny (model prog w) A (tryCompare (.ref x) "__ne__" b) (fun r s' => ∃ v, r = some v ∧ Q v s') E s := by
    unfold tryCompare
    refine wpAny_bind (ifBound_B X I hne (F.cmp_object.ne.bind _) (wpAny_mono body (fun v s' hv => ?_) fun _ _ e => e))
    obtain ⟨c, rfl, hq⟩ := hv
    exact wpAny_pure ⟨_, rfl, hq⟩
  unfold richCompare
  simp only [oneThing_ref]
  refine wpAny_holding (wpAny_bind (wpAny_cRoomFor (Nat.lt_of_succ_lt hu) ?_))
  refine wpAny_bind (I.type.here (wpAny_bind (hb.here ?_)))
  split
  · rename_i q
    have e : subIn K tb (.ref C) = some false := by
      rcases Bool.or_eq_true_iff.mp hn with e | e
      · rw [beq_iff_eq.mp e] at q; simp at q
      · exact beq_iff_eq.mp e
    refine wpAny_bind ((looks_subIn X e).here ?_)
    simp only [Bool.false_eq_true, if_false]
    refine wpAny_bind (wpAny_mono one (fun r s' z => ?_) fun _ _ e => e)
    obtain ⟨v, rfl, hq⟩ := z
    exact wpAny_pure hq
  · refine wpAny_bind (wpAny_pure ?_)
    simp only [Bool.false_eq_true, if_false]
    refine wpAny_bind (wpAny_mono one (fun r s' z => ?_) fun _ _ e => e)
    obtain ⟨v, rfl, hq⟩ := z
    exact wpAny_pure hq
end
end EO

namespace L2
open PySem PySem.Spec PyProof.Rows
/-- two instances of the class at C, compared by the text's own ==, that answers True or False -/
structure OwnE (K : PySem.W.Frag) (C f : Addr) : Prop where
  eq : PySem.W.findIn K (.ref C) "__eq__" = some (some (.ref f))
  fn : PySem.W.isFn K (.ref f) = true
  ne : PySem.W.findIn K (.ref C) "__ne__" = some (some (.builtin "object.__ne__"))
  mo : PySem.W.mroIn K C (.type "object") = some true
def rOwn (C : Addr) (sp : Sp) (g : Bool → Bool) (E : XK) : R2 := fun x y H Q => ∃ a b dx dy fs gs, x = .ref a ∧ y = .ref b ∧ H a = some (.ins C dx fs) ∧ H b = some (.ins C dy gs) ∧
  sp [x, y] H (fun v H' => ∃ c, v = .bl c ∧ Q (.bl (g c)) H') E
section
variable {X : Cx} {n : Nat} {CX : CXT} {C f : Addr} {fd : FuncData} {ps : List Str} {sp : Sp} {E : XK}
theorem own_call {A : Around} {pins : List (Addr × Obj)} {s : Shared} {σ : St} {H : Hp} {vs : List V} {us : List Value} {Q : VK} (F : FnOk X.prog X.w X.K X.mg X.base CX n f fd ps sp) (hb : Binds X.K fd ps []) (hx : Passes CX X E) (hr : Room n A) (hfr : A.frames = X.A.frames)
    (I : Inv X pins σ H s) (r : Vals vs us) (h : sp vs H Q E) : wpAny (model X.prog X.w) A (call (.ref f) us) (fun u s' => ∃ v H', Inv X pins σ H' s' ∧ RelV v u ∧ Q v H') X.xe s := by
  have e0 : Env0 X.prog X.w X.K X.mg X.base A X.stack s H := by
    have e := I.env0
    exact ⟨by rw [hfr]; exact e.frames, e.mod, e.bs, e.bsz, e.funs, e.frf, e.hok, e.bare⟩
  have hl := F.len _ _ _ _ h
  refine wpAny_call (codeAny_mono (F.run A X.stack s H ⟨us, []⟩ us vs _ E hr e0 (by
    have := hb s us I.kIn (by have := r.length; rw [List.append_nil, ← this, hl])
    simpa using this) r h) fun r s' hq => ?_)
  cases r with
  | error e => exact hx pins σ H s e s' I hq
  | ok fl =>
    cases fl with
    | ret w =>
      obtain ⟨z, H', I', rz, q⟩ := I.after hq
      exact ⟨z, H', I', rz, q⟩
    | next => exact False.elim hq
    | brk => exact False.elim hq
    | cont => exact False.elim hq
theorem op_eqOwn (O : OwnE X.K C f) (F : FnOk X.prog X.w X.K X.mg X.base CX n f fd ps sp) (hr : Room n X.A) (hb : Binds X.K fd ps []) (hx : Passes CX X E) : OpR X (compareOp .Eq) (rOwn C sp (fun c => c) E) := by
  intro pins s σ H x y u v Q I rx ry h
  obtain ⟨a, b, dx, dy, fs, gs, rfl, rfl, ha, hb', hs⟩ := h
  cases rx
  cases ry
  obtain ⟨mA, J, _⟩ := ins_get I.hok ha
  obtain ⟨mB, J', _⟩ := ins_get I.hok hb'
  obtain ⟨od, J, _⟩ := J.look
  obtain ⟨od', J', _⟩ := J'.look
  obtain ⟨m, hF⟩ := I.fr
  show wpAny (model X.prog X.w) X.A (richCompare .Eq (.ref a) (.ref b)) (EP X pins σ Q) X.xe s
  refine PySem.W.cmp_K (op := .Eq) (tb := .ref C) hr.units0 hF I.ok.mod.kin J J'.type (by simp [PySem.W.notFirst]) O.eq O.fn ?_
  refine wpAny_mono (own_call (vs := [V.ref a, V.ref b]) F hb hx hr rfl I (.cons rfl (.cons rfl .nil)) hs) (fun u s' q => ?_) fun _ _ e => e
  obtain ⟨z, H', I', rz, c, rfl, q⟩ := q
  cases rz
  exact ⟨.bl c, H', I', rfl, q⟩
theorem op_neOwn (O : OwnE X.K C f) (F : FnOk X.prog X.w X.K X.mg X.base CX n f fd ps sp) (hr : Room (n + 1) X.A) (hb : Binds X.K fd ps []) (hx : Passes CX X E) : OpR X (compareOp .NotEq) (rOwn C sp (fun c => !c) E) := by
  intro pins s σ H x y u v Q I rx ry h
  obtain ⟨a, b, dx, dy, fs, gs, rfl, rfl, ha, hb', hs⟩ := h
  cases rx
  cases ry
  obtain ⟨mA, J, _⟩ := ins_get I.hok ha
  obtain ⟨mB, J', _⟩ := ins_get I.hok hb'
  obtain ⟨od, J, _⟩ := J.look
  obtain ⟨od', J', _⟩ := J'.look
  show wpAny (model X.prog X.w) X.A (richCompare .NotEq (.ref a) (.ref b)) (EP X pins σ Q) X.xe s
  refine EO.ne_K (tb := .ref C) (by have := hr.units; omega) I.kIn J J'.type (by simp [PySem.W.notFirst]) O.eq O.fn O.ne O.mo ?_
  refine wpAny_mono (own_call (vs := [V.ref a, V.ref b]) F hb hx hr.in1 rfl I (.cons rfl (.cons rfl .nil)) hs) (fun u s' q => ?_) fun _ _ e => e
  obtain ⟨z, H', I', rz, c, rfl, q⟩ := q
  cases rz
  exact ⟨c, rfl, ⟨.bl (!c), H', I', rfl, q⟩⟩
/-! a def that begins with «if TEST: return NotImplemented», called where TEST holds -/
structure FnNI (P : Program) (w : World) (K : PySem.W.Frag) (mg : Str → Option Value) (base : Heap) (k : Nat) (f : Addr) (fd : FuncData) (ps : List Str) (pre : List V → Hp → Prop) : Prop where
  len : ∀ vs H, pre vs H → vs.length = ps.length
  run : ∀ (A : Around) (outer : List Env) (s : Shared) (H : Hp) (args : Args) (us : List Value) (vs : List V), Room k A → Env0 P w K mg base A outer s H → BindsTo s fd args (ps.zip us) → Vals vs us → pre vs H →
    codeAny (model P w) A (.call (.ref f) args) (fun r s' => r = .ok (.ret .notImplemented) ∧ CE outer P w H s (fun v H' => v = .non ∧ Same H H') .none s') s
theorem fn_NI {P : Program} {w : World} {K : PySem.W.Frag} {mg : Str → Option Value} {base : Heap} {k : Nat} {f : Addr} {name qual : Str} {params : Arguments} {body rest : List Stmt} {tst : Expr} {p1 p2 p3 : Pos} {scope : Scope} {dV kV doc pm cdv ct oc : Value} {an od : Option Addr}
    {osl : Array (Option Value)} {N ps : List Str} {pre : List V → Hp → Prop} (lk : K.lookup f = some ⟨oc, od, .func (PySem.W.fnOf name qual params body scope dV kV doc pm an cdv ct), osl⟩) (hcd : PySem.W.codeIn K cdv qual = true) (S : FnScope N ps scope)
    (len : ∀ vs H, pre vs H → vs.length = ps.length) (hbd : body = .If tst [.Return (some (.Name "NotImplemented" p1)) p2] [] p3 :: rest)
    (hg : scope.names.lookup ("NotImplemented" : Str) = some .globalImplicit) (hm : mg "NotImplemented" = none) (hv : bootBuiltins "NotImplemented" = some .notImplemented)
    (htest : ∀ (A : Around) (outer : List Env) (s : Shared) (H : Hp) (vs : List V), Room k (A.deeper (envOfC qual scope s.heap.objs.size f cdv)) → pre vs H →
      ∃ t, PT (cxOf CX0 P w K mg base N qual scope f cdv A outer s H E0).nox tst t ∧ t (start N vs) H (fun b H1 => b = true ∧ Same H H1)) :
    FnNI P w K mg base (k + 1) f (PySem.W.fnOf name qual params body scope dV kV doc pm an cdv ct) ps pre := by
  refine ⟨len, fun A outer s H args us vs hr e0 hb r hsp => ?_⟩
  have hl := len _ _ hsp
  have KX : K.In s.heap := e0.mod.kin.keeps fun b o e => (e0.bs b o e).1
  have lim : s.heap.NoLimit := e0.mod.nolimit.keeps fun b o e => (e0.bs b o e).1
  have hkind : ∀ y ∈ ps.zip us, scope.names.lookup y.1 = some .local ∨ (scope.names.lookup y.1 = some .cell ∧ ((cellsFrom (s.heap.objs.size + 1) scope.names []).lookup y.1).isSome = true) := fun ⟨n, v⟩ hy => by
    rcases S.par n (List.of_mem_zip hy).1 with q | q
    · exact .inl q
    · exact .inr ⟨q, PySem.W.cellsFrom_some _ _ _ (.inl q)⟩
  refine codeAny_call_function hr.depth (KX _ _ lk) rfl S.co S.gen rfl (PySem.W.codeRec_of KX hcd) (hb _ _ _ _ ?_)
  refine wpAny_newFunctionEnv_cells S.kind hkind fun env he s1 x => ?_
  subst he
  refine ⟨lim.keeps x.toInCall.keep, codeAny_func ?_⟩
  obtain ⟨t, ht, hq⟩ := htest A outer s H vs (hr.deeper _) hsp
  have I : Inv (cxOf CX0 P w K mg base N qual scope f cdv A outer s H E0) [] (start N vs) H s1 := inv_start S hr.hd e0 hl r x
  subst hbd
  have run : wpAny (model P w) (cxOf CX0 P w K mg base N qual scope f cdv A outer s H E0).A (execs (.If tst [.Return (some (.Name "NotImplemented" p1)) p2] [] p3 :: rest) (cxOf CX0 P w K mg base N qual scope f cdv A outer s H E0).env)
      (fun fl s' => fl = .ret .notImplemented ∧ CE outer P w H s (fun v H' => v = .non ∧ Same H H') .none s') (fun _ _ => False) s1 := by
    refine wpAny_execs_cons (wpAny_mono (wpAny_If (wpAny_mono (ht.run [] s1 (start N vs) H (fun b H1 => b = true ∧ Same H H1) (I.wish _) hq) (fun d s2 q2 => ?_) fun _ _ z => z))
      (fun fl s' (z : fl = .ret .notImplemented ∧ CE outer P w H s (fun v H' => v = .non ∧ Same H H') .none s') => ?_) fun _ _ z => z)
    · obtain ⟨H2, I2, rfl, sm⟩ := q2
      refine wpAny_execs_cons (wpAny_mono (wpAny_Return_some (Q := fun fl s' => fl = .ret .notImplemented ∧ CE outer P w H s (fun v H' => v = .non ∧ Same H H') .none s') (ld_blt I2.unwish hg hm hv ?_)) (fun fl s' z => ?_) fun _ _ z => z)
      · exact ⟨rfl, ⟨.non, H2, I2.os, I2.bare, I2.base, I2.hok, rfl, rfl, sm⟩⟩
      · obtain ⟨rfl, z⟩ := z
        exact ⟨rfl, z⟩
    · obtain ⟨rfl, z⟩ := z
      exact ⟨rfl, z⟩
  exact wpAny_mono run (fun fl s' z => by obtain ⟨rfl, z⟩ := z; exact ⟨rfl, z⟩) fun _ _ z => z.elim
end
end L2
namespace EO
open PySem PySem.W PySem.Spec PyProof.Rows L2
open SeqAt
open AutoSeq1 (wpAny_loadPart')
section
variable {prog : Program} {w : World} {A : Around} {E : Value → Shared → Prop} {s : Shared} {K : Frag} {x C : Addr} {ox : Obj} {od : Option Obj}
theorem int_declines_ins (b : Int) (u : Tok) (l dx : Addr) : Meets (Builtin.«int.__eq__» ⟨[.int b u, .ref l], []⟩) (fun _ R s => s.heap.get? l = some (instObj C dx) ∧ R (.ok (.ret .notImplemented)) s) :=
  .of_wp fun prog w A R s h => by
    obtain ⟨hp, g, d, tk, os⟩ := s; obtain ⟨hl, h⟩ := h
    wp_walk using wpAny_loadPart' hl, wpAny_load hl
    exact ⟨_, rfl, h⟩
theorem list_declines_ins {l : Addr} {items : Array Value} {R : Result → Shared → Prop} (hl : s.heap.IsList l items) (X : K.In s.heap) (I : InstAt s.heap x ox C od) (hm : mroIn K C (.type "list") = some false) (h : R (.ok (.ret .notImplemented)) s) :
    wpAny (model prog w) A.in1 (Builtin.«list.__eq__» ⟨[.ref l, .ref x], []⟩) (fun fin s' => match fin with | .done f => R (.ok f) s' | .again c' => c'.quiet = true ∧ codeAny (model prog w) A c' R s') (fun e s' => R (.error e) s') s := by
  have hx := I.at_
  have hcl := I.cls
  obtain ⟨⟨cls, dd, data, sl⟩, ho, hc, n, hd⟩ := id hl
  simp only at hc hd
  subst hc hd
  obtain ⟨cls2, dd2, data2, sl2⟩ := ox
  simp only at hcl
  subst hcl
  obtain ⟨hp, g, d, tk, os⟩ := s
  wp_walk using wpAny_loadPart' ho, wpAny_loadPart' hx
  refine (looks_mroIn X hm).here ?_
  simp only [Bool.not_false, if_true]
  wp_walk
  exact h
theorem nf {K : Frag} {C : Addr} {T : String} {l : List Value} (h : fastBuiltinMro T = some l) (hc : l.contains (.ref C) = false) : notFirst K C (.type T) = true := by
  unfold notFirst subIn
  simp only [h, Option.map_some, hc]
  simp
theorem mro_None : fastBuiltinMro "NoneType" = some [.type "NoneType", .type "object"] := by decide +kernel
theorem mro_int : fastBuiltinMro "int" = some [.type "int", .type "object"] := by decide +kernel
theorem mro_list : fastBuiltinMro "list" = some [.type "list", .type "object"] := by decide +kernel
end
end EO
namespace L2
open PySem PySem.Spec PyProof.Rows
/-- an instance compared with None, an int, a list: its own == says NotImplemented, the other's too; so False -/
def rNI (C : Addr) (pre : List V → Hp → Prop) : R2 := fun x y H Q => ∃ a dx fs, x = .ref a ∧ H a = some (.ins C dx fs) ∧ pre [x, y] H ∧ (y = .non ∨ (∃ i, y = .int i) ∨ ∃ l xs, y = .ref l ∧ H l = some (.lst xs)) ∧ ∀ H', Same H H' → Q (.bl false) H'
theorem op_eqNI {X : Cx} {n : Nat} {C f : Addr} {fd : FuncData} {ps : List Str} {pre : List V → Hp → Prop} (O : OwnE X.K C f) (ml : PySem.W.mroIn X.K C (.type "list") = some false)
    (G : FnNI X.prog X.w X.K X.mg X.base n f fd ps pre) (hr : Room n X.A) (hb : Binds X.K fd ps []) : OpR X (compareOp .Eq) (rNI C pre) := by
  intro pins s σ H x y u v Q I rx ry h
  obtain ⟨a, dx, fs, rfl, ha, hp, hy, hQ⟩ := h
  cases rx
  obtain ⟨mA, J, _⟩ := ins_get I.hok ha
  obtain ⟨od, J, _⟩ := J.look
  show wpAny (model X.prog X.w) X.A (richCompare .Eq (.ref a) v) (EP X pins σ Q) X.xe s
  have hl := G.len _ _ hp
  have call : ∀ (T : String), PySem.W.Looks (model X.prog X.w) s.heap (typeOf v) (.type T) → PySem.W.notFirst X.K C (.type T) = true →
      (∀ s' H', Inv X pins σ H' s' → Same H H' → wpAny (model X.prog X.w) X.A (tryCompare v "__eq__" (.ref a)) (fun r s2 => r = none ∧ wpAny (model X.prog X.w) X.A (isSame (.ref a) v) (fun k s3 => k = false ∧ Inv X pins σ H' s3) X.xe s2) X.xe s') →
      wpAny (model X.prog X.w) X.A (richCompare .Eq (.ref a) v) (EP X pins σ Q) X.xe s := fun T lk nf tr => by
    refine EO.cmp_dec_K (tb := .type T) hr.units0 I.kIn J lk nf O.eq O.fn ?_
    refine wpAny_call (codeAny_mono (G.run X.A X.stack s H ⟨[.ref a, v], []⟩ [.ref a, v] [.ref a, y] hr I.env0 (by
      have := hb s [.ref a, v] I.kIn (by rw [List.append_nil, ← hl]; rfl)
      simpa using this) (.cons rfl (.cons ry .nil)) hp) fun r s' hq => ?_)
    obtain ⟨rfl, hq⟩ := hq
    obtain ⟨z, H', I', rz, ez, sm⟩ := I.after hq
    refine ⟨rfl, wpAny_mono (tr s' H' I' sm) (fun r s2 q => ⟨q.1, wpAny_mono q.2 (fun k s3 q => ?_) fun _ _ e => e⟩) fun _ _ e => e⟩
    obtain ⟨rfl, I3⟩ := q
    exact ⟨.bl false, H', I3, rfl, hQ H' sm⟩
  have at' : ∀ s' H', Inv X pins σ H' s' → Same H H' → ∃ od, PySem.W.InstAt s'.heap a (PySem.W.instObj C dx) C (some od) := fun s' H' I' sm => by
    obtain ⟨mA, J, _⟩ := ins_get I'.hok (sm _ _ ha)
    obtain ⟨od, J, _⟩ := J.look
    exact ⟨od, J⟩
  rcases hy with rfl | ⟨i, rfl⟩ | ⟨l, xs, rfl, hl'⟩
  · cases ry
    refine call "NoneType" (PySem.W.Looks.of_pure rfl) (EO.nf EO.mro_None (by simp)) fun s' H' I' sm => ?_
    exact wpAny_tryCompare_declines rfl F.slot_NoneType_eq (call_gives F.slot_NoneType_eq rfl F.entry_NoneType_eq (F.args_NoneType_eq_2 _ _) (SeqAt.NoneType___eq___none_ref_0 a)
      ⟨rfl, rfl, wpAny_of_eq (rfl : isSame (.ref a) .none = pure false) ⟨rfl, I'⟩⟩)
  · obtain ⟨t, rfl⟩ := ry
    refine call "int" (PySem.W.Looks.of_pure rfl) (EO.nf EO.mro_int (by simp)) fun s' H' I' sm => ?_
    obtain ⟨od', J'⟩ := at' s' H' I' sm
    exact wpAny_tryCompare_declines (typeIs_int s' i t) F.slot_int_eq (call_meets F.slot_int_eq (typeIs_int s' i t) F.entry_int_eq (F.args_int_eq_2 _ _) (EO.int_declines_ins (C := C) i t a dx)
      ⟨J'.at_, rfl, rfl, wpAny_of_eq (rfl : isSame (.ref a) (.int i t) = pure false) ⟨rfl, I'⟩⟩)
  · cases ry
    obtain ⟨_, its, k, r, e⟩ := I.hok l _ hl'
    refine call "list" ((PySem.W.Looks.ld (part := none) e).andThen .now) (EO.nf EO.mro_list (by simp)) fun s' H' I' sm => ?_
    obtain ⟨od', J'⟩ := at' s' H' I' sm
    obtain ⟨_, its', k', r', e'⟩ := I'.hok l _ (sm _ _ hl')
    have nal : a ≠ l := ne_of ha hl' (by intro z; cases z)
    refine wpAny_tryCompare_declines ⟨_, e', rfl⟩ F.slot_list_eq (GQ.call_here F.slot_list_eq ⟨_, e', rfl⟩ F.entry_list_eq (F.args_list_eq_2 _ _) ?_)
    exact EO.list_declines_ins (R := wants _ _) ⟨_, e', rfl, _, rfl⟩ I'.kIn J' ml ⟨rfl, rfl, SeqAt.wpAny_isSame_ref_other' nal J'.at_ e' (by show Value.type "list" ≠ Value.type "tuple"; decide) ⟨rfl, I'⟩⟩
end L2
set_option Elab.async false
set_option linter.all false
set_option maxRecDepth 100000
namespace K1
open PySem L2
/-- a def of the text, by its name -/
structure Df (K : PySem.W.Frag) (mg : Str → Option Value) (x : Str) (st : Stmt) (ps : List Str) (f : Addr) (fd : FuncData) : Prop where
  F : Fun K x x st f fd
  g : mg x = some (.ref f)
  b : Binds K fd ps []
theorem Kept.seq {K : PySem.W.Frag} {d : Addr} {H H' : Hp} {a : Addr} {xs : List V} (e : Kept d H H') (n : a ≠ d) (h : SqL K H a xs) : SqL K H' a xs := by
  rcases h with (h | ⟨o, h⟩) | h
  · exact .inl (.inl (e _ _ h n))
  · exact .inl (.inr ⟨o, e _ _ h n⟩)
  · exact .inr h
theorem Kept.seqT {K : PySem.W.Frag} {d : Addr} {H H' : Hp} {a : Addr} {xs : List V} (e : Kept d H H') (n : a ≠ d) (h : SqT K H a xs) : SqT K H' a xs := by
  rcases h with (h | ⟨o, h⟩) | h
  · exact .inl (.inl (e _ _ h n))
  · exact .inl (.inr ⟨o, e _ _ h n⟩)
  · exact .inr h
def spPickL (K : PySem.W.Frag) : Sp := fun vs H Q _ => ∃ (d c p : Addr) (n : Nat) (xs : List V), vs = [.ref d, .ref p] ∧ PenAt H d c n ∧ n ≤ 1000000 ∧ p ≠ d ∧ SqL K H p xs ∧ 0 < xs.length ∧ xs.length < 1073741824 ∧
  ∀ (x : V) (H' : Hp), x ∈ xs → PenAt H' d c (n + 1) → Kept d H H' → Q x H'
def spPickS : Sp := fun vs H Q _ => ∃ (d q : Addr) (n : Nat) (z : Str), vs = [.ref d, .str z] ∧ PenAt H d q n ∧ n ≤ 1000000 ∧ 0 < z.length ∧ z.length < 10000 ∧
  ∀ (c : Nat) (H' : Hp), c ∈ z.cps.toList → PenAt H' d q (n + 1) → Kept d H H' → Q (.str ⟨#[c]⟩) H'
section
variable {P : Program} {w : World} {K : PySem.W.Frag} {mg : Str → Option Value} {base : Heap}
theorem scPick : FnScope ["_law_pen_here", "_law_some"] ["_law_pen_here", "_law_some"] (defScope sPick) := ⟨rfl, rfl, rfl, by decide +kernel, rfl, by decide +kernel, by decide +kernel⟩
abbrev pDraw : List Str := ["_law_pen_here", "_law_many"]
abbrev pPick : List Str := ["_law_pen_here", "_law_some"]
theorem ok_pickL {f fD : Addr} {fd fdD : FuncData} (D : Df K mg "_law_pick" sPick pPick f fd) (DD : Df K mg "_law_draw" sDraw pDraw fD fdD) (T : Bt mg) : FnOk P w K mg base CX0 2 f fd pPick (spPickL K) := by
  have GD : FnOk P w K mg base CX0 1 fD fdD pDraw spDraw := ok_draw DD.F T
  refine D.F.ok scPick (fun vs H Q E h => ?_) (fun cdv A outer s H vs Q E hr h => ?_)
  · obtain ⟨d, c, p, n, xs, rfl, _⟩ := h
    rfl
  · obtain ⟨d, c, p, n, xs, rfl, hp, hn, npd, hx, h0, h1, k⟩ := h
    refine ⟨_, pss_one (ps_ret (pe_ix ix_list (pv 1) (pe_call GD hr rfl DD.g DD.F.kp DD.b .nil pass0 (pa_cons (pv 0) (pa_cons (pe_callB call_len (by rfl) T.len PySem.boot_len (pa_cons (pv 1) pa_nil)) pa_nil))) (fun _ _ => rfl))), ?_⟩
    refine ⟨_, rfl, _, rfl, _, rfl, _, xs.length, rfl, .inl ⟨_, hx, rfl⟩, d, c, n, xs.length, rfl, hp, hn, by omega, by omega, fun r H' r0 r1 hp' kp => ?_⟩
    obtain ⟨j, rfl⟩ : ∃ j : Nat, r = (j : Int) := ⟨r.toNat, by omega⟩
    have hj : j < xs.length := by omega
    exact ⟨p, xs, _, xs[j], rfl, rfl, kp.seq npd hx, atI_nat (by simp [hj]), k _ _ (List.getElem_mem _) hp' kp⟩
theorem ok_pickS {f fD : Addr} {fd fdD : FuncData} (D : Df K mg "_law_pick" sPick pPick f fd) (DD : Df K mg "_law_draw" sDraw pDraw fD fdD) (T : Bt mg) : FnOk P w K mg base CX0 2 f fd pPick spPickS := by
  have GD : FnOk P w K mg base CX0 1 fD fdD pDraw spDraw := ok_draw DD.F T
  refine D.F.ok scPick (fun vs H Q E h => ?_) (fun cdv A outer s H vs Q E hr h => ?_)
  · obtain ⟨d, q, n, z, rfl, _⟩ := h
    rfl
  · obtain ⟨d, q, n, z, rfl, hp, hn, h0, h1, k⟩ := h
    have hz : z.length ≤ sizeLine := Nat.le_trans (Nat.le_of_lt h1) (by decide)
    refine ⟨_, pss_one (ps_ret (pe_ix ix_str (pv 1) (pe_call GD hr rfl DD.g DD.F.kp DD.b .nil pass0 (pa_cons (pv 0) (pa_cons (pe_callB call_len (by rfl) T.len PySem.boot_len (pa_cons (pv 1) pa_nil)) pa_nil))) (fun _ _ => rfl))), ?_⟩
    refine ⟨_, rfl, _, rfl, _, rfl, _, z.length, rfl, ⟨hz, rfl⟩, d, q, n, z.length, rfl, hp, hn, by omega, by omega, fun r H' r0 r1 hp' kp => ?_⟩
    obtain ⟨j, rfl⟩ : ∃ j : Nat, r = (j : Int) := ⟨r.toNat, by omega⟩
    have hj : j < z.cps.toList.length := by
      have : z.length = z.cps.toList.length := by simp [Str.length]
      omega
    exact ⟨z, _, z.cps.toList[j], rfl, rfl, hz, atI_nat (by simp [hj]), k _ _ (List.getElem_mem _) hp' kp⟩
end
end K1
set_option Elab.async false
set_option linter.all false
set_option maxRecDepth 100000
namespace K1
open PySem L2
/-! the words -/
abbrev zLE : Str := "abcdefghijklmnopqrstuvwxyz"
abbrev zDG : Str := "0123456789"
def LE : List Nat := zLE.cps.toList
def AL : List Nat := LE ++ zDG.cps.toList
theorem LE_eq : LE = (List.range 26).map (· + 97) := by decide +kernel
def one (c : Nat) : Str := ⟨#[c]⟩
theorem joinL_nil : ∀ l : List (List Nat), TL.joinL [] l = l.flatten
  | [] => rfl
  | [p] => by simp [TL.joinL]
  | p :: q :: r => by rw [TL.joinL, joinL_nil (q :: r)]; simp
theorem join_ones (cs : List Nat) : (Txt.join ("" : Str) (cs.map one)).cps.toList = cs := by
  have e1 : ((cs.map one).map TL.tl).flatten = cs := by
    induction cs with
    | nil => rfl
    | cons c r ih => simp [one, TL.tl] at ih ⊢; exact ih
  have e := TL.tl_join ("" : Str) (cs.map one)
  rw [TL.join_eq]
  have e0 : TL.tl ("" : Str) = [] := by decide +kernel
  rw [e0, joinL_nil, e1] at e
  exact e
theorem sum_ones : ∀ cs : List Nat, ((cs.map one).map (·.length)).sum = cs.length
  | [] => rfl
  | c :: r => by
    have := sum_ones r
    simp only [List.map_cons, List.sum_cons, List.length_cons, this]
    show 1 + r.length = _
    omega
/-- a word as the pen makes it -/
def Wd (z : Str) : Prop := ∃ c r, z.cps.toList = c :: r ∧ c ∈ LE ∧ (∀ x ∈ r, x ∈ AL) ∧ r.length ≤ 10
theorem AL_eq : AL = (zLE ++ zDG).cps.toList := by decide +kernel
def wordAt (zF zB : Str) (a b k : Nat) : Str := zF ++ one (LE.getD ((a + b * k) % 26) 0) ++ zB
theorem tl_wordAt (zF zB : Str) (a b k : Nat) : (wordAt zF zB a b k).cps.toList = zF.cps.toList ++ (LE.getD ((a + b * k) % 26) 0 :: zB.cps.toList) := by
  unfold wordAt
  have e1 := TL.tl_append (zF ++ one (LE.getD ((a + b * k) % 26) 0)) zB
  have e2 := TL.tl_append zF (one (LE.getD ((a + b * k) % 26) 0))
  unfold TL.tl at e1 e2
  rw [e1, e2]
  simp [one]
theorem LE_len : LE.length = 26 := by decide +kernel
theorem LE_getD {i : Nat} (h : i < 26) : LE.getD i 0 = i + 97 := by
  rw [LE_eq]
  simp [h]
theorem LE_mem {i : Nat} (h : i < 26) : LE.getD i 0 ∈ LE := by
  have : i < LE.length := by rw [LE_len]; exact h
  rw [List.getD_eq_getElem?_getD, List.getElem?_eq_getElem this]
  exact List.getElem_mem _
theorem LE_AL {c : Nat} (h : c ∈ LE) : c ∈ AL := List.mem_append_left _ h
theorem wordAt_wd {zF zB : Str} {a b k : Nat} (hF : ∀ c ∈ zF.cps.toList, c ∈ LE) (lF : zF.cps.toList.length ≤ 3) (hB : ∀ c ∈ zB.cps.toList, c ∈ AL) (lB : zB.cps.toList.length ≤ 3) : Wd (wordAt zF zB a b k) := by
  unfold Wd
  rw [tl_wordAt]
  have hm := LE_mem (i := (a + b * k) % 26) (Nat.mod_lt _ (by decide))
  generalize LE.getD ((a + b * k) % 26) 0 = c at hm
  generalize zF.cps.toList = F at hF lF
  generalize zB.cps.toList = B at hB lB
  cases F with
  | nil => exact ⟨c, B, rfl, hm, hB, by omega⟩
  | cons x r =>
    simp only [List.length_cons] at lF
    refine ⟨x, r ++ c :: B, rfl, hF x (List.mem_cons_self ..), fun y hy => ?_, by simp; omega⟩
    rcases List.mem_append.mp hy with h | h
    · exact LE_AL (hF y (List.mem_cons_of_mem _ h))
    · rcases List.mem_cons.mp h with rfl | h
      · exact LE_AL hm
      · exact hB y h
theorem step_inj {a b i j : Nat} (hb : b = 1 ∨ b = 3 ∨ b = 5 ∨ b = 7 ∨ b = 9 ∨ b = 11) (hi : i < 26) (hj : j < 26) (h : (a + b * i) % 26 = (a + b * j) % 26) : i = j := by
  rcases hb with rfl | rfl | rfl | rfl | rfl | rfl <;> omega
theorem wordAt_inj {zF zB : Str} {a b i j : Nat} (hb : b = 1 ∨ b = 3 ∨ b = 5 ∨ b = 7 ∨ b = 9 ∨ b = 11) (hi : i < 26) (hj : j < 26) (h : wordAt zF zB a b i = wordAt zF zB a b j) : i = j := by
  have e := congrArg (fun z : Str => z.cps.toList) h
  simp only [tl_wordAt] at e
  have e2 := List.append_cancel_left e
  injection e2 with e3 _
  rw [LE_getD (Nat.mod_lt _ (by decide)), LE_getD (Nat.mod_lt _ (by decide))] at e3
  exact step_inj (a := a) hb hi hj (by omega)
theorem words_nodup {zF zB : Str} {a b : Nat} (hb : b = 1 ∨ b = 3 ∨ b = 5 ∨ b = 7 ∨ b = 9 ∨ b = 11) : ∀ m, m ≤ 26 → ((List.range m).map (wordAt zF zB a b)).Nodup := fun m hm => by
  rw [List.nodup_iff_pairwise_ne, List.pairwise_map]
  refine List.Pairwise.imp_of_mem ?_ (List.nodup_iff_pairwise_ne.mp List.nodup_range)
  intro i j hi hj hne h
  exact hne (wordAt_inj hb (Nat.lt_of_lt_of_le (List.mem_range.mp hi) hm) (Nat.lt_of_lt_of_le (List.mem_range.mp hj) hm) h)
theorem one_len (c : Nat) : (one c).length = 1 := rfl
theorem len_tl (z : Str) : z.length = z.cps.toList.length := by simp [Str.length]
/-- words: many new words, no two equal -/
def spWords (K : PySem.W.Frag) : Sp := fun vs H Q _ => ∃ (d c : Addr) (n m : Nat), vs = [.ref d, .int (m : Int)] ∧ PenAt H d c n ∧ n ≤ 900000 ∧ m ≤ 26 ∧
  ∀ (p : Addr) (ws : List Str) (H' : Hp), H p = none → H' p = some (.lst (ws.map V.str)) → ws.length = m → ws.Nodup → (∀ z ∈ ws, Wd z) → (∃ k, k ≤ 7 ∧ ∀ z ∈ ws, z.cps.toList.length = k) → PenAt H' d c (n + 20) → Kept d H H' → Q (.ref p) H'
section
variable {P : Program} {w : World} {K : PySem.W.Frag} {mg : Str → Option Value} {base : Heap}
abbrev nWords : List Str := ["_law_pen_here", "_law_many", "_law_letters", "_law_front", "_law_back", "_law_first", "_law_step", "_law_k"]
theorem scWords : FnScope nWords ["_law_pen_here", "_law_many"] (defScope sWords) := ⟨rfl, rfl, rfl, by decide +kernel, rfl, by decide +kernel, by decide +kernel⟩
theorem ok_words {f fD fP : Addr} {fd fdD fdP : FuncData} (D : Df K mg "_law_words" sWords pDraw f fd) (DD : Df K mg "_law_draw" sDraw pDraw fD fdD) (DP : Df K mg "_law_pick" sPick pPick fP fdP) (T : Bt mg) : FnOk P w K mg base CX0 3 f fd pDraw (spWords K) := by
  have GD : FnOk P w K mg base CX0 1 fD fdD pDraw spDraw := ok_draw DD.F T
  have GS : FnOk P w K mg base CX0 2 fP fdP pPick spPickS := ok_pickS DP DD T
  refine D.F.ok scWords (fun vs H Q E h => ?_) (fun cdv A outer s H vs Q E hr h => ?_)
  · obtain ⟨d, c, n, m, rfl, _⟩ := h
    rfl
  · obtain ⟨d, q, n, m, rfl, hp, hn, hm, k⟩ := h
    have hr1 : Room 1 _ := hr.mono (by decide)
    refine ⟨_, pss_cons (ps_set (i := 2) scWords.nd rfl (Or.inr rfl) pe_str)
      (pss_cons (ps_set (i := 3) scWords.nd rfl (Or.inr rfl) (pe_join pe_str (pe_lc (own := [("_law_k", 7)]) (g := gName 7) (by rfl) scWords.nd
        (pi_range1 rfl T.range (pa_cons (pe_call GD hr1 rfl DD.g DD.F.kp DD.b .nil pass0 (pa_cons (pv 0) (pa_cons pe_int pa_nil))) pa_nil))
        (blkOk_by (own := [("_law_k", 7)]) (N := nWords) (sc := defScope sWords) (by decide +kernel)) (fun _ _ _ _ _ => pg_name (i := 7) scWords.nd rfl (Or.inl rfl)) (fun _ _ _ _ _ => pts_nil)
        (fun _ _ _ _ _ => pe_call GS hr rfl DP.g DP.F.kp DP.b .nil pass0 (pa_cons (pv 0) (pa_cons (pv 2) pa_nil))))))
      (pss_cons (ps_set (i := 4) scWords.nd rfl (Or.inr rfl) (pe_join pe_str (pe_lc (own := [("_law_k", 7)]) (g := gName 7) (by rfl) scWords.nd
        (pi_range1 rfl T.range (pa_cons (pe_call GD hr1 rfl DD.g DD.F.kp DD.b .nil pass0 (pa_cons (pv 0) (pa_cons pe_int pa_nil))) pa_nil))
        (blkOk_by (own := [("_law_k", 7)]) (N := nWords) (sc := defScope sWords) (by decide +kernel)) (fun _ _ _ _ _ => pg_name (i := 7) scWords.nd rfl (Or.inl rfl)) (fun _ _ _ _ _ => pts_nil)
        (fun _ _ _ _ _ => pe_call GS hr rfl DP.g DP.F.kp DP.b .nil pass0 (pa_cons (pv 0) (pa_cons (pe_op op_add_str (pv 2) pe_str) pa_nil))))))
      (pss_cons (ps_asg (pe_tup (pa_cons (pe_call GD hr1 rfl DD.g DD.F.kp DD.b .nil pass0 (pa_cons (pv 0) (pa_cons pe_int pa_nil)))
          (pa_cons (pe_ix ix_list (pe_lst (pa_cons pe_int (pa_cons pe_int (pa_cons pe_int (pa_cons pe_int (pa_cons pe_int (pa_cons pe_int pa_nil))))))) (pe_call GD hr1 rfl DD.g DD.F.kp DD.b .nil pass0 (pa_cons (pv 0) (pa_cons pe_int pa_nil))) (fun _ _ => rfl)) pa_nil)))
          (pg_tup (by rfl) (pgs_cons (pg_name (i := 5) scWords.nd rfl (Or.inr rfl)) (pgs_cons (pg_name (i := 6) scWords.nd rfl (Or.inr rfl)) pgs_nil))))
      (pss_one (ps_ret (pe_lc (own := [("_law_k", 7)]) (g := gName 7) (by rfl) scWords.nd
        (pi_range1 rfl T.range (pa_cons (pv 1) pa_nil))
        (blkOk_by (own := [("_law_k", 7)]) (N := nWords) (sc := defScope sWords) (by decide +kernel)) (fun _ _ _ _ _ => pg_name (i := 7) scWords.nd rfl (Or.inl rfl)) (fun _ _ _ _ _ => pts_nil)
        (fun _ _ _ _ _ => pe_op op_add_str (pe_op op_add_str (pv 3) (pe_ix ix_str (pv 2) (pe_op op_modN (pe_callTy call_int1 (by rfl) T.int (by decide +kernel) (pa_cons (pe_op op_add (pv 5) (pe_op op_mul (pv 6) (pv 7))) pa_nil)) pe_int) (fun _ _ => rfl))) (pv 4)))))))), ?_⟩
    -- front
    refine ⟨⟨_, rfl⟩, _, rfl, d, q, n, 4, rfl, hp, by omega, by decide, by decide, fun r H1 r0 r1 hp1 kp1 => ⟨r, rfl, by omega, by omega, fun D1 hD1 => ?_⟩⟩
    obtain ⟨j, rfl⟩ : ∃ j : Nat, r = (j : Int) := ⟨r.toNat, by omega⟩
    rw [Int.toNat_natCast]
    have zD1 : H D1 = none := kp1.free hp1 hD1
    obtain ⟨nDd, nDq⟩ := hp.ne zD1
    refine lc_range (lo := 0) (n := j) (fun i H' => ∃ cs : List Nat, cs.length = i ∧ (∀ c ∈ cs, c ∈ LE) ∧ H' D1 = some (.lst ((cs.map one).map V.str)) ∧ PenAt H' d q (n + 1 + i) ∧ Kept d H H') ?_ ?_ ?_
    · exact ⟨[], rfl, by simp, upd_same, hp1.upd nDd nDq, kp1.upd zD1⟩
    · rintro i H2 hi ⟨cs, hcs, hc, hD, hp2, kp2⟩
      refine ⟨rfl, _, rfl, _, rfl, d, q, _, zLE, rfl, hp2, by omega, by decide +kernel, by decide +kernel, fun c H3 hcm hp3 kp3 => ?_⟩
      have hD3 := kp3 _ _ hD nDd
      refine ⟨_, hD3, ?_, cs ++ [c], by simp [hcs], ?_, ?_, ?_, ?_⟩
      · simp; exact small1000 (by omega)
      · intro x hx
        rcases List.mem_append.mp hx with h | h
        · exact hc x h
        · rw [List.mem_singleton.mp h]; exact hcm
      · rw [upd_same]; simp [one]
      · exact (hp3.upd nDd nDq).mono (by omega)
      · exact (kp2.trans kp3).upd zD1
    · rintro H2 ⟨F, hF, hFm, hD, hp2, kp2⟩
      clear hp1 kp1 hD1
      refine ⟨_, D1, F.map one, rfl, rfl, .inl (SqL.of hD), ?_, ?_⟩
      · rw [sum_ones, List.length_map]
        show F.length + F.length * 0 ≤ 16777216
        omega
      have eF := join_ones F
      generalize Txt.join ("" : Str) (F.map one) = zF at eF ⊢
      -- back
      refine ⟨⟨_, rfl⟩, _, rfl, d, q, _, 4, rfl, hp2, by omega, by decide, by decide, fun r H3 s0 s1 hp3 kp3 => ⟨r, rfl, by omega, by omega, fun D2 hD2 => ?_⟩⟩
      obtain ⟨j', rfl⟩ : ∃ j' : Nat, r = (j' : Int) := ⟨r.toNat, by omega⟩
      rw [Int.toNat_natCast]
      have zD2 : H D2 = none := (kp2.trans kp3).free hp3 hD2
      obtain ⟨mDd, mDq⟩ := hp.ne zD2
      refine lc_range (lo := 0) (n := j') (fun i H' => ∃ cs : List Nat, cs.length = i ∧ (∀ c ∈ cs, c ∈ AL) ∧ H' D2 = some (.lst ((cs.map one).map V.str)) ∧ PenAt H' d q (n + 5 + i) ∧ Kept d H H') ?_ ?_ ?_
      · exact ⟨[], rfl, by simp, upd_same, (hp3.upd mDd mDq).mono (by omega), (kp2.trans kp3).upd zD2⟩
      · rintro i H4 hi ⟨cs, hcs, hc, hD', hp4, kp4⟩
        refine ⟨rfl, _, rfl, _, rfl, _, _, rfl, rfl, by decide +kernel, d, q, _, zLE ++ zDG, rfl, hp4, by omega, by decide +kernel, by decide +kernel, fun c H5 hcm hp5 kp5 => ?_⟩
        have hD5 := kp5 _ _ hD' mDd
        refine ⟨_, hD5, ?_, cs ++ [c], by simp [hcs], ?_, ?_, ?_, ?_⟩
        · simp; exact small1000 (by omega)
        · intro x hx
          rcases List.mem_append.mp hx with h | h
          · exact hc x h
          · rw [List.mem_singleton.mp h, AL_eq]; exact hcm
        · rw [upd_same]; simp [one]
        · exact (hp5.upd mDd mDq).mono (by omega)
        · exact (kp4.trans kp5).upd zD2
      · rintro H4 ⟨B, hB, hBm, hD', hp4, kp4⟩
        clear hp3 kp3 hD2
        refine ⟨_, D2, B.map one, rfl, rfl, .inl (SqL.of hD'), ?_, ?_⟩
        · rw [sum_ones, List.length_map]
          show B.length + B.length * 0 ≤ 16777216
          omega
        have eB := join_ones B
        generalize Txt.join ("" : Str) (B.map one) = zB at eB ⊢
        -- first, step
        refine ⟨_, rfl, d, q, _, 26, rfl, hp4, by omega, by decide, by decide, fun a H5 a0 a1 hp5 kp5 => ?_⟩
        refine ⟨by decide, fun l hl => ?_⟩
        have zl : H l = none := (kp4.trans kp5).free hp5 hl
        obtain ⟨nld, nlq⟩ := hp.ne zl
        refine ⟨_, rfl, d, q, _, 6, rfl, hp5.upd nld nlq, by omega, by decide, by decide, fun b H6 b0 b1 hp6 kp6 => ?_⟩
        obtain ⟨a, rfl⟩ : ∃ j : Nat, a = (j : Int) := ⟨a.toNat, by omega⟩
        obtain ⟨b, rfl⟩ : ∃ j : Nat, b = (j : Int) := ⟨b.toNat, by omega⟩
        have hl6 := kp6 l _ upd_same nld
        obtain ⟨st, hst, hst2⟩ : ∃ st : Nat, ([V.int 1, V.int 3, V.int 5, V.int 7, V.int 9, V.int 11] : List V)[b]? = some (.int (st : Int)) ∧ (st = 1 ∨ st = 3 ∨ st = 5 ∨ st = 7 ∨ st = 9 ∨ st = 11) := by
          have : b < 6 := by omega
          rcases b with _ | _ | _ | _ | _ | _ | b
          · exact ⟨1, rfl, by simp⟩
          · exact ⟨3, rfl, by simp⟩
          · exact ⟨5, rfl, by simp⟩
          · exact ⟨7, rfl, by simp⟩
          · exact ⟨9, rfl, by simp⟩
          · exact ⟨11, rfl, by simp⟩
          · omega
        refine ⟨l, _, _, _, rfl, rfl, SqL.of hl6, atI_nat hst, ?_⟩
        refine ⟨by show 2 ≤ sizeLine; decide, fun t ht => ?_⟩
        refine ⟨t, _, rfl, SqT.of upd_same, rfl, ?_⟩
        have hp7 : PenAt (upd H6 t (.tup [V.int (a : Int), V.int (st : Int)])) d q (n + 20) := (hp6.same (same_upd ht)).mono (by omega)
        have kp7 : Kept d H (upd H6 t (.tup [V.int (a : Int), V.int (st : Int)])) := (((kp4.trans kp5).upd zl).trans kp6).trans (.same (same_upd ht))
        generalize upd H6 t (.tup [V.int (a : Int), V.int (st : Int)]) = H7 at hp7 kp7 ⊢
        refine ⟨_, _, rfl, _, _, rfl, rfl, ?_⟩
        -- the words
        refine ⟨_, rfl, (m : Int), rfl, by omega, by omega, fun D3 hD3 => ?_⟩
        rw [Int.toNat_natCast]
        have zD3 : H D3 = none := kp7.free hp7 hD3
        obtain ⟨oDd, oDq⟩ := hp.ne zD3
        have lzF : zF.length ≤ 3 := by rw [len_tl, eF, hF]; omega
        have lzB : zB.length ≤ 3 := by rw [len_tl, eB, hB]; omega
        refine lc_range (lo := 0) (n := m) (fun i H' => H' D3 = some (.lst (((List.range i).map (wordAt zF zB a st)).map V.str)) ∧ PenAt H' d q (n + 20) ∧ Kept d H H') ?_ ?_ ?_
        · exact ⟨upd_same, hp7.upd oDd oDq, kp7.upd zD3⟩
        · rintro i H8 hi ⟨hD8, hp8, kp8⟩
          have hi26 : i < 26 := by omega
          refine ⟨rfl, _, rfl, _, rfl, _, rfl, _, rfl, _, rfl, _, _, rfl, rfl, .inl ⟨by omega, by omega⟩, _, _, rfl, rfl, .inl ⟨_, rfl, ?_⟩⟩
          refine ⟨_, _, rfl, rfl, by show (26 : Int) ≠ 0; decide, ?_⟩
          have ei : ((a : Int) + (st : Int) * (0 + (i : Int))).fmod 26 = (((a + st * i) % 26 : Nat) : Int) := by
            rw [Int.fmod_eq_emod_of_nonneg _ (by decide)]
            simp
          have hlt : (a + st * i) % 26 < 26 := Nat.mod_lt _ (by decide)
          refine ⟨zLE, _, LE.getD ((a + st * i) % 26) 0, rfl, rfl, by decide +kernel, ?_, _, _, rfl, rfl, ?_, _, rfl, _, _, rfl, rfl, ?_, _, hD8, ?_, ?_, ?_, ?_⟩
          · show atI LE (((a : Int) + (st : Int) * (0 + (i : Int))).fmod 26) = _
            rw [ei]
            refine atI_nat ?_
            show LE[(a + st * i) % 26]? = _
            have : (a + st * i) % 26 < LE.length := by rw [LE_len]; exact hlt
            rw [List.getD_eq_getElem?_getD, List.getElem?_eq_getElem this]
            rfl
          · show zF.length + 1 ≤ sizeLine
            exact Nat.le_trans (by omega : zF.length + 1 ≤ 100) (by decide)
          · have e1 : (zF ++ (⟨#[LE.getD ((a + st * i) % 26) 0]⟩ : Str)).length = zF.length + 1 := by
              rw [len_tl, len_tl]
              have := TL.tl_append zF (⟨#[LE.getD ((a + st * i) % 26) 0]⟩ : Str)
              unfold TL.tl at this
              rw [this]
              simp
            rw [e1]
            exact Nat.le_trans (by omega : zF.length + 1 + zB.length ≤ 100) (by decide)
          · simp; exact small1000 (by omega)
          · rw [upd_same, List.range_succ]
            simp [wordAt, one]
          · exact hp8.upd oDd oDq
          · exact kp8.upd zD3
        · rintro H8 ⟨hD8, hp8, kp8⟩
          refine k D3 _ H8 zD3 hD8 (by simp) (words_nodup hst2 m hm) (fun z hz => ?_) ⟨zF.cps.toList.length + 1 + zB.cps.toList.length, ?_, fun z hz => by
            obtain ⟨i, _, rfl⟩ := List.mem_map.mp hz
            rw [tl_wordAt]; simp; omega⟩ hp8 kp8
          · obtain ⟨i, _, rfl⟩ := List.mem_map.mp hz
            refine wordAt_wd (fun c hc => hFm c (eF ▸ hc)) (by rw [eF, hF]; omega) (fun c hc => hBm c (eB ▸ hc)) (by rw [eB, hB]; omega)
          · rw [eF, hF, eB, hB]; omega
end
end K1
set_option Elab.async false
set_option linter.all false
set_option maxRecDepth 100000
/-! tuples whose object is known to have no dict: their methods can be called -/
namespace L2
open PySem PySem.Spec PyProof.Rows
def SqF (H : Hp) (a : Addr) (xs : List V) : Prop := ∃ o, H a = some (.frz o (.tup xs)) ∧ o.dict = none
theorem SqF.sq {K : PySem.W.Frag} {H : Hp} {a : Addr} {xs : List V} (h : SqF H a xs) : SqT K H a xs := by
  obtain ⟨o, h, _⟩ := h
  exact .inl (.inr ⟨o, h⟩)
section
variable {X : Cx}
/-- tuple(xs): a new tuple, known to be one that was made -/
def rTuF (K : PySem.W.Frag) : List V → Hp → VK → Prop := fun xs H Q => ∃ p ys, xs = [.ref p] ∧ ((SqL K H p ys ∧ ∀ l o, H l = none → o.dict = none → Q (.ref l) (upd H l (.frz o (.tup ys)))) ∨ (SqT K H p ys ∧ Q (.ref p) H))
theorem call_tuple_F : CallR X (.type "tuple") (rTuF X.K) := by
  intro pins s σ H xs us Q I r h
  obtain ⟨p, ys, rfl, h⟩ := h
  obtain ⟨u, rfl, rx⟩ := vals1 r
  cases rx
  rcases h with ⟨hq, q⟩ | ⟨hq, q⟩
  · obtain ⟨its, r', pl, hz⟩ := I.list hq
    have hlen := r'.length
    refine call_tuple_list pl.isList (fun h' kp => ?_) (by simp only [List.size_toArray] <;> omega)
    have I1 : Inv X pins σ H { s with heap := h' } := I.kept (t' := s.toks) kp
    have I2 : Inv X pins σ (upd H h'.objs.size (.frz { cls := .type "tuple", data := .seq its.toArray } (.tup ys))) { s with heap := h'.push { cls := .type "tuple", data := .seq its.toArray } } :=
      I1.laid (t' := s.toks) (fun b o e => Heap.get?_push_of_some _ e) (Nat.le_refl _) (show ObjOk X.prog X.w _ _ _ (.frz _ (.tup ys)) from ⟨Heap.get?_push_size _ rfl, hz, its, r', IsTup.new _ _⟩)
    exact ⟨.ref h'.objs.size, _, I2, rfl, q _ _ (I1.hok.fresh (Nat.le_refl _)) rfl⟩
  · obtain ⟨its, r', pl, hz⟩ := I.tuple hq
    exact call_tuple_same pl ⟨.ref p, H, I, rfl, q⟩
def tBMF (r : V → List V → Hp → VK → Prop) (to : TE) (t : TA) : TE := fun σ H Q => to σ H fun x H1 => (∃ p xs, x = .ref p ∧ SqF H1 p xs) ∧ t σ H1 fun xs H2 => r x xs H2 Q
theorem pe_bmF {o e : Expr} {es : List Expr} {to : TE} {t : TA} {name : Str} {apos cpos : Pos} {id : String} {r : V → List V → Hp → VK → Prop}
    (slot : Slot "tuple" name id) (hty : typeOf (.builtin id) = pure (.type "method_descriptor")) (hm : MtR X id r) (ho : PE X o to) (ha : PA X (e :: es) t)
    (hbase : attributeBase o name X.env (eval o X.env) = eval o X.env := by rfl)
    (hfew : ((backTo cpos (starEach (e :: es) X.env)).all (fun x => !x.1) && (backToKw cpos (keywordEach [] X.env)).all (fun x => x.1.isSome)
      && decide ((e :: es).length + ([] : List Keyword).length + (if ([] : List Keyword).isEmpty then 0 else 1) < 30)) = true := by rfl)
    (hline : (apos.endLine == cpos.line) = true := by rfl) (hs : starEach (e :: es) X.env = (false, eval e X.env) :: starEach es X.env := by rfl) (hplain : (backTo cpos (starEach es X.env)).any (·.1) = false := by rfl) :
    PE X (.Call (.Attribute o name apos) (e :: es) [] cpos) (tBMF r to t) := by
  refine ⟨fun pins s σ H Q I h => ?_⟩
  refine wpAny_Call_method_late hbase hfew hline rfl (thn (ho.run pins s σ H _ I h) fun v s1 ⟨x, H1, I1, r1, ⟨p, ys, ex, fz⟩, q1⟩ => ?_)
  subst ex
  cases (show v = Value.ref p from r1)
  obtain ⟨ob, hF, hd⟩ := fz
  obtain ⟨hg, _, its, _, o2, ho2, hc2, _⟩ := I1.hok p _ hF
  rw [hg] at ho2
  cases ho2
  refine ⟨"tuple", id, PySem.F.plainAttrs_tuple, slot, hty, ⟨ob, hg, hc2⟩, fun a ea => by cases ea; exact ⟨ob, hg, hd⟩, ?_⟩
  have hA := ha.run cpos pins s1 σ H1 _ I1 q1
  rw [hs] at hA ⊢
  refine Calls.callWith_builtin (by show (false || (backTo cpos (starEach es X.env)).any (·.1)) = false; rw [hplain] <;> rfl) (Calls.evalArgs_plain ?_)
  exact thn hA fun us s2 ⟨vs, H2, I2, r2, q2⟩ => hm pins s2 σ H2 (.ref p) vs (.ref p) us Q I2 r1 r2 q2
end
theorem SqF.same {H H' : Hp} {a : Addr} {xs : List V} (h : SqF H a xs) (s : Same H H') : SqF H' a xs := by
  obtain ⟨o, h, e⟩ := h
  exact ⟨o, s _ _ h, e⟩
theorem SqF.upd {H : Hp} {a D : Addr} {o : HO} {xs : List V} (h : SqF H a xs) (n : a ≠ D) : SqF (upd H D o) a xs := by
  obtain ⟨o, h, e⟩ := h
  exact ⟨o, by rw [upd_ne n]; exact h, e⟩
end L2
namespace K1
open PySem L2
theorem Kept.seqF {d : Addr} {H H' : Hp} {a : Addr} {xs : List V} (k : Kept d H H') {u : HO} (hd : H d = some u) (n : ∀ o ys, u ≠ .frz o (.tup ys)) (h : SqF H a xs) : SqF H' a xs := by
  obtain ⟨o, h, e⟩ := h
  exact ⟨o, k _ _ h (fun z => by rw [z, hd] at h; cases h; exact n _ _ rfl), e⟩
end K1
set_option Elab.async false
set_option linter.all false
set_option maxRecDepth 100000
namespace K1
open PySem L2
abbrev sPlain : Stmt := top 51
def valOf : Stmt → Expr
  | .Assign _ v _ => v
  | .Return (some v) _ => v
  | _ => .Constant .none 0 ⟨0, 0, 0, 0⟩
def compScope : Expr → Scope
  | .ListComp _ _ sc _ => sc
  | _ => { kind := .function, names := [], isGenerator := false, isCoroutine := false }
def eltOf : Expr → Expr
  | .ListComp e _ _ _ => e
  | e => e
def stOf (s : Stmt) (i : Nat) : Stmt := (defBody s).getD i (.Pass ⟨0, 0, 0, 0⟩)
def spPen (K : PySem.W.Frag) : Sp := fun vs H Q _ => ∃ (a : Addr) (ns : List Int), vs = [.ref a] ∧ SqL K H a (ns.map V.int) ∧ ns.length ≤ 63 ∧
  ∀ (d c : Addr) (H' : Hp), H d = none → H c = none → PenAt H' d c 0 → Same H H' → Q (.ref d) H'
abbrev kDeeds : Key := Sum.inr "deeds"
abbrev kRows : Key := Sum.inr "rows"
abbrev kTells : Key := Sum.inr "tells"
abbrev kStart : Key := Sum.inr "start"
def plainK (t r l : Addr) (s : Int) : List (Key × V) := [(kDeeds, .ref t), (kRows, .ref r), (kTells, .ref l), (kStart, .int s)]
/-- lists of ints at the addresses as, row by row -/
def RowsAt (H : Hp) (as : List Addr) (rs : List (List Int)) : Prop := as.length = rs.length ∧ ∀ (i : Nat) (a : Addr) (r : List Int), as[i]? = some a → rs[i]? = some r → H a = some (.lst (r.map V.int))
structure PlainAt (H : Hp) (p : Addr) (ws : List Str) (rs : List (List Int)) (ss : List Str) (st : Int) : Prop where
  ex : ∃ (t r l : Addr) (as : List Addr), H p = some (.dK (plainK t r l st)) ∧ SqF H t (ws.map V.str) ∧ H r = some (.lst (as.map V.ref)) ∧ H l = some (.lst (ss.map V.str)) ∧ RowsAt H as rs
/-- a machine's parts as they must be -/
structure GoodP (ws : List Str) (rs : List (List Int)) (ss : List Str) (st : Int) (tells : List Str) : Prop where
  many : 1 ≤ rs.length ∧ rs.length ≤ 12
  row : ∀ r ∈ rs, r.length = ws.length ∧ ∀ x ∈ r, 0 ≤ x ∧ x < rs.length
  tl : ss.length = rs.length ∧ ∀ z ∈ ss, z ∈ tells
  st : 0 ≤ st ∧ st < rs.length
def spPlain (K : PySem.W.Frag) : Sp := fun vs H Q _ => ∃ (d c dl tl : Addr) (n : Nat) (m : Int) (ws ts : List Str), vs = [.ref d, .ref dl, .int m, .ref tl] ∧ PenAt H d c n ∧ n ≤ 800000 ∧ SqL K H dl (ws.map V.str) ∧ dl ≠ d ∧ ws.length ≤ 26 ∧
  SqL K H tl (ts.map V.str) ∧ tl ≠ d ∧ 0 < ts.length ∧ ts.length ≤ 10 ∧ 1 ≤ m ∧ m ≤ 12 ∧
  ∀ (p : Addr) (rs : List (List Int)) (ss : List Str) (st : Int) (H' : Hp), H p = none → PlainAt H' p ws rs ss st → (∀ G, (∀ b o, H b = none → H' b = some o → G b = some o) → PlainAt G p ws rs ss st) → GoodP ws rs ss st ts → PenAt H' d c (n + 400) → Kept d H H' → Q (.ref p) H'
theorem plainK_merge (t r l : Addr) (s : Int) : mergeK [] (plainK t r l s) = plainK t r l s := by
  have h1 : ¬ (("deeds" : Str) = "rows") := by decide +kernel
  have h2 : ¬ (("deeds" : Str) = "tells") := by decide +kernel
  have h3 : ¬ (("deeds" : Str) = "start") := by decide +kernel
  have h4 : ¬ (("rows" : Str) = "tells") := by decide +kernel
  have h5 : ¬ (("rows" : Str) = "start") := by decide +kernel
  have h6 : ¬ (("tells" : Str) = "start") := by decide +kernel
  unfold mergeK plainK putK
  simp [h1, h2, h3, h4, h5, h6]
theorem RowsAt.kept {d : Addr} {H H' : Hp} {as : List Addr} {rs : List (List Int)} (h : RowsAt H as rs) (k : Kept d H H') (nd : ∀ a ∈ as, a ≠ d) : RowsAt H' as rs :=
  ⟨h.1, fun i a r e1 e2 => k _ _ (h.2 i a r e1 e2) (nd a (List.mem_of_getElem? e1))⟩
theorem RowsAt.snoc {H : Hp} {as : List Addr} {rs : List (List Int)} {a : Addr} {r : List Int} (h : RowsAt H as rs) (e : H a = some (.lst (r.map V.int))) : RowsAt H (as ++ [a]) (rs ++ [r]) := by
  refine ⟨by simp [h.1], fun i b q e1 e2 => ?_⟩
  by_cases hi : i < as.length
  · rw [List.getElem?_append_left hi] at e1
    rw [List.getElem?_append_left (by rw [← h.1]; exact hi)] at e2
    exact h.2 i b q e1 e2
  · rw [List.getElem?_append_right (by omega)] at e1
    rw [List.getElem?_append_right (by rw [← h.1]; omega), ← h.1] at e2
    cases hj : i - as.length with
    | zero =>
      rw [hj] at e1 e2
      simp at e1 e2
      rw [← e1, ← e2]; exact e
    | succ j => rw [hj] at e1; simp at e1
section
variable {P : Program} {w : World} {K : PySem.W.Frag} {mg : Str → Option Value} {base : Heap}
theorem scPen : FnScope ["_law_script"] ["_law_script"] (defScope sPen) := ⟨rfl, rfl, rfl, by decide +kernel, rfl, by decide +kernel, by decide +kernel⟩
theorem cut63 {xs : List V} (h : xs.length ≤ 63) : cutV xs none (some 63) = xs := by
  have e : HT.sIx xs.length xs.length (some 63) = min 63 xs.length := HT.sIx_nat xs.length xs.length 63
  unfold cutV
  rw [HT.sIx_none, e, Nat.min_eq_right h]
  simp
theorem ok_pen {f : Addr} {fd : FuncData} (D : Df K mg "_law_pen" sPen ["_law_script"] f fd) (T : Bt mg) : FnOk P w K mg base CX0 1 f fd ["_law_script"] (spPen K) := by
  refine D.F.ok scPen (fun vs H Q E h => ?_) (fun cdv A outer s H vs Q E hr h => ?_)
  · obtain ⟨a, ns, rfl, _⟩ := h
    rfl
  · obtain ⟨a, ns, rfl, ha, hl, k⟩ := h
    refine ⟨_, pss_one (ps_ret (pe_disp (pps_cons pe_str (pe_callTy call_list_of (by rfl) T.list (by decide +kernel) (pa_cons (pe_slice sl_list (pv 0) po_none (po_some pe_int)) pa_nil))
      (pps_cons pe_str pe_int (pps_cons pe_str pe_int pps_nil))) (by rfl) (by rfl) (fun z => by cases z) (by decide))), ?_⟩
    intro p hp
    have ha1 := (same_upd (o := .dK []) hp).seq ha
    refine ⟨_, rfl, 63, rfl, a, _, rfl, ha1, fun q hq => ?_⟩
    rw [cut63 (by simpa using hl)]
    refine ⟨q, _, rfl, .inl (SqL.of upd_same), fun c hc => ?_⟩
    have npq : p ≠ q := by intro z; rw [z, upd_same] at hq; cases hq
    have nqp := npq.symm
    have zq : H q = none := by rw [upd_ne nqp] at hq; exact hq
    have npc : p ≠ c := by
      intro z; rw [z] at npq; rw [← z, upd_ne (by rw [z]; exact npq), upd_same] at hc; cases hc
    have nqc : q ≠ c := by intro z; rw [← z, upd_same] at hc; cases hc
    have zc : H c = none := by rw [upd_ne nqc.symm, upd_ne npc.symm] at hc; exact hc
    refine ⟨by rw [upd_ne npc, upd_ne npq, upd_same], penK c 0 0, rfl, by show 3 ≤ 15; decide, ?_⟩
    have em : mergeK [] (penK c 0 0) = penK c 0 0 := by
      have h1 : ¬ (("cells" : Str) = "at") := by decide +kernel
      have h2 : ¬ (("cells" : Str) = "left") := by decide +kernel
      have h3 : ¬ (("at" : Str) = "left") := by decide +kernel
      unfold mergeK penK putK
      simp [h1, h2, h3]
    rw [em]
    refine k p c _ hp zc ⟨ns, 0, 0, upd_same, ?_, hl, by decide, by decide⟩ ?_
    · rw [upd_ne npc.symm, upd_same]
    · intro b o e
      rw [upd_ne (ne_of_none e hp), upd_ne (ne_of_none e zc), upd_ne (ne_of_none e zq), upd_ne (ne_of_none e hp)]
      exact e
abbrev nPlain : List Str := ["_law_pen_here", "_law_deeds", "_law_most", "_law_tells", "_law_many", "_law_rows", "_law_told", "_law_spot", "_law_deed"]
abbrev pPlain : List Str := ["_law_pen_here", "_law_deeds", "_law_most", "_law_tells"]
theorem scPlain : FnScope nPlain pPlain (defScope sPlain) := ⟨rfl, rfl, rfl, by decide +kernel, rfl, by decide +kernel, by decide +kernel⟩
abbrev scO : Scope := compScope (valOf (stOf sPlain 1))
theorem ok_plain {f fD fP : Addr} {fd fdD fdP : FuncData} (D : Df K mg "_law_plain" sPlain pPlain f fd) (DD : Df K mg "_law_draw" sDraw pDraw fD fdD) (DP : Df K mg "_law_pick" sPick pPick fP fdP) (T : Bt mg) : FnOk P w K mg base CX0 3 f fd pPlain (spPlain K) := by
  have GD : FnOk P w K mg base CX0 1 fD fdD pDraw spDraw := ok_draw DD.F T
  have GL : FnOk P w K mg base CX0 2 fP fdP pPick (spPickL K) := ok_pickL DP DD T
  refine D.F.ok scPlain (fun vs H Q E h => ?_) (fun cdv A outer s H vs Q E hr h => ?_)
  · obtain ⟨d, c, dl, tl, n, m, ws, ts, rfl, _⟩ := h
    rfl
  · obtain ⟨d, c, dl, tl, n, m, ws, ts, rfl, hp, hn, hdl, ndl, hws, htl, ntl, ht0, ht1, hm0, hm1, k⟩ := h
    have hr1 : Room 1 _ := hr.mono (by decide)
    have hin : ∀ (s' : Shared) (H' : Hp) (C' : Addr) (cl' : List (Str × Addr)) (fp' : List Addr), PE (Cx.blk (cxOf CX0 P w K mg base nPlain "_law_plain" (defScope sPlain) f cdv A outer s H E).nox s' H' scO (compEnvC scO cl' C' (cxOf CX0 P w K mg base nPlain "_law_plain" (defScope sPlain) f cdv A outer s H E).nox.env) fp')
        (eltOf (valOf (stOf sPlain 1))) (tLc (iList K (tVar 1)) (gName 8) tYes (tCall spDraw [] E0 (tCons (tVar 0) (tCons (tVar 4) tNil))) [8]) := fun s' H' C' cl' fp' =>
      pe_lc (own := [("_law_deed", 8)]) (g := gName 8) (by rfl) scPlain.nd (pi_list (pv 1))
          (blkOk_by (own := [("_law_deed", 8)]) (N := nPlain) (sc := relS scO (defScope sPlain)) (by decide +kernel)) (fun _ _ _ _ _ => pg_name (i := 8) scPlain.nd rfl (Or.inl rfl)) (fun _ _ _ _ _ => pts_nil)
          (fun _ _ _ _ _ => pe_call GD hr1 rfl DD.g DD.F.kp DD.b .nil pass0 (pa_cons (pv 0) (pa_cons (pv 4) pa_nil)))
    refine ⟨_, pss_cons (ps_set (i := 4) scPlain.nd rfl (Or.inr rfl) (pe_op op_add pe_int (pe_call GD hr1 rfl DD.g DD.F.kp DD.b .nil pass0 (pa_cons (pv 0) (pa_cons (pv 2) pa_nil)))))
      (pss_cons (ps_setLc (i := 5) (own := [("_law_spot", 7)]) (g := gName 7) (by rfl) scPlain.nd rfl rfl (sw_true rfl rfl rfl (by decide +kernel))
        (pi_range1 rfl T.range (pa_cons (pv 4) pa_nil))
        (blkOk_by (own := [("_law_spot", 7)]) (N := nPlain) (sc := defScope sPlain) (by decide +kernel)) (fun _ _ _ _ _ => pg_name (i := 7) scPlain.nd rfl (Or.inl rfl)) (fun _ _ _ _ _ => pts_nil)
        hin)
      (pss_cons (ps_setLc (i := 6) (own := [("_law_spot", 7)]) (g := gName 7) (by rfl) scPlain.nd rfl rfl (sw_true rfl rfl rfl (by decide +kernel))
        (pi_range1 rfl T.range (pa_cons (pv 4) pa_nil))
        (blkOk_by (own := [("_law_spot", 7)]) (N := nPlain) (sc := defScope sPlain) (by decide +kernel)) (fun _ _ _ _ _ => pg_name (i := 7) scPlain.nd rfl (Or.inl rfl)) (fun _ _ _ _ _ => pts_nil)
        (fun _ _ _ _ _ => pe_call GL hr rfl DP.g DP.F.kp DP.b .nil pass0 (pa_cons (pv 0) (pa_cons (pv 3) pa_nil))))
      (pss_one (ps_ret (pe_disp (pps_cons pe_str (pe_callTy (r := rTuF K) call_tuple_F (by rfl) T.tuple (by decide +kernel) (pa_cons (pv 1) pa_nil))
        (pps_cons pe_str (pv 5) (pps_cons pe_str (pv 6) (pps_cons pe_str (pe_call GD hr1 rfl DD.g DD.F.kp DD.b .nil pass0 (pa_cons (pv 0) (pa_cons (pv 4) pa_nil))) pps_nil)))) (by rfl) (by rfl) (fun z => by cases z) (by decide)))))), ?_⟩
    refine ⟨_, rfl, _, rfl, d, c, n, m, rfl, hp, by omega, by omega, by omega, fun r H1 r0 r1 hp1 kp1 => ⟨_, _, rfl, rfl, ?_⟩⟩
    obtain ⟨M, eM⟩ : ∃ M : Nat, 1 + r = (M : Int) := ⟨(1 + r).toNat, by omega⟩
    show _
    have hM : 1 ≤ M ∧ M ≤ 12 := by omega
    simp only [eM]
    refine ⟨_, rfl, (M : Int), rfl, by omega, by omega, fun D1 hD1 => ?_⟩
    rw [Int.toNat_natCast]
    have zD1 : H D1 = none := kp1.free hp1 hD1
    obtain ⟨n1d, n1c⟩ := hp.ne zD1
    refine lc_range (lo := 0) (n := M) (fun i H' => ∃ (as : List Addr) (rs : List (List Int)), rs.length = i ∧ H' D1 = some (.lst (as.map V.ref)) ∧ RowsAt H' as rs ∧ (∀ r ∈ rs, r.length = ws.length ∧ ∀ x ∈ r, 0 ≤ x ∧ x < (M : Int)) ∧
      (∀ a ∈ as, H a = none ∧ a ≠ D1) ∧ PenAt H' d c (n + 1 + 27 * i) ∧ Kept d H H') ?_ ?_ ?_
    · exact ⟨[], [], rfl, upd_same, ⟨rfl, fun i a r e => by simp at e⟩, by simp, by simp, hp1.upd n1d n1c, kp1.upd zD1⟩
    · rintro i H2 hi ⟨as, rs, hrs, hD, hR, hrow, has, hp2, kp2⟩
      refine ⟨rfl, _, rfl, dl, rfl, ⟨_, kp2.seq ndl hdl⟩, fun D2 hD2 => ?_⟩
      have zD2 : H D2 = none := kp2.free hp2 hD2
      obtain ⟨n2d, n2c⟩ := hp.ne zD2
      have n12 : D1 ≠ D2 := ne_of_none hD hD2
      refine lc_list (K := K) (a := dl) (xs := ws.map V.str) (fun j H' => ∃ r : List Int, r.length = j ∧ (∀ x ∈ r, 0 ≤ x ∧ x < (M : Int)) ∧ H' D2 = some (.lst (r.map V.int)) ∧ PenAt H' d c (n + 1 + 27 * i + j) ∧ Kept d H2 H' ∧ Kept d H H') ?_ ?_ ?_ ?_
      · exact ⟨[], rfl, by simp, upd_same, hp2.upd n2d n2c, (Kept.refl d H2).upd hD2, kp2.upd zD2⟩
      · rintro j H3 hj ⟨r, _, _, _, _, _, kp3⟩
        exact kp3.seq ndl hdl
      · rintro j x H3 hj ⟨r, hrj, hrb, hD3, hp3, kp3, kq3⟩
        have hj2 : j < ws.length := by
          have := (List.getElem?_eq_some_iff.mp hj).1
          rwa [List.length_map] at this
        refine ⟨rfl, _, rfl, _, rfl, d, c, _, (M : Int), rfl, hp3, by omega, by omega, by omega, fun y H4 y0 y1 hp4 kp4 => ?_⟩
        refine ⟨_, kp4 _ _ hD3 n2d, ?_, r ++ [y], by simp [hrj], ?_, ?_, ?_, ?_, ?_⟩
        · rw [List.length_map]; exact small1000 (by omega)
        · intro z hz
          rcases List.mem_append.mp hz with h | h
          · exact hrb z h
          · rw [List.mem_singleton.mp h]; exact ⟨y0, y1⟩
        · rw [upd_same]; simp
        · exact hp4.upd n2d n2c
        · exact (kp3.trans kp4).upd hD2
        · exact (kq3.trans kp4).upd zD2
      · rintro H3 ⟨r, hrj, hrb, hD3, hp3, kp3, kq3⟩
        rw [List.length_map] at hrj hp3
        have hDD := kp3 _ _ hD n1d
        have hR3 := hR.kept kp3 (fun a ha => (hp.ne (has a ha).1).1)
        refine ⟨_, hDD, ?_, as ++ [D2], rs ++ [r], by simp [hrs], ?_, ?_, ?_, ?_, ?_, ?_⟩
        · rw [List.length_map, hR.1]; exact small1000 (by omega)
        · rw [upd_same]; simp
        · have hq : RowsAt H3 (as ++ [D2]) (rs ++ [r]) := hR3.snoc hD3
          refine ⟨hq.1, fun i a q e1 e2 => ?_⟩
          have hm := List.mem_of_getElem? e1
          have : a ≠ D1 := by
            rcases List.mem_append.mp hm with h | h
            · exact (has a h).2
            · rw [List.mem_singleton.mp h]; exact n12.symm
          rw [upd_ne this]
          exact hq.2 i a q e1 e2
        · intro q hq
          rcases List.mem_append.mp hq with h | h
          · exact hrow q h
          · rw [List.mem_singleton.mp h]; exact ⟨hrj, hrb⟩
        · intro a ha
          rcases List.mem_append.mp ha with h | h
          · exact has a h
          · rw [List.mem_singleton.mp h]; exact ⟨zD2, n12.symm⟩
        · exact (hp3.upd n1d n1c).mono (by omega)
        · exact kq3.upd zD1
    · rintro H5 ⟨as, rs, hrs, hD5, hR5, hrow, has, hp5, kp5⟩
      -- told
      refine ⟨_, rfl, (M : Int), rfl, by omega, by omega, fun D3 hD3 => ?_⟩
      rw [Int.toNat_natCast]
      have zD3 : H D3 = none := kp5.free hp5 hD3
      obtain ⟨n3d, n3c⟩ := hp.ne zD3
      refine lc_range (lo := 0) (n := M) (fun i H' => ∃ ss : List Str, ss.length = i ∧ (∀ z ∈ ss, z ∈ ts) ∧ H' D3 = some (.lst (ss.map V.str)) ∧ PenAt H' d c (n + 340 + i) ∧ Kept d H5 H' ∧ Kept d H H') ?_ ?_ ?_
      · exact ⟨[], rfl, by simp, upd_same, (hp5.upd n3d n3c).mono (by omega), (Kept.refl d H5).upd hD3, kp5.upd zD3⟩
      · rintro i H6 hi ⟨ss, hss, hst, hD6, hp6, kp6, kq6⟩
        refine ⟨rfl, _, rfl, _, rfl, d, c, tl, _, ts.map V.str, rfl, hp6, by omega, ntl, kq6.seq ntl htl, by rw [List.length_map]; exact ht0, by rw [List.length_map]; omega, fun x H7 hx hp7 kp7 => ?_⟩
        obtain ⟨z, hz, rfl⟩ := List.mem_map.mp hx
        refine ⟨_, kp7 _ _ hD6 n3d, ?_, ss ++ [z], by simp [hss], ?_, ?_, ?_, ?_, ?_⟩
        · rw [List.length_map]; exact small1000 (by omega)
        · intro y hy
          rcases List.mem_append.mp hy with h | h
          · exact hst y h
          · rw [List.mem_singleton.mp h]; exact hz
        · rw [upd_same]; simp
        · exact hp7.upd n3d n3c
        · exact (kp6.trans kp7).upd hD3
        · exact (kq6.trans kp7).upd zD3
      · rintro H7 ⟨ss, hss, hst, hD7, hp7, kp7, kq7⟩
        intro p hp'
        have zp : H p = none := kq7.free hp7 hp'
        have kq8 : Kept d H (upd H7 p (.dK [])) := kq7.upd zp
        obtain ⟨npd, npc⟩ := hp.ne zp
        refine ⟨_, rfl, dl, _, rfl, .inl ⟨kq8.seq ndl hdl, fun t ob ht hob => ?_⟩⟩
        have zt : H t = none := by
          refine kq8.free (hp7.upd npd npc) ht
        obtain ⟨ntd, ntc⟩ := hp.ne zt
        have npt : p ≠ t := by intro z; rw [← z, upd_same] at ht; cases ht
        refine ⟨_, rfl, _, rfl, _, rfl, _, rfl, d, c, _, (M : Int), rfl, (hp7.upd npd npc).upd ntd ntc, by omega, by omega, by omega, fun st H9 s0 s1 hp9 kp9 => ?_⟩
        have zt7 : H7 t = none := by rw [upd_ne npt.symm] at ht; exact ht
        have sm : Same H7 (upd (upd H7 p (.dK [])) t (.frz ob (.tup (ws.map V.str)))) := fun b o e => by
          rw [upd_ne (ne_of_none e zt7), upd_ne (ne_of_none e hp')]; exact e
        have k79 : Kept d H7 H9 := (Kept.same sm).trans kp9
        have hp9' : H9 p = some (.dK []) := kp9 _ _ (by rw [upd_ne npt, upd_same]) npd
        have ht9 : H9 t = some (.frz ob (.tup (ws.map V.str))) := kp9 _ _ upd_same ntd
        have hD79 := k79 _ _ hD7 n3d
        have k59 : Kept d H5 H9 := kp7.trans k79
        have hD59 := k59 _ _ hD5 n1d
        have hR9 := hR5.kept k59 (fun a ha => (hp.ne (has a ha).1).1)
        refine ⟨hp9', plainK t D1 D3 st, rfl, by show 4 ≤ 15; decide, ?_⟩
        rw [plainK_merge]
        have kq9 : Kept d H H9 := kq7.trans k79
        have n1p : D1 ≠ p := ne_of hD59 hp9' (by intro z; cases z)
        have n3p : D3 ≠ p := ne_of hD79 hp9' (by intro z; cases z)
        have gP : upd H9 p (.dK (plainK t D1 D3 st)) p = some (.dK (plainK t D1 D3 st)) := upd_same
        have gT : upd H9 p (.dK (plainK t D1 D3 st)) t = some (.frz ob (.tup (ws.map V.str))) := by rw [upd_ne npt.symm]; exact ht9
        have gR : upd H9 p (.dK (plainK t D1 D3 st)) D1 = some (.lst (as.map V.ref)) := by rw [upd_ne n1p]; exact hD59
        have gL : upd H9 p (.dK (plainK t D1 D3 st)) D3 = some (.lst (ss.map V.str)) := by rw [upd_ne n3p]; exact hD79
        have gA : RowsAt (upd H9 p (.dK (plainK t D1 D3 st))) as rs := ⟨hR9.1, fun i a q e1 e2 => by
          have := hR9.2 i a q e1 e2
          rw [upd_ne (ne_of this hp9' (by intro z; cases z))]
          exact this⟩
        refine k p rs ss st _ zp ⟨t, D1, D3, as, gP, ⟨ob, gT, hob⟩, gR, gL, gA⟩ (fun G kG => ?_) ⟨by rw [hrs]; exact hM, fun r hr => by rw [hrs]; exact hrow r hr, ⟨by rw [hss, hrs], hst⟩, by rw [hrs]; exact ⟨s0, s1⟩⟩ ((hp9.upd npd npc).mono (by omega)) (kq9.upd zp)
        exact ⟨t, D1, D3, as, kG _ _ zp gP, ⟨ob, kG _ _ zt gT, hob⟩, kG _ _ zD1 gR, kG _ _ zD3 gL, gA.1, fun i a q e1 e2 => kG _ _ (has a (List.mem_of_getElem? e1)).1 (gA.2 i a q e1 e2)⟩
end
end K1
set_option Elab.async false
set_option linter.all false
set_option maxRecDepth 100000
namespace K1
open PySem L2
abbrev sIsInt : Stmt := top 19
abbrev sIsIndex : Stmt := top 20
abbrev sIsWord : Stmt := top 21
abbrev sIsTell : Stmt := top 22
/-- the names of the built-ins, and the constants -/
structure Bt2 (mg : Str → Option Value) : Prop extends Bt mg where
  isinstance : mg "isinstance" = none
  bool : mg "bool" = none
  str : mg "str" = none
  all : mg "all" = none
  enumerate : mg "enumerate" = none
  min : mg "min" = none
  LETTERS : ∃ t, mg "LETTERS" = some (.str zLE t)
  DIGITS : ∃ t, mg "DIGITS" = some (.str zDG t)
  LONGEST_WORD : ∃ t, mg "LONGEST_WORD" = some (.int 12 t)
  LONGEST_TELL : ∃ t, mg "LONGEST_TELL" = some (.int 60 t)
  MOST_DEEDS : ∃ t, mg "MOST_DEEDS" = some (.int 6 t)
  MOST_STATES : ∃ t, mg "MOST_STATES" = some (.int 60 t)
def spIsInt : Sp := fun vs H Q _ => ∃ i : Int, vs = [.int i] ∧ Q (.bl true) H
def spIsIndex : Sp := fun vs H Q _ => ∃ i m : Int, vs = [.int i, .int m] ∧ 0 ≤ i ∧ i < m ∧ Q (.bl true) H
def spIsWord : Sp := fun vs H Q _ => ∃ z : Str, vs = [.str z] ∧ Wd z ∧ ∀ H', Same H H' → Q (.bl true) H'
abbrev zSL : Str := "/"
def TL' : List Nat := AL ++ zSL.cps.toList
def Tl (z : Str) : Prop := 1 ≤ z.cps.toList.length ∧ z.cps.toList.length ≤ 60 ∧ ∀ x ∈ z.cps.toList, x ∈ TL'
def spIsTell : Sp := fun vs H Q _ => ∃ z : Str, vs = [.str z] ∧ Tl z ∧ ∀ H', Same H H' → Q (.bl true) H'
section
variable {P : Program} {w : World} {K : PySem.W.Frag} {mg : Str → Option Value} {base : Heap}
theorem scIsInt : FnScope ["value"] ["value"] (defScope sIsInt) := ⟨rfl, rfl, rfl, by decide +kernel, rfl, by decide +kernel, by decide +kernel⟩
theorem ok_isint {f : Addr} {fd : FuncData} (D : Df K mg "is_integer" sIsInt ["value"] f fd) (T : Bt2 mg) : FnOk P w K mg base CX0 1 f fd ["value"] spIsInt := by
  refine D.F.ok scIsInt (fun vs H Q E h => ?_) (fun cdv A outer s H vs Q E hr h => ?_)
  · obtain ⟨i, rfl, _⟩ := h
    rfl
  · obtain ⟨i, rfl, k⟩ := h
    refine ⟨_, pss_one (ps_ret (pe_and (pe_callB call_isi (by rfl) T.isinstance PyProof.Rows.boot_isinstance (pa_cons (pv 0) (pa_cons (pe_bltn (v := .ty "int") (by rfl) T.int PyProof.Rows.boot_int rfl) pa_nil)))
      (pe_one (pe_not (pe_callB call_isi (by rfl) T.isinstance PyProof.Rows.boot_isinstance (pa_cons (pv 0) (pa_cons (pe_bltn (v := .ty "bool") (by rfl) T.bool PyProof.Rows.boot_bool rfl) pa_nil))))))), ?_⟩
    refine ⟨_, rfl, _, _, _, _, true, rfl, .ty "int", .base (.int i), kit_ty (by decide +kernel), true, rfl, ?_⟩
    refine ⟨_, rfl, _, _, _, _, false, rfl, .ty "bool", .base (.int i), kit_ty (by decide +kernel), false, rfl, k⟩
theorem scIsIndex : FnScope ["value", "many"] ["value", "many"] (defScope sIsIndex) := ⟨rfl, rfl, rfl, by decide +kernel, rfl, by decide +kernel, by decide +kernel⟩
theorem ok_isindex {f fI : Addr} {fd fdI : FuncData} (D : Df K mg "is_index" sIsIndex ["value", "many"] f fd) (DI : Df K mg "is_integer" sIsInt ["value"] fI fdI) (T : Bt2 mg) : FnOk P w K mg base CX0 2 f fd ["value", "many"] spIsIndex := by
  have GI : FnOk P w K mg base CX0 1 fI fdI ["value"] spIsInt := ok_isint DI T
  refine D.F.ok scIsIndex (fun vs H Q E h => ?_) (fun cdv A outer s H vs Q E hr h => ?_)
  · obtain ⟨i, m, rfl, _⟩ := h
    rfl
  · obtain ⟨i, m, rfl, h0, h1, k⟩ := h
    refine ⟨_, pss_one (ps_ret (pe_and (pe_call GI hr rfl DI.g DI.F.kp DI.b .nil pass0 (pa_cons (pv 0) pa_nil)) (pe_one (pe_chain op_le op_lt pe_int (pv 0) (pv 1))))), ?_⟩
    refine ⟨_, rfl, i, rfl, true, rfl, ?_⟩
    refine ⟨_, rfl, _, _, rfl, rfl, _, rfl, ?_⟩
    rw [decide_eq_true h0]
    refine iteT ?_
    refine ⟨_, rfl, _, _, rfl, rfl, ?_⟩
    show Q (V.bl (decide (i < m))) H
    rw [decide_eq_true h1]
    exact k
theorem scIsWord : FnScope ["value", "sign"] ["value"] (defScope sIsWord) := ⟨rfl, rfl, rfl, by decide +kernel, rfl, by decide +kernel, by decide +kernel⟩
theorem ok_isword {f : Addr} {fd : FuncData} (D : Df K mg "is_word" sIsWord ["value"] f fd) (T : Bt2 mg) : FnOk P w K mg base CX0 1 f fd ["value"] spIsWord := by
  refine D.F.ok scIsWord (fun vs H Q E h => ?_) (fun cdv A outer s H vs Q E hr h => ?_)
  · obtain ⟨z, rfl, _⟩ := h
    rfl
  · obtain ⟨z, rfl, hz, k⟩ := h
    obtain ⟨tL, gL⟩ := T.LETTERS
    obtain ⟨tD, gD⟩ := T.DIGITS
    obtain ⟨tW, gW⟩ := T.LONGEST_WORD
    obtain ⟨c, r, ez, hc, hr', hl⟩ := id hz
    refine ⟨_, pss_cons (ps_if (PW.pt (pw_or (pt_not (pt_val (pe_callB call_isi (by rfl) T.isinstance PyProof.Rows.boot_isinstance (pa_cons (pv 0) (pa_cons (pe_bltn (v := .ty "str") (by rfl) T.str PyProof.Rows.boot_str rfl) pa_nil)))))
          (pw_or1 (pt_not (pt_chain op_le op_le pe_int (pe_callB call_len_str (by rfl) T.len PySem.boot_len (pa_cons (pv 0) pa_nil)) (pe_glob (v := .int 12) rfl gW ⟨_, rfl⟩))))))
        pss_never pss_nil)
      (pss_one (ps_ret (pe_and (pe_cmpR op_in_sign (pe_ix ix_str (pv 0) pe_int (fun _ _ => rfl)) (pe_glob (v := .str zLE) rfl gL ⟨_, rfl⟩) rfl)
        (pe_one (pe_callB (cr_all rfl) (by rfl) T.all PyProof.Rows.boot_all (pa_cons (pe_lc (own := [("sign", 1)]) (g := gName 1) (by rfl) scIsWord.nd (pi_str (pv 0))
          (blkOk_by (own := [("sign", 1)]) (N := ["value", "sign"]) (sc := defScope sIsWord) (by decide +kernel)) (fun _ _ _ _ _ => pg_name (i := 1) scIsWord.nd rfl (Or.inl rfl)) (fun _ _ _ _ _ => pts_nil)
          (fun _ _ _ _ _ => pe_cmpR op_in_sign (pv 1) (pe_op op_add_str (pe_glob (v := .str zLE) rfl gL ⟨_, rfl⟩) (pe_glob (v := .str zDG) rfl gD ⟨_, rfl⟩)) rfl)) pa_nil)))))), ?_⟩
    have lz : z.length = r.length + 1 := by rw [len_tl, ez]; rfl
    have hzl : z.length ≤ sizeLine := Nat.le_trans (by omega : z.length ≤ 100) (by decide)
    refine ⟨_, rfl, _, _, _, _, true, rfl, .ty "str", .base (.str z), kit_ty (by decide +kernel), true, rfl, ?_⟩
    refine iteF ?_
    refine ⟨_, rfl, _, rfl, hzl, _, _, rfl, rfl, _, rfl, ?_⟩
    refine ite2 (fun _ => ?_) (fun h => absurd (decide_eq_true (by show (1 : Int) ≤ (z.length : Int); omega)) h)
    refine ⟨_, _, rfl, rfl, _, rfl, ?_⟩
    have e12 : decide ((z.length : Int) ≤ 12) = true := decide_eq_true (by omega)
    show (if (!decide ((z.length : Int) ≤ 12)) = true then _ else _)
    rw [e12]
    refine iteF ?_
    refine ⟨_, rfl, z, _, c, rfl, rfl, hzl, ?_, c, zLE, rfl, rfl, true, ?_, ?_⟩
    · rw [ez]; exact atI_nat (j := 0) rfl
    · rw [decide_eq_true (show c ∈ zLE.cps.toList from hc)]
    refine iteT ?_
    refine ⟨_, rfl, z, rfl, fun D hD => ?_⟩
    have hall : ∀ x ∈ z.cps.toList, x ∈ AL := fun x hx => by
      rw [ez] at hx
      rcases List.mem_cons.mp hx with rfl | h
      · exact LE_AL hc
      · exact hr' x h
    have hsz : z.cps.size = z.cps.toList.length := by simp
    have hsz7 : z.cps.toList.length ≤ 11 := by rw [ez]; simp; exact hl
    refine lc_it (walk_str (z := z)) (fun i H' => Same H H' ∧ H' D = some (.lst ((List.replicate i true).map V.bl))) ?_ ?_ ?_ ?_
    · exact ⟨same_upd hD, upd_same⟩
    · exact fun _ _ _ _ => trivial
    · rintro i x H1 H2 hi ⟨sm, hD1⟩ ⟨rfl, c', hc', rfl⟩
      have hm : c' ∈ z.cps.toList := by
        have : z.cps.toList[i]? = some c' := by simpa using hc'
        exact List.mem_of_getElem? this
      refine ⟨rfl, _, rfl, _, _, rfl, rfl, by decide +kernel, c', zLE ++ zDG, rfl, rfl, _, hD1, ?_, ?_, ?_⟩
      · simp; exact small1000 (by omega)
      · exact fun b o e => by rw [upd_ne (ne_of_none e hD)]; exact sm b o e
      · rw [upd_same, decide_eq_true (show c' ∈ (zLE ++ zDG).cps.toList by rw [← AL_eq]; exact hall c' hm), List.replicate_succ']
        simp
    · rintro H1 ⟨sm, hD1⟩
      refine ⟨D, _, rfl, SqL.of hD1, ?_⟩
      have e : (List.replicate z.cps.size true).all id = true := by simp
      rw [e]
      exact k H1 sm
end
end K1
set_option Elab.async false
set_option linter.all false
set_option maxRecDepth 100000
namespace K1
open PySem L2
abbrev sCheckDiff : Stmt := top 23
abbrev sCheckGroup : Stmt := top 24
abbrev sCheckDeeds : Stmt := top 25
abbrev sCheckRows : Stmt := top 42
abbrev sCheckTells : Stmt := top 43
theorem TL_eq : TL' = (zLE ++ zDG ++ zSL).cps.toList := by decide +kernel
theorem cut_to {xs : List V} {i : Nat} (h : i ≤ xs.length) : cutV xs none (some (i : Int)) = xs.take i := by
  unfold cutV
  rw [HT.sIx_none, HT.sIx_nat, Nat.min_eq_left h]
  simp
theorem inV_str {ws : List Str} {z : Str} (h : z ∉ ws) : inV (.str z) (ws.map V.str) = false := by
  unfold inV
  rw [List.any_map, List.any_eq_false]
  intro y hy
  show ¬ ((y == z) = true)
  intro e
  rw [beq_iff_eq] at e
  exact h (e ▸ hy)
theorem nodup_take {ws : List Str} {i : Nat} {z : Str} (nd : ws.Nodup) (e : ws[i]? = some z) : z ∉ ws.take i := by
  intro hm
  obtain ⟨j, hj, ej⟩ := List.getElem_of_mem hm
  rw [List.getElem_take] at ej
  have hji : j < i := by simp at hj; omega
  have hi : i < ws.length := (List.getElem?_eq_some_iff.mp e).1
  have ei : ws[i] = z := (List.getElem?_eq_some_iff.mp e).2
  exact List.pairwise_iff_getElem.mp nd j i (by omega) hi hji (ej.trans ei.symm)
theorem flat_strs (ws : List Str) : (ws.map V.str).all flatV = true := by simp [flatV]
/-- a list or a tuple of words -/
def Sq (K : PySem.W.Frag) (H : Hp) (a : Addr) (xs : List V) : Prop := SqL K H a xs ∨ SqT K H a xs
theorem Sq.same {K : PySem.W.Frag} {H H' : Hp} {a : Addr} {xs : List V} (h : Sq K H a xs) (s : Same H H') : Sq K H' a xs := by
  rcases h with h | h
  · exact .inl (s.seq h)
  · exact .inr (h.ext s)
structure GoodD (ws : List Str) : Prop where
  nd : ws.Nodup
  wd : ∀ z ∈ ws, Wd z
  len : 1 ≤ ws.length ∧ ws.length ≤ 6
def spDeeds (K : PySem.W.Frag) : Sp := fun vs H Q _ => ∃ (a : Addr) (ws : List Str), vs = [.ref a] ∧ Sq K H a (ws.map V.str) ∧ GoodD ws ∧ ∀ H', Same H H' → Q .non H'
section
variable {P : Program} {w : World} {K : PySem.W.Frag} {mg : Str → Option Value} {base : Heap}
theorem scIsTell : FnScope ["value", "sign"] ["value"] (defScope sIsTell) := ⟨rfl, rfl, rfl, by decide +kernel, rfl, by decide +kernel, by decide +kernel⟩
theorem ok_istell {f : Addr} {fd : FuncData} (D : Df K mg "is_tell" sIsTell ["value"] f fd) (T : Bt2 mg) : FnOk P w K mg base CX0 1 f fd ["value"] spIsTell := by
  refine D.F.ok scIsTell (fun vs H Q E h => ?_) (fun cdv A outer s H vs Q E hr h => ?_)
  · obtain ⟨z, rfl, _⟩ := h
    rfl
  · obtain ⟨z, rfl, ⟨hz0, hz1, hall⟩, k⟩ := h
    obtain ⟨tL, gL⟩ := T.LETTERS
    obtain ⟨tD, gD⟩ := T.DIGITS
    obtain ⟨tW, gW⟩ := T.LONGEST_TELL
    refine ⟨_, pss_cons (ps_if (PW.pt (pw_or (pt_not (pt_val (pe_callB call_isi (by rfl) T.isinstance PyProof.Rows.boot_isinstance (pa_cons (pv 0) (pa_cons (pe_bltn (v := .ty "str") (by rfl) T.str PyProof.Rows.boot_str rfl) pa_nil)))))
          (pw_or1 (pt_not (pt_chain op_le op_le pe_int (pe_callB call_len_str (by rfl) T.len PySem.boot_len (pa_cons (pv 0) pa_nil)) (pe_glob (v := .int 60) rfl gW ⟨_, rfl⟩))))))
        pss_never pss_nil)
      (pss_one (ps_ret (pe_callB (cr_all rfl) (by rfl) T.all PyProof.Rows.boot_all (pa_cons (pe_lc (own := [("sign", 1)]) (g := gName 1) (by rfl) scIsTell.nd (pi_str (pv 0))
          (blkOk_by (own := [("sign", 1)]) (N := ["value", "sign"]) (sc := defScope sIsTell) (by decide +kernel)) (fun _ _ _ _ _ => pg_name (i := 1) scIsTell.nd rfl (Or.inl rfl)) (fun _ _ _ _ _ => pts_nil)
          (fun _ _ _ _ _ => pe_cmpR op_in_sign (pv 1) (pe_op op_add_str (pe_op op_add_str (pe_glob (v := .str zLE) rfl gL ⟨_, rfl⟩) (pe_glob (v := .str zDG) rfl gD ⟨_, rfl⟩)) pe_str) rfl)) pa_nil)))), ?_⟩
    have lz : z.length = z.cps.toList.length := len_tl z
    have hzl : z.length ≤ sizeLine := Nat.le_trans (by omega : z.length ≤ 100) (by decide)
    refine ⟨_, rfl, _, _, _, _, true, rfl, .ty "str", .base (.str z), kit_ty (by decide +kernel), true, rfl, ?_⟩
    refine iteF ?_
    refine ⟨_, rfl, _, rfl, hzl, _, _, rfl, rfl, _, rfl, ?_⟩
    refine ite2 (fun _ => ?_) (fun h => absurd (decide_eq_true (by show (1 : Int) ≤ (z.length : Int); omega)) h)
    refine ⟨_, _, rfl, rfl, _, rfl, ?_⟩
    have e12 : decide ((z.length : Int) ≤ 60) = true := decide_eq_true (by omega)
    show (if (!decide ((z.length : Int) ≤ 60)) = true then _ else _)
    rw [e12]
    refine iteF ?_
    refine ⟨_, rfl, z, rfl, fun D hD => ?_⟩
    have hsz : z.cps.size = z.cps.toList.length := by simp
    refine lc_it (walk_str (z := z)) (fun i H' => Same H H' ∧ H' D = some (.lst ((List.replicate i true).map V.bl))) ?_ ?_ ?_ ?_
    · exact ⟨same_upd hD, upd_same⟩
    · exact fun _ _ _ _ => trivial
    · rintro i x H1 H2 hi ⟨sm, hD1⟩ ⟨rfl, c', hc', rfl⟩
      have hm : c' ∈ z.cps.toList := by
        have : z.cps.toList[i]? = some c' := by simpa using hc'
        exact List.mem_of_getElem? this
      refine ⟨rfl, _, rfl, _, _, rfl, rfl, by decide +kernel, _, _, rfl, rfl, by decide +kernel, c', zLE ++ zDG ++ zSL, rfl, rfl, _, hD1, ?_, ?_, ?_⟩
      · simp; exact small1000 (by omega)
      · exact fun b o e => by rw [upd_ne (ne_of_none e hD)]; exact sm b o e
      · rw [upd_same, decide_eq_true (show c' ∈ (zLE ++ zDG ++ zSL).cps.toList by rw [← TL_eq]; exact hall c' hm), List.replicate_succ']
        simp
    · rintro H1 ⟨sm, hD1⟩
      refine ⟨D, _, rfl, SqL.of hD1, ?_⟩
      have e : (List.replicate z.cps.size true).all id = true := by simp
      rw [e]
      exact k H1 sm
theorem scDiff : FnScope ["deeds", "index", "deed"] ["deeds"] (defScope sCheckDiff) := ⟨rfl, rfl, rfl, by decide +kernel, rfl, by decide +kernel, by decide +kernel⟩
theorem ok_diff {f fW : Addr} {fd fdW : FuncData} (D : Df K mg "check_different" sCheckDiff ["deeds"] f fd) (DW : Df K mg "is_word" sIsWord ["value"] fW fdW) (T : Bt2 mg) : FnOk P w K mg base CX0 2 f fd ["deeds"] (spDeeds K) := by
  have GW : FnOk P w K mg base CX0 1 fW fdW ["value"] spIsWord := ok_isword DW T
  refine D.F.ok scDiff (fun vs H Q E h => ?_) (fun cdv A outer s H vs Q E hr h => ?_)
  · obtain ⟨a, ws, rfl, _⟩ := h
    rfl
  · obtain ⟨a, ws, rfl, ha, gd, k⟩ := h
    have hle : ws.length ≤ 6 := gd.len.2
    rcases ha with ha | ha
    · refine ⟨_, pss_one (ps_for PassesOwn.never rfl (pi_enum (by rfl) T.enumerate (pa_cons (pv 0) pa_nil)) (pg_tup (by rfl) (pgs_cons (pg_name (i := 1) scDiff.nd rfl (Or.inl rfl)) (pgs_cons (pg_name (i := 2) scDiff.nd rfl (Or.inl rfl)) pgs_nil)))
          (pss_one (ps_if (PW.pt (pw_or (pt_not (pt_val (pe_call GW hr rfl DW.g DW.F.kp DW.b .nil pass0 (pa_cons (pv 2) pa_nil)))) (pw_or1 (pt_cmpR op_in_seq (pv 2) (pe_slice sl_list (pv 0) po_none (po_some (pv 1))) (by rfl))))) pss_never pss_nil))), ?_⟩
      refine ⟨_, rfl, a, _, rfl, ha, for_it (walk_enum (K := K) (a := a) (xs := ws.map V.str)) (fun i σ H' => Same H H' ∧ ∃ v1 v2, σ = [some (.ref a), v1, v2]) ⟨Same.refl H, none, none, rfl⟩ (fun i σ H' _ p => p.1.seq ha) ?_ ?_⟩
      · rintro i x σ H1 H2 hi ⟨sm, v1, v2, rfl⟩ ⟨t, x1, x2, rfl, ht, rfl, e1, e2⟩
        cases e1
        replace e2 : (ws.map V.str)[i]? = some x2 := e2
        rw [List.getElem?_map] at e2
        obtain ⟨z, hz, rfl⟩ := Option.map_eq_some_iff.mp e2
        have hzm := List.mem_of_getElem? hz
        have hil : i < ws.length := (List.getElem?_eq_some_iff.mp hz).1
        have sm2 := sm.trans (same_upd (o := .tup [V.int (i : Nat), V.str z]) ht)
        refine ⟨t, _, rfl, SqT.of upd_same, rfl, _, _, rfl, _, _, rfl, rfl, ?_⟩
        refine ⟨_, rfl, z, rfl, gd.wd z hzm, fun H3 sm3 => ⟨true, rfl, ?_⟩⟩
        refine iteF ?_
        have sm4 := sm2.trans sm3
        refine ⟨_, rfl, _, rfl, _, rfl, (i : Int), rfl, a, _, rfl, sm4.seq ha, fun q hq => ?_⟩
        rw [cut_to (by rw [List.length_map]; omega), ← List.map_take]
        refine ⟨q, _, rfl, .inl (SqL.of upd_same), rfl, flat_strs _, false, ?_, ?_⟩
        · show V.bl (if false = true then _ else inV (V.str z) ((ws.take i).map V.str)) = V.bl false
          rw [inV_str (nodup_take gd.nd hz)]
          rfl
        · refine iteF ?_
          exact ⟨sm4.trans (same_upd hq), _, _, rfl⟩
      · rintro σ H1 ⟨sm, v1, v2, rfl⟩
        exact k H1 sm
    · refine ⟨_, pss_one (ps_for PassesOwn.never rfl (pi_enumT (by rfl) T.enumerate (pa_cons (pv 0) pa_nil)) (pg_tup (by rfl) (pgs_cons (pg_name (i := 1) scDiff.nd rfl (Or.inl rfl)) (pgs_cons (pg_name (i := 2) scDiff.nd rfl (Or.inl rfl)) pgs_nil)))
          (pss_one (ps_if (PW.pt (pw_or (pt_not (pt_val (pe_call GW hr rfl DW.g DW.F.kp DW.b .nil pass0 (pa_cons (pv 2) pa_nil)))) (pw_or1 (pt_cmpR op_in_seq (pv 2) (pe_slice sl_tupA (pv 0) po_none (po_some (pv 1))) (by rfl))))) pss_never pss_nil))), ?_⟩
      refine ⟨_, rfl, a, _, rfl, ha, for_it (walk_enumT (K := K) (a := a) (xs := ws.map V.str)) (fun i σ H' => Same H H' ∧ ∃ v1 v2, σ = [some (.ref a), v1, v2]) ⟨Same.refl H, none, none, rfl⟩ (fun i σ H' _ p => ha.ext p.1) ?_ ?_⟩
      · rintro i x σ H1 H2 hi ⟨sm, v1, v2, rfl⟩ ⟨t, x1, x2, rfl, ht, rfl, e1, e2⟩
        cases e1
        replace e2 : (ws.map V.str)[i]? = some x2 := e2
        rw [List.getElem?_map] at e2
        obtain ⟨z, hz, rfl⟩ := Option.map_eq_some_iff.mp e2
        have hzm := List.mem_of_getElem? hz
        have hil : i < ws.length := (List.getElem?_eq_some_iff.mp hz).1
        have sm2 := sm.trans (same_upd (o := .tup [V.int (i : Nat), V.str z]) ht)
        refine ⟨t, _, rfl, SqT.of upd_same, rfl, _, _, rfl, _, _, rfl, rfl, ?_⟩
        refine ⟨_, rfl, z, rfl, gd.wd z hzm, fun H3 sm3 => ⟨true, rfl, ?_⟩⟩
        refine iteF ?_
        have sm4 := sm2.trans sm3
        have eh : HT.sIx (ws.map V.str).length (ws.map V.str).length (some (i : Int)) = i := by rw [HT.sIx_nat, List.length_map]; omega
        refine ⟨_, rfl, _, rfl, _, rfl, (i : Int), rfl, a, _, rfl, ha.ext sm4, fun h => absurd h.2 (by rw [eh, List.length_map]; omega), fun _ q hq => ?_⟩
        rw [cut_to (by rw [List.length_map]; omega), ← List.map_take]
        refine ⟨q, _, rfl, .inr (SqT.of upd_same), rfl, flat_strs _, false, ?_, ?_⟩
        · show V.bl (if false = true then _ else inV (V.str z) ((ws.take i).map V.str)) = V.bl false
          rw [inV_str (nodup_take gd.nd hz)]
          rfl
        · refine iteF ?_
          exact ⟨sm4.trans (same_upd hq), _, _, rfl⟩
      · rintro σ H1 ⟨sm, v1, v2, rfl⟩
        exact k H1 sm
theorem Sq.len {K : PySem.W.Frag} {H : Hp} {a : Addr} {xs : List V} (h : Sq K H a xs) : LenV K (.ref a) H xs.length := by
  rcases h with h | h
  · exact .inl ⟨_, h, rfl⟩
  · exact .inr ⟨_, h, rfl⟩
theorem scGroup : FnScope ["deeds"] ["deeds"] (defScope sCheckGroup) := ⟨rfl, rfl, rfl, by decide +kernel, rfl, by decide +kernel, by decide +kernel⟩
theorem ok_group {f fC fW : Addr} {fd fdC fdW : FuncData} (D : Df K mg "check_group" sCheckGroup ["deeds"] f fd) (DC : Df K mg "check_different" sCheckDiff ["deeds"] fC fdC) (DW : Df K mg "is_word" sIsWord ["value"] fW fdW) (T : Bt2 mg) : FnOk P w K mg base CX0 3 f fd ["deeds"] (spDeeds K) := by
  have GC : FnOk P w K mg base CX0 2 fC fdC ["deeds"] (spDeeds K) := ok_diff DC DW T
  refine D.F.ok scGroup (fun vs H Q E h => ?_) (fun cdv A outer s H vs Q E hr h => ?_)
  · obtain ⟨a, ws, rfl, _⟩ := h
    rfl
  · obtain ⟨a, ws, rfl, ha, gd, k⟩ := h
    refine ⟨_, pss_cons (ps_expr (pe_call GC hr rfl DC.g DC.F.kp DC.b .nil pass0 (pa_cons (pv 0) pa_nil)))
      (pss_one (ps_if (pt_cmpR op_eq (pe_callB call_len (by rfl) T.len PySem.boot_len (pa_cons (pv 0) pa_nil)) pe_int (nomark _)) pss_never pss_nil)), ?_⟩
    refine ⟨_, rfl, a, ws, rfl, ha, gd, fun H1 sm => ?_⟩
    refine ⟨_, rfl, _, _, rfl, (ha.same sm).len, rfl, _, rfl, ?_⟩
    refine ite2 (fun h => ?_) (fun _ => k H1 sm)
    have := of_decide_eq_true h
    injection this with this
    have := gd.len.1
    rw [List.length_map] at *
    omega
theorem scDeeds : FnScope ["deeds"] ["deeds"] (defScope sCheckDeeds) := ⟨rfl, rfl, rfl, by decide +kernel, rfl, by decide +kernel, by decide +kernel⟩
theorem ok_deeds {f fG fC fW : Addr} {fd fdG fdC fdW : FuncData} (D : Df K mg "check_deeds" sCheckDeeds ["deeds"] f fd) (DG : Df K mg "check_group" sCheckGroup ["deeds"] fG fdG) (DC : Df K mg "check_different" sCheckDiff ["deeds"] fC fdC) (DW : Df K mg "is_word" sIsWord ["value"] fW fdW) (T : Bt2 mg) : FnOk P w K mg base CX0 4 f fd ["deeds"] (spDeeds K) := by
  have GC : FnOk P w K mg base CX0 3 fG fdG ["deeds"] (spDeeds K) := ok_group DG DC DW T
  refine D.F.ok scDeeds (fun vs H Q E h => ?_) (fun cdv A outer s H vs Q E hr h => ?_)
  · obtain ⟨a, ws, rfl, _⟩ := h
    rfl
  · obtain ⟨a, ws, rfl, ha, gd, k⟩ := h
    have hle : ws.length ≤ 6 := gd.len.2
    obtain ⟨tM, gM⟩ := T.MOST_DEEDS
    refine ⟨_, pss_cons (ps_expr (pe_call GC hr rfl DG.g DG.F.kp DG.b .nil pass0 (pa_cons (pv 0) pa_nil)))
      (pss_one (ps_if (pt_cmpR op_gt (pe_callB call_len (by rfl) T.len PySem.boot_len (pa_cons (pv 0) pa_nil)) (pe_glob (v := .int 6) rfl gM ⟨_, rfl⟩) (nomark _)) pss_never pss_nil)), ?_⟩
    refine ⟨_, rfl, a, ws, rfl, ha, gd, fun H1 sm => ?_⟩
    refine ⟨_, rfl, _, _, rfl, (ha.same sm).len, _, _, rfl, rfl, _, rfl, ?_⟩
    refine ite2 (fun h => ?_) (fun _ => k H1 sm)
    have := of_decide_eq_true h
    rw [List.length_map] at this
    exact absurd this (by omega)
end
end K1
set_option Elab.async false
set_option linter.all false
set_option maxRecDepth 100000
namespace K1
open PySem L2
theorem kit_list {K : PySem.W.Frag} : PySem.W.kitAny K (.type "list") [.type "list", .type "tuple"] = some true := by
  simp [PySem.W.kitAny, PySem.W.kitOne]
def spRows (K : PySem.W.Frag) : Sp := fun vs H Q _ => ∃ (b : Addr) (m : Nat) (as : List Addr) (rs : List (List Int)), vs = [.ref b, .int (m : Int)] ∧ SqL K H b (as.map V.ref) ∧ RowsAt H as rs ∧ 1 ≤ rs.length ∧ rs.length ≤ 60 ∧ m ≤ 100 ∧
  (∀ r ∈ rs, r.length = m ∧ ∀ x ∈ r, 0 ≤ x ∧ x < (rs.length : Int)) ∧ ∀ H', Same H H' → Q .non H'
def spTells (K : PySem.W.Frag) : Sp := fun vs H Q _ => ∃ (b : Addr) (ss : List Str), vs = [.ref b, .int (ss.length : Int)] ∧ SqL K H b (ss.map V.str) ∧ (∀ z ∈ ss, Tl z) ∧ ss.length ≤ 100 ∧ ∀ H', Same H H' → Q .non H'
theorem RowsAt.same {H H' : Hp} {as : List Addr} {rs : List (List Int)} (h : RowsAt H as rs) (s : Same H H') : RowsAt H' as rs := ⟨h.1, fun i a r e1 e2 => s _ _ (h.2 i a r e1 e2)⟩
def rLn (K : PySem.W.Frag) : List V → Hp → VK → Prop := fun xs H Q => ∃ x n, xs = [x] ∧ LenV K x H n ∧ Q (.int n) H
section
variable {P : Program} {w : World} {K : PySem.W.Frag} {mg : Str → Option Value} {base : Heap}
abbrev nRows : List Str := ["rows", "many", "index", "row", "state"]
theorem scRows : FnScope nRows ["rows", "many"] (defScope sCheckRows) := ⟨rfl, rfl, rfl, by decide +kernel, rfl, by decide +kernel, by decide +kernel⟩
theorem ok_rows {f fX fI : Addr} {fd fdX fdI : FuncData} (D : Df K mg "check_rows" sCheckRows ["rows", "many"] f fd) (DX : Df K mg "is_index" sIsIndex ["value", "many"] fX fdX) (DI : Df K mg "is_integer" sIsInt ["value"] fI fdI) (T : Bt2 mg) : FnOk P w K mg base CX0 3 f fd ["rows", "many"] (spRows K) := by
  have GX : FnOk P w K mg base CX0 2 fX fdX ["value", "many"] spIsIndex := ok_isindex DX DI T
  refine D.F.ok scRows (fun vs H Q E h => ?_) (fun cdv A outer s H vs Q E hr h => ?_)
  · obtain ⟨b, m, as, rs, rfl, _⟩ := h
    rfl
  · obtain ⟨b, m, as, rs, rfl, hb, hR, h1, h60, hm, hrow, k⟩ := h
    obtain ⟨tM, gM⟩ := T.MOST_STATES
    have hlen : (as.map V.ref).length = rs.length := by rw [List.length_map, hR.1]
    refine ⟨_, pss_cons (ps_if (pt_cmpR op_eq (pe_callB call_len (by rfl) T.len PySem.boot_len (pa_cons (pv 0) pa_nil)) pe_int (nomark _)) pss_never pss_nil)
      (pss_cons (ps_if (pt_cmpR op_gt (pe_callB call_len (by rfl) T.len PySem.boot_len (pa_cons (pv 0) pa_nil)) (pe_glob (v := .int 60) rfl gM ⟨_, rfl⟩) (nomark _)) pss_never pss_nil)
      (pss_one (ps_for PassesOwn.never rfl (pi_enum (by rfl) T.enumerate (pa_cons (pv 0) pa_nil)) (pg_tup (by rfl) (pgs_cons (pg_name (i := 2) scRows.nd rfl (Or.inl rfl)) (pgs_cons (pg_name (i := 3) scRows.nd rfl (Or.inl rfl)) pgs_nil)))
        (pss_cons (ps_if (PW.pt (pw_or (pt_not (pt_val (pe_callB call_isiT (by rfl) T.isinstance PyProof.Rows.boot_isinstance (pa_cons (pv 3) (pa_cons (pe_tup (pa_cons (pe_bltn (v := .ty "list") (by rfl) T.list PyProof.Rows.boot_list rfl) (pa_cons (pe_bltn (v := .ty "tuple") (by rfl) T.tuple PyProof.Rows.boot_tuple rfl) pa_nil))) pa_nil)))))
            (pw_or1 (pt_cmpR op_ne (pe_callB call_len (by rfl) T.len PySem.boot_len (pa_cons (pv 3) pa_nil)) (pv 1) (nomark _))))) pss_never pss_nil)
        (pss_one (ps_if (pt_not (pt_val (pe_callB (cr_all rfl) (by rfl) T.all PyProof.Rows.boot_all (pa_cons (pe_lc (own := [("state", 4)]) (g := gName 4) (by rfl) scRows.nd (pi_list (pv 3))
            (blkOk_by (own := [("state", 4)]) (N := nRows) (sc := defScope sCheckRows) (by decide +kernel)) (fun _ _ _ _ _ => pg_name (i := 4) scRows.nd rfl (Or.inl rfl)) (fun _ _ _ _ _ => pts_nil)
            (fun _ _ _ _ _ => pe_call GX hr rfl DX.g DX.F.kp DX.b .nil pass0 (pa_cons (pv 4) (pa_cons (pe_callB (r := rLn K) call_len (by rfl) T.len PySem.boot_len (pa_cons (pv 0) pa_nil)) pa_nil)))) pa_nil)))) pss_never pss_nil)))))), ?_⟩
    refine ⟨_, rfl, _, rs.length, rfl, .inl ⟨_, hb, hlen.symm⟩, rfl, _, rfl, ?_⟩
    refine ite2 (fun h => absurd (of_decide_eq_true h) (fun h => by injection h with h; omega)) (fun _ => ?_)
    refine ⟨_, rfl, _, rs.length, rfl, .inl ⟨_, hb, hlen.symm⟩, _, _, rfl, rfl, _, rfl, ?_⟩
    refine ite2 (fun h => absurd (of_decide_eq_true h) (by omega)) (fun _ => ?_)
    refine ⟨_, rfl, b, _, rfl, hb, for_it (walk_enum (K := K) (a := b) (xs := as.map V.ref)) (fun i σ H' => Same H H' ∧ ∃ v1 v2, σ = [some (.ref b), some (.int (m : Int)), v1, v2, none]) ⟨Same.refl H, none, none, rfl⟩ (fun i σ H' _ p => p.1.seq hb) ?_ ?_⟩
    · rintro i x σ H1 H2 hi ⟨sm, v1, v2, rfl⟩ ⟨t, x1, x2, rfl, ht, rfl, e1, e2⟩
      cases e1
      replace e2 : (as.map V.ref)[i]? = some x2 := e2
      rw [List.getElem?_map] at e2
      obtain ⟨a, ea, rfl⟩ := Option.map_eq_some_iff.mp e2
      have hir : i < rs.length := by rw [← hR.1]; exact (List.getElem?_eq_some_iff.mp ea).1
      have er : rs[i]? = some rs[i] := List.getElem?_eq_getElem hir
      obtain ⟨hl, hx⟩ := hrow _ (List.getElem_mem hir)
      have sm2 := sm.trans (same_upd (o := .tup [V.int (i : Nat), V.ref a]) ht)
      have ha2 := sm2 _ _ (hR.2 i a _ ea er)
      refine ⟨t, _, rfl, SqT.of upd_same, rfl, _, _, rfl, _, _, rfl, rfl, ?_⟩
      generalize upd H1 t (.tup [V.int (i : Nat), V.ref a]) = H3 at sm2 ha2 ⊢
      refine ⟨_, rfl, by show 2 ≤ sizeLine; decide, fun q hq => ?_⟩
      have sm4 := sm2.trans (same_upd (o := .tup [V.ty "list", V.ty "tuple"]) hq)
      have ha4 := (same_upd (o := .tup [V.ty "list", V.ty "tuple"]) hq) _ _ ha2
      refine ⟨_, q, _, _, _, true, rfl, upd_same, .cons (.ty "list") (.cons (.ty "tuple") .nil), .base (.lst ha4), kit_list, true, rfl, ?_⟩
      refine iteF ?_
      refine ⟨_, rfl, _, m, rfl, .inl ⟨_, SqL.of ha4, by rw [List.length_map]; exact hl.symm⟩, _, rfl, rfl, _, rfl, ?_⟩
      refine ite2 (fun h => ?_) (fun _ => ?_)
      · simp at h
      refine ⟨_, rfl, a, rfl, ⟨_, SqL.of ha4⟩, fun D hD => ?_⟩
      generalize upd H3 q (.tup [V.ty "list", V.ty "tuple"]) = H4 at sm4 ha4 hD ⊢
      refine lc_list (K := K) (a := a) (xs := (rs[i]).map V.int) (fun j H' => Same H4 H' ∧ H' D = some (.lst ((List.replicate j true).map V.bl))) ?_ ?_ ?_ ?_
      · exact ⟨same_upd hD, upd_same⟩
      · exact fun j H' _ p => p.1.seq (SqL.of ha4)
      · rintro j x H5 hj ⟨sm5, hD5⟩
        rw [List.getElem?_map] at hj
        obtain ⟨y, hy, rfl⟩ := Option.map_eq_some_iff.mp hj
        obtain ⟨y0, y1⟩ := hx y (List.mem_of_getElem? hy)
        have hjl : j < (rs[i]).length := (List.getElem?_eq_some_iff.mp hy).1
        refine ⟨rfl, _, rfl, _, rfl, _, rs.length, rfl, .inl ⟨_, (sm4.trans sm5).seq hb, hlen.symm⟩, y, rs.length, rfl, y0, y1, ?_⟩
        refine ⟨_, hD5, ?_, ?_, ?_⟩
        · simp; exact small1000 (by omega)
        · exact fun b' o e => by rw [upd_ne (ne_of_none e hD)]; exact sm5 b' o e
        · rw [upd_same, List.replicate_succ']
          simp
      · rintro H5 ⟨sm5, hD5⟩
        refine ⟨D, _, rfl, SqL.of hD5, ?_⟩
        have e : (List.replicate ((rs[i]).map V.int).length true).all id = true := by simp
        rw [e]
        refine ⟨true, rfl, ?_⟩
        refine iteF ?_
        exact ⟨sm4.trans sm5, _, _, rfl⟩
    · rintro σ H1 ⟨sm, v1, v2, rfl⟩
      exact k H1 sm
theorem scTells : FnScope ["tells", "many", "index", "tell"] ["tells", "many"] (defScope sCheckTells) := ⟨rfl, rfl, rfl, by decide +kernel, rfl, by decide +kernel, by decide +kernel⟩
theorem ok_tells {f fT : Addr} {fd fdT : FuncData} (D : Df K mg "check_tells" sCheckTells ["tells", "many"] f fd) (DT : Df K mg "is_tell" sIsTell ["value"] fT fdT) (T : Bt2 mg) : FnOk P w K mg base CX0 2 f fd ["tells", "many"] (spTells K) := by
  have GT : FnOk P w K mg base CX0 1 fT fdT ["value"] spIsTell := ok_istell DT T
  refine D.F.ok scTells (fun vs H Q E h => ?_) (fun cdv A outer s H vs Q E hr h => ?_)
  · obtain ⟨b, ss, rfl, _⟩ := h
    rfl
  · obtain ⟨b, ss, rfl, hb, ht, hl, k⟩ := h
    refine ⟨_, pss_cons (ps_for PassesOwn.never rfl (pi_enum (by rfl) T.enumerate (pa_cons (pv 0) pa_nil)) (pg_tup (by rfl) (pgs_cons (pg_name (i := 2) scTells.nd rfl (Or.inl rfl)) (pgs_cons (pg_name (i := 3) scTells.nd rfl (Or.inl rfl)) pgs_nil)))
        (pss_one (ps_if (pt_not (pt_val (pe_call GT hr rfl DT.g DT.F.kp DT.b .nil pass0 (pa_cons (pv 3) pa_nil)))) pss_never pss_nil)))
      (pss_one (ps_if (pt_cmpR op_ne (pe_callB call_len (by rfl) T.len PySem.boot_len (pa_cons (pv 0) pa_nil)) (pv 1) (nomark _)) pss_never pss_nil)), ?_⟩
    refine ⟨_, rfl, b, _, rfl, hb, for_it (walk_enum (K := K) (a := b) (xs := ss.map V.str)) (fun i σ H' => Same H H' ∧ ∃ v1 v2, σ = [some (.ref b), some (.int (ss.length : Int)), v1, v2]) ⟨Same.refl H, none, none, rfl⟩ (fun i σ H' _ p => p.1.seq hb) ?_ ?_⟩
    · rintro i x σ H1 H2 hi ⟨sm, v1, v2, rfl⟩ ⟨t, x1, x2, rfl, ht', rfl, e1, e2⟩
      cases e1
      replace e2 : (ss.map V.str)[i]? = some x2 := e2
      rw [List.getElem?_map] at e2
      obtain ⟨z, ez, rfl⟩ := Option.map_eq_some_iff.mp e2
      have sm2 := sm.trans (same_upd (o := .tup [V.int (i : Nat), V.str z]) ht')
      refine ⟨t, _, rfl, SqT.of upd_same, rfl, _, _, rfl, _, _, rfl, rfl, ?_⟩
      refine ⟨_, rfl, z, rfl, ht z (List.mem_of_getElem? ez), fun H3 sm3 => ⟨true, rfl, ?_⟩⟩
      refine iteF ?_
      exact ⟨sm2.trans sm3, _, _, rfl⟩
    · rintro σ H1 ⟨sm, v1, v2, rfl⟩
      refine ⟨_, rfl, _, ss.length, rfl, .inl ⟨_, sm.seq hb, (List.length_map _).symm⟩, _, rfl, rfl, _, rfl, ?_⟩
      refine ite2 (fun h => ?_) (fun _ => k H1 sm)
      simp at h
end
end K1
set_option Elab.async false
set_option linter.all false
set_option maxRecDepth 100000
namespace K1
open PySem L2
abbrev sMInit : Stmt := inClass (top 41) 0
abbrev sMLen : Stmt := inClass (top 41) 1
abbrev sMEq : Stmt := inClass (top 41) 2
theorem f_dr : ¬ (("deeds" : Str) = "rows") := by decide +kernel
theorem f_dt : ¬ (("deeds" : Str) = "tells") := by decide +kernel
theorem f_ds : ¬ (("deeds" : Str) = "start") := by decide +kernel
theorem f_rt : ¬ (("rows" : Str) = "tells") := by decide +kernel
theorem f_rs : ¬ (("rows" : Str) = "start") := by decide +kernel
theorem f_ts : ¬ (("tells" : Str) = "start") := by decide +kernel
theorem f_rd : ¬ (("rows" : Str) = "deeds") := by decide +kernel
theorem f_td : ¬ (("tells" : Str) = "deeds") := by decide +kernel
theorem f_tr : ¬ (("tells" : Str) = "rows") := by decide +kernel
def mf (t r l : Addr) (st : Int) : List (Str × V) := putF "start" (.int st) (putF "tells" (.ref l) (putF "rows" (.ref r) (putF "deeds" (.ref t) [])))
theorem mf_deeds (t r l : Addr) (st : Int) : (mf t r l st).lookup ("deeds" : Str) = some (.ref t) := by
  unfold mf
  rw [lookup_putF, if_neg f_ds, lookup_putF, if_neg f_dt, lookup_putF, if_neg f_dr, lookup_putF, if_pos rfl]
theorem mf_rows (t r l : Addr) (st : Int) : (mf t r l st).lookup ("rows" : Str) = some (.ref r) := by
  unfold mf
  rw [lookup_putF, if_neg f_rs, lookup_putF, if_neg f_rt, lookup_putF, if_pos rfl]
theorem mf_tells (t r l : Addr) (st : Int) : (mf t r l st).lookup ("tells" : Str) = some (.ref l) := by
  unfold mf
  rw [lookup_putF, if_neg f_ts, lookup_putF, if_pos rfl]
theorem mf_start (t r l : Addr) (st : Int) : (mf t r l st).lookup ("start" : Str) = some (.int st) := by
  unfold mf
  rw [lookup_putF, if_pos rfl]
theorem mf_no (t r l : Addr) (st : Int) {m : Str} (h1 : ¬ m = "start") (h2 : ¬ m = "tells") (h3 : ¬ m = "rows") (h4 : ¬ m = "deeds") : (mf t r l st).lookup m = none := by
  unfold mf
  rw [lookup_putF, if_neg h1, lookup_putF, if_neg h2, lookup_putF, if_neg h3, lookup_putF, if_neg h4]
  rfl
def RowsT (H : Hp) (as : List Addr) (rs : List (List Int)) : Prop := as.length = rs.length ∧ ∀ (i : Nat) (a : Addr) (r : List Int), as[i]? = some a → rs[i]? = some r → H a = some (.tup (r.map V.int))
theorem RowsT.same {H H' : Hp} {as : List Addr} {rs : List (List Int)} (h : RowsT H as rs) (s : Same H H') : RowsT H' as rs := ⟨h.1, fun i a r e1 e2 => s _ _ (h.2 i a r e1 e2)⟩
def MachAt (K : PySem.W.Frag) (C : Addr) (H : Hp) (x : Addr) (ws : List Str) (rs : List (List Int)) (ss : List Str) (st : Int) : Prop :=
  ∃ (dx t r l : Addr) (as : List Addr), H x = some (.ins C dx (mf t r l st)) ∧ SqF H t (ws.map V.str) ∧ H r = some (.tup (as.map V.ref)) ∧ RowsT H as rs ∧ H l = some (.tup (ss.map V.str))
/-- the parts that a machine takes -/
structure Parts (ws : List Str) (rs : List (List Int)) (ss : List Str) (st : Int) : Prop where
  gd : GoodD ws
  many : 1 ≤ rs.length ∧ rs.length ≤ 60
  row : ∀ r ∈ rs, r.length = ws.length ∧ ∀ x ∈ r, 0 ≤ x ∧ x < (rs.length : Int)
  tl : ss.length = rs.length ∧ ∀ z ∈ ss, Tl z
  st : 0 ≤ st ∧ st < (rs.length : Int)
def spMInit (K : PySem.W.Frag) (C : Addr) : Sp := fun vs H Q _ => ∃ (x dx a b l : Addr) (as : List Addr) (ws : List Str) (rs : List (List Int)) (ss : List Str) (st : Int), vs = [.ref x, .ref a, .ref b, .ref l, .int st] ∧ H x = some (.ins C dx []) ∧
  SqF H a (ws.map V.str) ∧ SqL K H b (as.map V.ref) ∧ RowsAt H as rs ∧ SqL K H l (ss.map V.str) ∧ Parts ws rs ss st ∧ ∀ H', MachAt K C H' x ws rs ss st → Kept x H H' → Q .non H'
/-- what the class brings -/
structure Tm (K : PySem.W.Frag) (mg : Str → Option Value) (C : Addr) : Prop where
  cl : Cls K C
  nD : NoAttr K C "deeds"
  nR : NoAttr K C "rows"
  nT : NoAttr K C "tells"
  nS : NoAttr K C "start"
  mgC : mg "Machine" = some (.ref C)
theorem tup_any {K : PySem.W.Frag} {H : Hp} {a : Addr} {ys : List V} {Qf : V → Hp → Prop} (h : Sq K H a ys) (k : ∀ t H', SqT K H' t ys → Same H H' → Qf (.ref t) H') :
    (SqL K H a ys ∧ ∀ l, H l = none → Qf (.ref l) (upd H l (.tup ys))) ∨ (SqT K H a ys ∧ Qf (.ref a) H) := by
  rcases h with h | h
  · exact .inl ⟨h, fun l hl => k l _ (SqT.of upd_same) (same_upd hl)⟩
  · exact .inr ⟨h, k a H h (Same.refl H)⟩
theorem Kept.seqI {K : PySem.W.Frag} {x C dx : Addr} {fs : List (Str × V)} {H H' : Hp} {a : Addr} {xs : List V} (e : Kept x H H') (hx : H x = some (.ins C dx fs)) (h : SqL K H a xs) : SqL K H' a xs := by
  rcases h with (h | ⟨o, h⟩) | h
  · exact .inl (.inl (e _ _ h (ne_of h hx (by intro z; cases z))))
  · exact .inl (.inr ⟨o, e _ _ h (ne_of h hx (by intro z; cases z))⟩)
  · exact .inr h
theorem Kept.seqTI {K : PySem.W.Frag} {x C dx : Addr} {fs : List (Str × V)} {H H' : Hp} {a : Addr} {xs : List V} (e : Kept x H H') (hx : H x = some (.ins C dx fs)) (h : SqT K H a xs) : SqT K H' a xs := by
  rcases h with (h | ⟨o, h⟩) | h
  · exact .inl (.inl (e _ _ h (ne_of h hx (by intro z; cases z))))
  · exact .inl (.inr ⟨o, e _ _ h (ne_of h hx (by intro z; cases z))⟩)
  · exact .inr h
theorem Kept.seqFI {x C dx : Addr} {fs : List (Str × V)} {H H' : Hp} {a : Addr} {xs : List V} (e : Kept x H H') (hx : H x = some (.ins C dx fs)) (h : SqF H a xs) : SqF H' a xs := e.seqF hx (by intro o ys z; cases z) h
theorem Kept.rowsI {x C dx : Addr} {fs : List (Str × V)} {H H' : Hp} {as : List Addr} {rs : List (List Int)} (e : Kept x H H') (hx : H x = some (.ins C dx fs)) (h : RowsAt H as rs) : RowsAt H' as rs :=
  ⟨h.1, fun i a r e1 e2 => e _ _ (h.2 i a r e1 e2) (ne_of (h.2 i a r e1 e2) hx (by intro z; cases z))⟩
theorem Kept.self {x : Addr} {H : Hp} {o : HO} : Kept x H (L2.upd H x o) := fun b u e n => by rw [upd_ne n]; exact e
theorem RowsT.kept {x C dx : Addr} {fs : List (Str × V)} {H H' : Hp} {as : List Addr} {rs : List (List Int)} (e : Kept x H H') (hx : H x = some (.ins C dx fs)) (h : RowsT H as rs) : RowsT H' as rs :=
  ⟨h.1, fun i a r e1 e2 => e _ _ (h.2 i a r e1 e2) (ne_of (h.2 i a r e1 e2) hx (by intro z; cases z))⟩
theorem RowsT.snoc {H : Hp} {as : List Addr} {rs : List (List Int)} {a : Addr} {r : List Int} (h : RowsT H as rs) (e : H a = some (.tup (r.map V.int))) : RowsT H (as ++ [a]) (rs ++ [r]) := by
  refine ⟨by simp [h.1], fun i b q e1 e2 => ?_⟩
  by_cases hi : i < as.length
  · rw [List.getElem?_append_left hi] at e1
    rw [List.getElem?_append_left (by rw [← h.1]; exact hi)] at e2
    exact h.2 i b q e1 e2
  · rw [List.getElem?_append_right (by omega)] at e1
    rw [List.getElem?_append_right (by rw [← h.1]; omega), ← h.1] at e2
    cases hj : i - as.length with
    | zero =>
      rw [hj] at e1 e2
      simp at e1 e2
      rw [← e1, ← e2]; exact e
    | succ j => rw [hj] at e1; simp at e1
def rTu (K : PySem.W.Frag) : List V → Hp → VK → Prop := fun xs H Q => ∃ p ys, xs = [.ref p] ∧ ((SqL K H p ys ∧ ∀ l, H l = none → Q (.ref l) (upd H l (.tup ys))) ∨ (SqT K H p ys ∧ Q (.ref p) H))
section
variable {P : Program} {w : World} {K : PySem.W.Frag} {mg : Str → Option Value} {base : Heap}
abbrev pInit : List Str := ["self", "deeds", "rows", "tells", "start"]
abbrev nInit : List Str := ["self", "deeds", "rows", "tells", "start", "row"]
theorem scMInit : FnScope nInit pInit (defScope sMInit) := ⟨rfl, rfl, rfl, by decide +kernel, rfl, by decide +kernel, by decide +kernel⟩
abbrev MI (K : PySem.W.Frag) (f : Addr) (fd : FuncData) : Prop := FunD K "__init__" "Machine.__init__" (defArgs sMInit) (defBody sMInit) (defScope sMInit) [.int 0] [] f fd
theorem ok_minit {C f fCd fG fD fW fR fX fI fT fL : Addr} {fd fdCd fdG fdD fdW fdR fdX fdI fdT fdL : FuncData} (F : MI K f fd) (M : Tm K mg C) (T : Bt2 mg)
    (DCd : Df K mg "check_deeds" sCheckDeeds ["deeds"] fCd fdCd) (DG : Df K mg "check_group" sCheckGroup ["deeds"] fG fdG) (DD : Df K mg "check_different" sCheckDiff ["deeds"] fD fdD) (DW : Df K mg "is_word" sIsWord ["value"] fW fdW)
    (DR : Df K mg "check_rows" sCheckRows ["rows", "many"] fR fdR) (DX : Df K mg "is_index" sIsIndex ["value", "many"] fX fdX) (DI : Df K mg "is_integer" sIsInt ["value"] fI fdI)
    (DT : Df K mg "check_tells" sCheckTells ["tells", "many"] fT fdT) (DL : Df K mg "is_tell" sIsTell ["value"] fL fdL) : FnOk P w K mg base CX0 5 f fd pInit (spMInit K C) := by
  have GC : FnOk P w K mg base CX0 4 fCd fdCd ["deeds"] (spDeeds K) := ok_deeds DCd DG DD DW T
  have GR : FnOk P w K mg base CX0 3 fR fdR ["rows", "many"] (spRows K) := ok_rows DR DX DI T
  have GT : FnOk P w K mg base CX0 2 fT fdT ["tells", "many"] (spTells K) := ok_tells DT DL T
  have GX : FnOk P w K mg base CX0 2 fX fdX ["value", "many"] spIsIndex := ok_isindex DX DI T
  refine F.ok scMInit (fun vs H Q E h => ?_) (fun cdv A outer s H vs Q E hr h => ?_)
  · obtain ⟨x, dx, a, b, l, as, ws, rs, ss, st, rfl, _⟩ := h
    rfl
  · obtain ⟨x, dx, a, b, l, as, ws, rs, ss, st, rfl, hx, ha, hb, hR, hl, pt, k⟩ := h
    have hr2 : Room 2 _ := hr.mono (by decide)
    have hr3 : Room 3 _ := hr.mono (by decide)
    obtain ⟨t2, ht2, hq2⟩ : ∃ t2, PSs (cxOf CX0 P w K mg base nInit "Machine.__init__" (defScope sMInit) f cdv A outer s H E) ((defBody sMInit).drop 5) t2 ∧ ∀ (t : Addr) (H5 : Hp), H5 x = some (.ins C dx (putF "deeds" (.ref t) [])) →
        SqF H5 t (ws.map V.str) → SqL K H5 b (as.map V.ref) → RowsAt H5 as rs → SqL K H5 l (ss.map V.str) → Kept x H H5 → t2 { nx := fun _ H' => Q .non H', rt := Q } (start nInit [.ref x, .ref a, .ref b, .ref l, .int st]) H5 := by
      refine ⟨_, pss_cons (ps_fld (pv 0) (pe_callTy call_tuple_of (by rfl) T.tuple PyProof.Rows.boot_tuple (pa_cons (pe_lc (own := [("row", 5)]) (g := gName 5) (by rfl) scMInit.nd (pi_list (pv 2))
            (blkOk_by (own := [("row", 5)]) (N := nInit) (sc := defScope sMInit) (by decide +kernel)) (fun _ _ _ _ _ => pg_name (i := 5) scMInit.nd rfl (Or.inl rfl)) (fun _ _ _ _ _ => pts_nil)
            (fun _ _ _ _ _ => pe_callTy (r := rTu K) call_tuple_of (by rfl) T.tuple PyProof.Rows.boot_tuple (pa_cons (pv 5) pa_nil))) pa_nil)) rfl)
        (pss_cons (ps_fld (pv 0) (pe_callTy call_tuple_of (by rfl) T.tuple PyProof.Rows.boot_tuple (pa_cons (pv 3) pa_nil)) rfl)
        (pss_one (ps_fld (pv 0) (pv 4) rfl))), ?_⟩
      intro t H5 hx5 ht5 hb5 hR5 hl5 kk5
      refine ⟨_, rfl, b, rfl, ⟨_, hb5⟩, fun D hD => ?_⟩
      refine lc_list (K := K) (a := b) (xs := as.map V.ref) (fun i H' => Same H5 H' ∧ ∃ bs : List Addr, bs.length = i ∧ H' D = some (.lst (bs.map V.ref)) ∧ RowsT H' bs (rs.take i) ∧ ∀ q ∈ bs, q ≠ D) ?_ ?_ ?_ ?_
      · exact ⟨same_upd hD, [], rfl, upd_same, ⟨by simp, fun i a r e => by simp at e⟩, by simp⟩
      · exact fun i H' _ p => p.1.seq hb5
      · rintro i y H6 hi ⟨sm6, bs, hbs, hD6, hR6, hnD⟩
        rw [List.getElem?_map] at hi
        obtain ⟨ai, eai, rfl⟩ := Option.map_eq_some_iff.mp hi
        have hir : i < rs.length := by rw [← hR.1]; exact (List.getElem?_eq_some_iff.mp eai).1
        have eri : rs[i]? = some rs[i] := List.getElem?_eq_getElem hir
        have ha6 := sm6 _ _ (hR5.2 i ai _ eai eri)
        refine ⟨rfl, _, rfl, ai, _, rfl, .inl ⟨SqL.of ha6, fun q hq => ?_⟩⟩
        have nDq : D ≠ q := ne_of_none hD6 hq
        have h60 := pt.many.2
        refine ⟨_, (by rw [upd_ne nDq]; exact hD6), ?_, ?_, bs ++ [q], by simp [hbs], by rw [upd_same]; simp, ?_, ?_⟩
        · rw [List.length_map]; exact small1000 (by omega)
        · exact fun c o e => by rw [upd_ne (ne_of_none e hD), upd_ne (ne_of_none (sm6 _ _ e) hq)]; exact sm6 _ _ e
        · have e7 : RowsT (upd H6 q (.tup ((rs[i]).map V.int))) (bs ++ [q]) (rs.take i ++ [rs[i]]) := (hR6.same (same_upd hq)).snoc upd_same
          rw [List.take_add_one, eri]
          refine ⟨e7.1, fun j c r e1 e2 => ?_⟩
          have hm := List.mem_of_getElem? e1
          have : c ≠ D := by
            rcases List.mem_append.mp hm with h | h
            · exact hnD c h
            · rw [List.mem_singleton.mp h]; exact nDq.symm
          rw [upd_ne this]
          exact e7.2 j c r e1 e2
        · intro c hc
          rcases List.mem_append.mp hc with h | h
          · exact hnD c h
          · rw [List.mem_singleton.mp h]; exact nDq.symm
      · rintro H6 ⟨sm6, bs, hbs, hD6, hR6, hnD⟩
        have etk : rs.take (as.map V.ref).length = rs := by rw [List.length_map, hR.1, List.take_length]
        rw [etk] at hR6
        refine ⟨D, _, rfl, .inl ⟨SqL.of hD6, fun r hr7 => ?_⟩⟩
        have sr := same_upd (o := .tup (bs.map V.ref)) hr7
        have sm7 := sm6.trans sr
        have hx7 := sm7 _ _ hx5
        have hr7' : upd H6 r (.tup (bs.map V.ref)) r = some (.tup (bs.map V.ref)) := upd_same
        have hR7 := hR6.same sr
        have hl7 := sm7.seq hl5
        have ht7 := ht5.same sm7
        have kk7 : Kept x H (upd H6 r (.tup (bs.map V.ref))) := kk5.trans (.same sm7)
        generalize upd H6 r (.tup (bs.map V.ref)) = H7 at sm7 hx7 hr7' hR7 hl7 ht7 kk7 ⊢
        refine ⟨_, rfl, x, C, dx, _, rfl, hx7, M.cl, M.nR, (by show 1 < 1000; decide), ?_⟩
        have k8 : Kept x H7 (upd H7 x (.ins C dx (putF "rows" (.ref r) (putF "deeds" (.ref t) [])))) := Kept.self
        have hx8 : upd H7 x (.ins C dx (putF "rows" (.ref r) (putF "deeds" (.ref t) []))) x = some (.ins C dx (putF "rows" (.ref r) (putF "deeds" (.ref t) []))) := upd_same
        have hr8 := k8 _ _ hr7' (ne_of hr7' hx7 (by intro z; cases z))
        have hR8 := RowsT.kept k8 hx7 hR7
        have hl8 := k8.seqI hx7 hl7
        have ht8 := k8.seqFI hx7 ht7
        have kk8 := kk7.trans k8
        generalize upd H7 x (.ins C dx (putF "rows" (.ref r) (putF "deeds" (.ref t) []))) = H8 at k8 hx8 hr8 hR8 hl8 ht8 kk8 ⊢
        -- self.tells
        refine ⟨_, rfl, l, _, rfl, .inl ⟨hl8, fun l' hl9 => ?_⟩⟩
        have sl := same_upd (o := .tup (ss.map V.str)) hl9
        have hx9 := sl _ _ hx8
        have hl9' : upd H8 l' (.tup (ss.map V.str)) l' = some (.tup (ss.map V.str)) := upd_same
        have hr9 := sl _ _ hr8
        have hR9 := hR8.same sl
        have ht9 := ht8.same sl
        have kk9 : Kept x H (upd H8 l' (.tup (ss.map V.str))) := kk8.trans (.same sl)
        generalize upd H8 l' (.tup (ss.map V.str)) = H9 at hx9 hl9' hr9 hR9 ht9 kk9 ⊢
        refine ⟨_, rfl, x, C, dx, _, rfl, hx9, M.cl, M.nT, (by show 2 < 1000; decide), ?_⟩
        have k10 : Kept x H9 (upd H9 x (.ins C dx (putF "tells" (.ref l') (putF "rows" (.ref r) (putF "deeds" (.ref t) []))))) := Kept.self
        have hx10 : upd H9 x (.ins C dx (putF "tells" (.ref l') (putF "rows" (.ref r) (putF "deeds" (.ref t) [])))) x = some (.ins C dx (putF "tells" (.ref l') (putF "rows" (.ref r) (putF "deeds" (.ref t) [])))) := upd_same
        have hl10 := k10 _ _ hl9' (ne_of hl9' hx9 (by intro z; cases z))
        have hr10 := k10 _ _ hr9 (ne_of hr9 hx9 (by intro z; cases z))
        have hR10 := RowsT.kept k10 hx9 hR9
        have ht10 := k10.seqFI hx9 ht9
        have kk10 := kk9.trans k10
        generalize upd H9 x (.ins C dx (putF "tells" (.ref l') (putF "rows" (.ref r) (putF "deeds" (.ref t) [])))) = H10 at k10 hx10 hl10 hr10 hR10 ht10 kk10 ⊢
        -- self.start
        refine ⟨_, rfl, _, rfl, x, C, dx, _, rfl, hx10, M.cl, M.nS, (by show 3 < 1000; decide), ?_⟩
        have k11 : Kept x H10 (upd H10 x (.ins C dx (mf t r l' st))) := Kept.self
        exact k _ ⟨dx, t, r, l', bs, upd_same, k11.seqFI hx10 ht10, k11 _ _ hr10 (ne_of hr10 hx10 (by intro z; cases z)), RowsT.kept k11 hx10 hR10, k11 _ _ hl10 (ne_of hl10 hx10 (by intro z; cases z))⟩ (kk10.trans k11)
    have lnR : ∀ {H' : Hp}, Same H H' → LenV K (.ref b) H' rs.length := fun sm => .inl ⟨_, sm.seq hb, by rw [List.length_map, hR.1]⟩
    refine ⟨_, (pss_cons (ps_expr (pe_call GC hr rfl DCd.g DCd.F.kp DCd.b .nil pass0 (pa_cons (pv 1) pa_nil)))
      (pss_cons (ps_expr (pe_call GR hr3 rfl DR.g DR.F.kp DR.b .nil pass0 (pa_cons (pv 2) (pa_cons (pe_callB call_len (by rfl) T.len PySem.boot_len (pa_cons (pv 1) pa_nil)) pa_nil))))
      (pss_cons (ps_expr (pe_call GT hr2 rfl DT.g DT.F.kp DT.b .nil pass0 (pa_cons (pv 3) (pa_cons (pe_callB call_len (by rfl) T.len PySem.boot_len (pa_cons (pv 2) pa_nil)) pa_nil))))
      (pss_cons (ps_if (pt_not (pt_val (pe_call GX hr2 rfl DX.g DX.F.kp DX.b .nil pass0 (pa_cons (pv 4) (pa_cons (pe_callB call_len (by rfl) T.len PySem.boot_len (pa_cons (pv 2) pa_nil)) pa_nil))))) pss_never pss_nil)
      (pss_cons (ps_fld (pv 0) (pe_callTy call_tuple_of (by rfl) T.tuple PyProof.Rows.boot_tuple (pa_cons (pv 1) pa_nil)) rfl) ht2))))), ?_⟩
    refine ⟨_, rfl, a, ws, rfl, .inr ha.sq, pt.gd, fun H1 sm1 => ?_⟩
    refine ⟨_, rfl, _, rfl, _, ws.length, rfl, (by have := Sq.len (K := K) (.inr (ha.same sm1).sq); rwa [List.length_map] at this), b, ws.length, as, rs, rfl, sm1.seq hb, hR.same sm1, pt.many.1, pt.many.2, (by have := pt.gd.len.2; omega), pt.row, fun H2 sm2 => ?_⟩
    have s2 := sm1.trans sm2
    refine ⟨_, rfl, _, rfl, _, rs.length, rfl, lnR s2, l, ss, by rw [pt.tl.1]; rfl, s2.seq hl, pt.tl.2, by rw [pt.tl.1]; have := pt.many.2; omega, fun H3 sm3 => ?_⟩
    have s3 := s2.trans sm3
    refine ⟨_, rfl, _, rfl, _, rs.length, rfl, lnR s3, st, rs.length, rfl, pt.st.1, pt.st.2, true, rfl, ?_⟩
    refine iteF ?_
    have fin : ∀ (t : Addr) (H4 : Hp), SqF H4 t (ws.map V.str) → Same H3 H4 → t2 { nx := fun _ H' => Q .non H', rt := Q } (start nInit [.ref x, .ref a, .ref b, .ref l, .int st]) (upd H4 x (.ins C dx (putF "deeds" (.ref t) []))) := fun t H4 ht4 sm4 => by
      have s4 := s3.trans sm4
      have hx4 := s4 _ _ hx
      have k5 : Kept x H4 (upd H4 x (.ins C dx (putF "deeds" (.ref t) []))) := Kept.self
      exact hq2 t _ upd_same (k5.seqFI hx4 ht4) (k5.seqI hx4 (s4.seq hb)) (k5.rowsI hx4 (hR.same s4)) (k5.seqI hx4 (s4.seq hl)) ((Kept.same s4).trans k5)
    exact ⟨_, rfl, a, ws.map V.str, rfl, .inr ⟨(ha.same s3).sq, ⟨_, rfl, x, C, dx, _, rfl, s3 _ _ hx, M.cl, M.nD, (by show 0 < 1000; decide), fin a _ (ha.same s3) (Same.refl _)⟩⟩⟩
end
end K1
set_option Elab.async false
set_option linter.all false
set_option maxRecDepth 100000
namespace K1
open PySem L2
abbrev sMade : Stmt := top 52
theorem pk_deeds (t r l : Addr) (s : Int) : valV (plainK t r l s) kDeeds = some (.ref t) := valV_pos rfl
theorem pk_rows (t r l : Addr) (s : Int) : valV (plainK t r l s) kRows = some (.ref r) := by
  have h1 : ¬ (kDeeds = kRows) := by decide +kernel
  unfold plainK; rw [valV_neg h1]; exact valV_pos rfl
theorem pk_tells (t r l : Addr) (s : Int) : valV (plainK t r l s) kTells = some (.ref l) := by
  have h1 : ¬ (kDeeds = kTells) := by decide +kernel
  have h2 : ¬ (kRows = kTells) := by decide +kernel
  unfold plainK; rw [valV_neg h1, valV_neg h2]; exact valV_pos rfl
theorem pk_start (t r l : Addr) (s : Int) : valV (plainK t r l s) kStart = some (.int s) := by
  have h1 : ¬ (kDeeds = kStart) := by decide +kernel
  have h2 : ¬ (kRows = kStart) := by decide +kernel
  have h3 : ¬ (kTells = kStart) := by decide +kernel
  unfold plainK; rw [valV_neg h1, valV_neg h2, valV_neg h3]; exact valV_pos rfl
theorem gDeeds {H : Hp} {p t r l : Addr} {s : Int} (h : H p = some (.dK (plainK t r l s))) : DGet H p (.str "deeds") (some (.ref t)) := by have := DGet.k (k := kDeeds) h; rw [pk_deeds] at this; exact this
theorem gRows {H : Hp} {p t r l : Addr} {s : Int} (h : H p = some (.dK (plainK t r l s))) : DGet H p (.str "rows") (some (.ref r)) := by have := DGet.k (k := kRows) h; rw [pk_rows] at this; exact this
theorem gTells {H : Hp} {p t r l : Addr} {s : Int} (h : H p = some (.dK (plainK t r l s))) : DGet H p (.str "tells") (some (.ref l)) := by have := DGet.k (k := kTells) h; rw [pk_tells] at this; exact this
theorem gStart {H : Hp} {p t r l : Addr} {s : Int} (h : H p = some (.dK (plainK t r l s))) : DGet H p (.str "start") (some (.int s)) := by have := DGet.k (k := kStart) h; rw [pk_start] at this; exact this
def spMade (K : PySem.W.Frag) (C : Addr) : Sp := fun vs H Q _ => ∃ (p : Addr) (ws : List Str) (rs : List (List Int)) (ss : List Str) (st : Int), vs = [.ref p] ∧ PlainAt H p ws rs ss st ∧ Parts ws rs ss st ∧
  ∀ (x : Addr) (H' : Hp), H x = none → MachAt K C H' x ws rs ss st → Same H H' → Q (.ref x) H'
section
variable {P : Program} {w : World} {K : PySem.W.Frag} {mg : Str → Option Value} {base : Heap}
abbrev nMade : List Str := ["_law_plain_here", "_law_row"]
theorem scMade : FnScope nMade ["_law_plain_here"] (defScope sMade) := ⟨rfl, rfl, rfl, by decide +kernel, rfl, by decide +kernel, by decide +kernel⟩
def rLi (K : PySem.W.Frag) : List V → Hp → VK → Prop := fun xs H Q => ∃ p ys, xs = [.ref p] ∧ (SqL K H p ys ∨ SqT K H p ys) ∧ ∀ l, H l = none → Q (.ref l) (upd H l (.lst ys))
theorem ok_made {C f fI : Addr} {fd fdI : FuncData} (D : Df K mg "_law_made" sMade ["_law_plain_here"] f fd) (M : Tm K mg C) (T : Bt2 mg) (Mk' : Mk K C fI) (GI : FnOk P w K mg base CX0 5 fI fdI pInit (spMInit K C)) (bI : Binds K fdI pInit []) : FnOk P w K mg base CX0 7 f fd ["_law_plain_here"] (spMade K C) := by
  refine D.F.ok scMade (fun vs H Q E h => ?_) (fun cdv A outer s H vs Q E hr h => ?_)
  · obtain ⟨p, ws, rs, ss, st, rfl, _⟩ := h
    rfl
  · obtain ⟨p, ws, rs, ss, st, rfl, ⟨t, r, l, as, hp, ht, hr', hl, hR⟩, pt, k⟩ := h
    have hu := hu_of hr
    refine ⟨_, pss_one (ps_ret (pe_make Mk' GI hr rfl M.mgC bI .nil pass0 (pa_cons (pe_dget hu (pv 0) pe_str (fun _ _ => rfl))
      (pa_cons (pe_lc (own := [("_law_row", 1)]) (g := gName 1) (by rfl) scMade.nd (pi_list (pe_dget hu (pv 0) pe_str (fun _ _ => rfl)))
            (blkOk_by (own := [("_law_row", 1)]) (N := nMade) (sc := defScope sMade) (by decide +kernel)) (fun _ _ _ _ _ => pg_name (i := 1) scMade.nd rfl (Or.inl rfl)) (fun _ _ _ _ _ => pts_nil)
            (fun _ _ _ _ _ => pe_callTy (r := rLi K) call_list_of (by rfl) T.list PyProof.Rows.boot_list (pa_cons (pv 1) pa_nil)))
      (pa_cons (pe_callTy call_list_of (by rfl) T.list PyProof.Rows.boot_list (pa_cons (pe_dget hu (pv 0) pe_str (fun _ _ => rfl)) pa_nil))
      (pa_cons (pe_dget hu (pv 0) pe_str (fun _ _ => rfl)) pa_nil)))))), ?_⟩
    refine ⟨_, rfl, p, _, rfl, gDeeds hp, _, rfl, p, _, rfl, gRows hp, r, rfl, ⟨_, SqL.of hr'⟩, fun D1 hD => ?_⟩
    refine lc_list (K := K) (a := r) (xs := as.map V.ref) (fun i H' => Same H H' ∧ ∃ bs : List Addr, bs.length = i ∧ H' D1 = some (.lst (bs.map V.ref)) ∧ RowsAt H' bs (rs.take i) ∧ ∀ q ∈ bs, q ≠ D1) ?_ ?_ ?_ ?_
    · exact ⟨same_upd hD, [], rfl, upd_same, ⟨by simp, fun i a r e => by simp at e⟩, by simp⟩
    · exact fun i H' _ q => SqL.of (q.1 _ _ hr')
    · rintro i y H6 hi ⟨sm6, bs, hbs, hD6, hR6, hnD⟩
      rw [List.getElem?_map] at hi
      obtain ⟨ai, eai, rfl⟩ := Option.map_eq_some_iff.mp hi
      have hir : i < rs.length := by rw [← hR.1]; exact (List.getElem?_eq_some_iff.mp eai).1
      have eri : rs[i]? = some rs[i] := List.getElem?_eq_getElem hir
      have ha6 := sm6 _ _ (hR.2 i ai _ eai eri)
      refine ⟨rfl, _, rfl, ai, _, rfl, .inl (SqL.of ha6), fun q hq => ?_⟩
      have nDq : D1 ≠ q := ne_of_none hD6 hq
      have h60 := pt.many.2
      refine ⟨_, (by rw [upd_ne nDq]; exact hD6), ?_, ?_, bs ++ [q], by simp [hbs], by rw [upd_same]; simp, ?_, ?_⟩
      · rw [List.length_map]; exact small1000 (by omega)
      · exact fun c o e => by rw [upd_ne (ne_of_none e hD), upd_ne (ne_of_none (sm6 _ _ e) hq)]; exact sm6 _ _ e
      · have e7 : RowsAt (upd H6 q (.lst ((rs[i]).map V.int))) (bs ++ [q]) (rs.take i ++ [rs[i]]) := (hR6.same (same_upd hq)).snoc upd_same
        rw [List.take_add_one, eri]
        refine ⟨e7.1, fun j c r e1 e2 => ?_⟩
        have hm := List.mem_of_getElem? e1
        have : c ≠ D1 := by
          rcases List.mem_append.mp hm with h | h
          · exact hnD c h
          · rw [List.mem_singleton.mp h]; exact nDq.symm
        rw [upd_ne this]
        exact e7.2 j c r e1 e2
      · intro c hc
        rcases List.mem_append.mp hc with h | h
        · exact hnD c h
        · rw [List.mem_singleton.mp h]; exact nDq.symm
    · rintro H6 ⟨sm6, bs, hbs, hD6, hR6, hnD⟩
      have etk : rs.take (as.map V.ref).length = rs := by rw [List.length_map, hR.1, List.take_length]
      rw [etk] at hR6
      refine ⟨_, rfl, p, _, rfl, gTells (sm6 _ _ hp), l, _, rfl, .inl (SqL.of (sm6 _ _ hl)), fun l2 hl2 => ?_⟩
      have sl := same_upd (o := .lst (ss.map V.str)) hl2
      have s7 := sm6.trans sl
      refine ⟨_, rfl, p, _, rfl, gStart (s7 _ _ hp), ?_⟩
      intro x dx hx hdx ndx
      have zx : H x = none := s7.free hx
      have s8 : Same (upd H6 l2 (.lst (ss.map V.str))) (upd (upd (upd H6 l2 (.lst (ss.map V.str))) dx (.own x)) x (.ins C dx [])) := fun b o e => by
        rw [upd_ne (ne_of_none e hx), upd_ne (ne_of_none e hdx)]; exact e
      refine ⟨x, dx, t, D1, l2, bs, ws, rs, ss, st, rfl, upd_same, ((ht.same s7).same s8), SqL.of (s8 _ _ (sl _ _ hD6)), (hR6.same sl).same s8, SqL.of (s8 _ _ upd_same), pt, fun H9 hm hk => ⟨rfl, ?_⟩⟩
      exact k x H9 zx hm fun b o e => hk b o (s8 _ _ (s7 _ _ e)) (ne_of_none e zx)
end
end K1
set_option Elab.async false
set_option linter.all false
set_option maxRecDepth 100000
/-! the package's own errors: made from their fields, kept in their dict -/
namespace K1
open PySem L2
structure Oer (K : PySem.W.Frag) (mg : Str → Option Value) (x : Str) (fs : List Str) (C fI : Addr) (fd : FuncData) (qual : Str) (st : Stmt) : Prop where
  T : OexC K C
  xf : XfC K C
  g : mg x = some (.ref C)
  ini : PySem.W.findIn K (.ref C) "__init__" = some (some (.ref fI))
  tI : PySem.W.typeIn K (.ref fI) = some (.type "function")
  no : ∀ f ∈ fs, PySem.W.findIn K (.ref C) f = some none
  F : Fun K "__init__" qual st fI fd
  b : Binds K fd ("self" :: fs) []
def spIni (C : Addr) (fs : List Str) : Sp := fun vs H Q _ => ∃ (a : Addr) (ys : List V), vs = .ref a :: ys ∧ ys.length = fs.length ∧ H a = some (exo a C none) ∧
  ∀ dx, H dx = none → dx ≠ a → ∀ H', (∀ b o, H b = some o → b ≠ a → H' b = some o) → H' a = some (exo a C (some dx)) → H' dx = some (exd dx (fs.zip ys).reverse) → Q .non H'
/-- the reading of C(e, ..): d is the error's dict, new -/
theorem err_read {C : Addr} {fs : List Str} {vs : List V} {H1 : Hp} {Q : XK} (hl : fs.length ≤ 10) (e : vs.length = fs.length) (k : ∀ d G, Same H1 G → H1 d = none → G d = some (.xd (fs.zip vs).reverse) → Q (.ref C) (some d) G) :
    vs.length ≤ 1000 ∧ ∀ a, H1 a = none → spIni C fs (.ref a :: (vs ++ [])) (upd H1 a (exo a C none))
      (fun v H2 => v = .non ∧ ∃ (d : Addr) (gs : List (Str × V)), H2 a = some (exo a C (some d)) ∧ H2 d = some (exd d gs) ∧ H1 d = none ∧ Q (.ref C) (some d) (upd (del H2 a) d (.xd gs))) (fun _ _ _ => False) := by
  refine ⟨by omega, fun a ha => ?_⟩
  rw [List.append_nil]
  refine ⟨a, vs, rfl, e, upd_same, fun dx hdx ne H' keep ea ed => ⟨rfl, dx, _, ea, ed, ?_, ?_⟩⟩
  · rw [upd_ne ne] at hdx; exact hdx
  · have h1 : H1 dx = none := by rw [upd_ne ne] at hdx; exact hdx
    refine k dx _ (fun b o eb => ?_) h1 upd_same
    have nb : b ≠ a := ne_of_none eb ha
    rw [upd_ne (ne_of_none eb h1), del_ne nb]
    exact keep b o (by rw [upd_ne nb]; exact eb) nb
end K1
set_option Elab.async false
set_option linter.all false
set_option maxRecDepth 100000
/-! several clauses, each `except X as e`, of one name e -/
namespace K1
open PySem L2 PySem.Spec PyProof.Rows
def endsI (D : Ends) (i : Nat) : Ends := { nx := fun u G => D.nx (u.set i none) G, rt := D.rt, bk := fun u G => D.bk (u.set i none) G, ct := fun u G => D.ct (u.set i none) G }
def wAsAll (K : PySem.W.Frag) (i : Nat) (Wo : WX) (D : Ends) : List (Value × (Addr → Value → Option Addr → TS)) → WX
  | [] => Wo
  | p :: r => fun cl dd u G => ∃ b, PySem.W.exmOne K cl p.1 = some b ∧ (b = true → ∀ a, G a = none → p.2 a cl dd (endsI D i) (u.set i (some (.ref a))) G) ∧ (b = false → wAsAll K i Wo D r cl dd u G)
inductive AsOk (X : Cx) (n : Str) : List ExceptHandler → List (Value × (Addr → Value → Option Addr → TS)) → Prop
  | nil : AsOk X n [] []
  | cons {x : Str} {c : Value} {ts : Addr → Value → Option Addr → TS} {b₀ : Stmt} {suite : List Stmt} {np q : Pos} {hds : List ExceptHandler} {l : List (Value × (Addr → Value → Option Addr → TS))} (hc : Names X x c)
      (hsu : ∀ (a : Addr) (oe : Obj) (cl : Value) (dd : Option Addr) (pn : List (Addr × Obj)), Zc cl dd oe → (∃ vs, oe.data = .fields vs) → PSs (X.suite a ((a, oe) :: pn)) (b₀ :: suite) (ts a cl dd)) (r : AsOk X n hds l) :
      AsOk X n (.ExceptHandler (some (.Name x np)) (some n) (b₀ :: suite) q :: hds) ((c, ts) :: l)
section
variable {X : Cx} {n : Str} {i : Nat} {body : List Stmt} {h₀ : ExceptHandler} {hds : List ExceptHandler} {l : List (Value × (Addr → Value → Option Addr → TS))} {pos : Pos} {tb : WX → TS} {Wo : WX}
theorem ps_try_asAll (e0 : X.stack = X.env :: X.outer) (e1 : X.env.frame = some X.env.locals) (nd : X.N.Nodup) (hi : X.N[i]? = some n) (hln : X.env.kindOf n = some .local) (tk : Takes X Wo)
    (hb : ∀ (W : WX) (pn : List (Addr × Obj)) (xe : Value → Shared → Prop), Takes (X.tr pn xe) W → PassesOwn (model X.prog X.w) X.A X.env xe → PSs (X.tr pn xe) body (tb W))
    (hh : AsOk X n (h₀ :: hds) l) : PS X (.Try body (h₀ :: hds) [] [] pos) (fun D u G => tb (wAsAll X.K i Wo D l) D u G) := by
  refine ⟨fun pins s u G D I0 go0 => ?_⟩
  have ok := I0.ok
  have fr : X.A.frames = some (X.env :: X.outer) := by rw [ok.frames, e0]
  have lc : Loc X.env.scope n := .inl hln
  refine wpAny_Try_except ?_
  have run0 := (hb (wAsAll X.K i Wo D l) (X.pn ++ pins) (fun e s₁ => wpAny (model X.prog X.w) X.A (noteFrame e X.env) (fun _ s₂ => wpAny (model X.prog X.w) X.A (setFlight e none) (fun _ s₃ =>
    wpAny (model X.prog X.w) X.A (handleBy e X.env (h₀ :: hds)) (SP X pins D) X.xe s₃) X.xe s₂) X.xe s₁) (fun v s' xx => ?_) PassesOwn.looking).run [] s u G D (I0.toTry _) go0
  · refine wpAny_mono run0 (fun f s1 hsp => ?_) (fun e s1 he => he)
    cases f with
    | next => exact let ⟨u', G', J', q⟩ := hsp; wpAny_execs_nil ⟨u', G', J'.ofTry ok, q⟩
    | brk => exact let ⟨u', G', J', q⟩ := hsp; ⟨u', G', J'.ofTry ok, q⟩
    | cont => exact let ⟨u', G', J', q⟩ := hsp; ⟨u', G', J'.ofTry ok, q⟩
    | ret w => exact let ⟨v, u', G', J', r, q⟩ := hsp; ⟨v, u', G', J'.ofTry ok, r, q⟩
  · obtain ⟨a, B, sI, pins', u', G', cl, dd, rfl, J', nb, up, sky, na, os, ag, w⟩ := xx
    have J : Inv X pins u' G' sI := J'.ofTry ok
    have sk : Sky B (X.env :: X.outer) a (Zc cl dd) X.env.locals s'.heap := by rw [← e0]; exact sky
    show wpAny (model X.prog X.w) X.A (noteFrame (.ref a) X.env) _ _ _
    refine Sky.land Zc.steady fr e1 sk fun h3 fl3 up3 => ?_
    have J3 : Inv X pins u' G' { s' with heap := h3 } := J.landed nb fl3.1 (up.trans up3) os ag
    obtain ⟨oe3, vs3, he3, hz3, hd3⟩ := fl3.there
    have out : ∀ {h : Heap} {o : Obj} {vs : Array Value}, h.FunFrames B (X.env :: X.outer) → h.get? a = some o → o.data = .fields vs → a ∉ frs (X.env :: X.outer) := fun {h o vs} ff e hdt hm => by
      obtain ⟨_, o', e', hnf⟩ := ff.mem hm
      cases e.symm.trans e'
      exact hnf _ hdt
    have nfr := out fl3.2.2.1 he3 hd3
    have nL : a ≠ X.env.locals := fun z => nfr (List.mem_filterMap.mpr ⟨X.env, List.mem_cons_self, by rw [e1, z]⟩)
    have nF : a ∉ X.fs := fun hm => let ⟨e, he, q⟩ := List.mem_filterMap.mp hm; nfr (List.mem_filterMap.mpr ⟨e, List.mem_cons_of_mem _ he, q⟩)
    have S3 := J3.suite he3 hd3 na nL nF
    have go : ∀ {hs' : List ExceptHandler} {l' : List (Value × (Addr → Value → Option Addr → TS))}, AsOk X n hs' l' → wAsAll X.K i Wo D l' cl dd u' G' →
        wpAny (model X.prog X.w) X.A (handleBy (.ref a) X.env hs') (SP X pins D) X.xe { s' with heap := h3 } := by
      intro hs' l' hk
      induction hk with
      | nil =>
        intro w
        refine wpAny_handleBy_nil ?_
        obtain ⟨k1, k2, k3, oe, vs, T, oT, tz, he, hz, hd, h1, hr⟩ := id fl3
        unfold PySem.passOn
        refine wpAny_bind (wpAny_field he hd h1 ?_)
        rw [if_neg (show ¬ ((Value.ref T == Value.none) = true) by simp)]
        have fin : wpAny (model X.prog X.w) X.A (setFlight (.ref a) X.env.frame) (fun _ s4 => wpAny (model X.prog X.w) X.A (throw (.ref a) : Sem Flow) (SP X pins D) X.xe s4) X.xe { s' with heap := h3 } := by
          rw [e1]
          refine HandSPX.setFlight_upZ fl3 fun h4 hh4 up4 => wpAny_throw (tk _ _ ?_)
          exact ⟨a, B, sI, pins, u', G', cl, dd, rfl, J, nb, (up.trans up3).trans up4, .inr (.inr (by rw [e0]; exact hh4)), na, os, ag, w⟩
        first
          | exact wpAny_bind (wpAny_pure (wpAny_bind fin))
          | exact wpAny_bind fin
      | @cons x c ts b₀ suite np q0 hds2 l2 hc hsu r ih =>
        intro w
        obtain ⟨b, hb1, yes, no⟩ := w
        refine wpAny_handleBy_cons (codeAny_handlers_test ?_) (by intro q; cases q)
        have LT : PySem.W.Looks (model X.prog X.w) h3 (typeOf (.ref a)) cl := fun A Q E s k q => wpAny_typeOf_ref (k _ _ he3) (by rw [hz3.1]; exact q)
        have LM := PySem.W.exm_one (M := model X.prog X.w) (J3.kIn) LT hb1
        have test : ∀ {Q : Value → Shared → Prop} {E : Value → Shared → Prop}, Q c { s' with heap := h3 } → wpAny (model X.prog X.w) (X.A.mark (some (.ref a))) (eval (.Name x np) X.env) Q E { s' with heap := h3 } := fun {Q E} q => by
          rcases hc with ⟨hg, hdbg, hm | ⟨hm, hv, hnn⟩⟩
          · exact ld_glob (X := X.suite a ((a, oe3) :: (X.pn ++ pins))) S3 hg hm q hdbg
          · exact ld_blt (X := X.suite a ((a, oe3) :: (X.pn ++ pins))) S3 hg hm hv q hnn hdbg
        refine test (LM.here ?_)
        cases b with
        | true =>
          refine codeAny_handlers_suite_as (HandSPX.lands_againZ fl3 fun h4 fl4 up4 => ?_)
          have J4 : Inv X pins u' G' { s' with heap := h4 } := J.landed nb fl4.1 ((up.trans up3).trans up4) os ag
          obtain ⟨oe4, vs4, he4, hz4, hd4⟩ := fl4.there
          have S4 := J4.suite he4 hd4 na nL nF
          refine store_ok (X := X.suite a ((a, oe4) :: (X.pn ++ pins))) (v := .ref a) S4 nd hi lc rfl (fun s5 S5 => ?_) (.inr hln)
          refine wpAny_mono ((hsu a oe4 cl dd (X.pn ++ pins) hz4 ⟨_, hd4⟩).run [] s5 _ G' _ S5 (yes rfl a na)) (fun f s6 hsp => ?_) (fun _ _ z => False.elim z)
          have close : ∀ {u6 : L2.St} {G6 : Hp} {Q : Shared → Prop}, Inv (X.suite a ((a, oe4) :: (X.pn ++ pins))) [] u6 G6 s6 → (∀ s7, Inv X pins (u6.set i none) G6 s7 → Q s7) →
              wpAny (model X.prog X.w) X.A (do bindName X.env n .none; unbindBehindTheSuite X.env n q0) (fun _ s7 => Q s7) X.xe s6 := fun {u6 G6 Q} S6 hq => gone_ok (S6.unsuite ok) nd hi hln hq
          cases f with
          | next => exact let ⟨u6, G6, S6, q6⟩ := hsp; close S6 fun s7 J7 => ⟨_, _, J7, q6⟩
          | brk => exact let ⟨u6, G6, S6, q6⟩ := hsp; close S6 fun s7 J7 => ⟨_, _, J7, q6⟩
          | cont => exact let ⟨u6, G6, S6, q6⟩ := hsp; close S6 fun s7 J7 => ⟨_, _, J7, q6⟩
          | ret z => exact let ⟨v6, u6, G6, S6, r6, q6⟩ := hsp; close S6 fun s7 J7 => ⟨_, _, _, J7, r6, q6⟩
        | false =>
          show wpAny _ X.A (handleBy (.ref a) X.env hds2) _ _ _
          exact ih (no rfl)
    exact go hh w
end
end K1
set_option Elab.async false
set_option linter.all false
set_option maxRecDepth 100000
/-! repr of plain values; what is told of a making -/
namespace L2
open PySem PySem.Spec PyProof.Rows
def reprV : V → Str
  | .non => "None"
  | .bl b => if b then "True" else "False"
  | .int i => toString i
  | .str z => PySem.reprText z
  | _ => ""
def reprOk : V → Prop
  | .non => True
  | .bl _ => True
  | .int i => i.natAbs.log2 < 1920
  | .str z => (PySem.reprText z).length ≤ sizeLine
  | _ => False
def rRepr : List V → Hp → VK → Prop := fun xs H Q => ∃ v, xs = [v] ∧ reprOk v ∧ Q (.str (reprV v)) H
theorem call_repr_any {X : Cx} : CallR X (.builtin "repr") rRepr := by
  intro pins s σ H xs us Q I r h
  obtain ⟨v, rfl, ok, q⟩ := h
  cases v with
  | non =>
    obtain ⟨u, rfl, rv⟩ := vals1 r
    obtain rfl : u = Value.none := rv
    exact PySem.P.repr_of_none ⟨.str _, H, I.tok _, ⟨_, rfl⟩, q⟩
  | bl b =>
    obtain ⟨u, rfl, rv⟩ := vals1 r
    obtain rfl : u = Value.bool b := rv
    exact PySem.P.repr_of_bool ⟨.str _, H, I.tok _, ⟨_, rfl⟩, q⟩
  | int i =>
    obtain ⟨u, rfl, t, rfl⟩ := vals1 r
    exact PySem.P.repr_of_int ok ⟨.str _, H, I.tok _, ⟨_, rfl⟩, q⟩
  | str z =>
    obtain ⟨u, rfl, t, rfl⟩ := vals1 r
    exact PySem.P.repr_of_str ⟨.str _, H, I.tok _, ⟨_, rfl⟩, q⟩ ok
  | _ => exact ok.elim
end L2
set_option Elab.async false
set_option linter.all false
set_option maxRecDepth 100000
/-! what counts as an integer, an index, a word, a tell: of any value -/
namespace K1
open PySem L2
inductive Th (K : PySem.W.Frag) (H : Hp) : V → String → Prop
  | non : Th K H .non "NoneType"
  | bl (b : Bool) : Th K H (.bl b) "bool"
  | int (i : Int) : Th K H (.int i) "int"
  | str (z : Str) (hl : z.length ≤ 1000) : Th K H (.str z) "str"
  | tup {a : Addr} {xs : List V} (e : H a = some (.tup xs)) : Th K H (.ref a) "tuple"
  | lst {a : Addr} {xs : List V} (e : H a = some (.lst xs)) : Th K H (.ref a) "list"
  | dic {a : Addr} {kv : List (Key × V)} (e : H a = some (.dK kv)) : Th K H (.ref a) "dict"
theorem Th.ty {K : PySem.W.Frag} {H : Hp} {v : V} {t : String} (h : Th K H v t) : TyX K H v (.type t) := by
  cases h with
  | non => exact .base .non
  | bl b => exact .base (.bl b)
  | int i => exact .base (.int i)
  | str z => exact .base (.str z)
  | tup e => exact .base (.tup e)
  | lst e => exact .base (.lst e)
  | dic e => exact .base (.dK e)
theorem Th.same {K : PySem.W.Frag} {H H' : Hp} {v : V} {t : String} (h : Th K H v t) (s : Same H H') : Th K H' v t := by
  cases h with
  | non => exact .non
  | bl b => exact .bl b
  | int i => exact .int i
  | str z hl => exact .str z hl
  | tup e => exact .tup (s _ _ e)
  | lst e => exact .lst (s _ _ e)
  | dic e => exact .dic (s _ _ e)
def isStr : V → Bool | .str _ => true | _ => false
def isInt : V → Bool | .int _ => true | .bl _ => true | _ => false
def isBl : V → Bool | .bl _ => true | _ => false
def intB : V → Bool | .int _ => true | _ => false
def ixB (v : V) (m : Int) : Bool := match v with | .int i => decide (0 ≤ i) && decide (i < m) | _ => false
def wordL : List Nat → Bool
  | [] => false
  | c :: r => decide ((c :: r).length ≤ 12) && (decide (c ∈ LE) && (c :: r).all fun x => decide (x ∈ AL))
def wordB : V → Bool | .str z => wordL z.cps.toList | _ => false
def tellL (l : List Nat) : Bool := decide (1 ≤ l.length) && (decide (l.length ≤ 60) && l.all fun x => decide (x ∈ TL'))
def tellB : V → Bool | .str z => tellL z.cps.toList | _ => false
section
variable {K : PySem.W.Frag} {H : Hp} {v : V} {t : String}
theorem Th.kStr (h : Th K H v t) : PySem.W.kitOne K (.type t) (.type "str") = some (isStr v) := by cases h <;> first | exact kit_ty (r := true) (by decide +kernel) | exact kit_ty (r := false) (by decide +kernel)
theorem Th.kInt (h : Th K H v t) : PySem.W.kitOne K (.type t) (.type "int") = some (isInt v) := by cases h <;> first | exact kit_ty (r := true) (by decide +kernel) | exact kit_ty (r := false) (by decide +kernel)
theorem Th.kBl (h : Th K H v t) : PySem.W.kitOne K (.type t) (.type "bool") = some (isBl v) := by cases h <;> first | exact kit_ty (r := true) (by decide +kernel) | exact kit_ty (r := false) (by decide +kernel)
end
def spInt (K : PySem.W.Frag) : Sp := fun vs H Q _ => ∃ v t, vs = [v] ∧ Th K H v t ∧ Q (.bl (intB v)) H
def spIx (K : PySem.W.Frag) : Sp := fun vs H Q _ => ∃ v t m, vs = [v, .int m] ∧ Th K H v t ∧ Q (.bl (ixB v m)) H
def spWord (K : PySem.W.Frag) : Sp := fun vs H Q _ => ∃ v t, vs = [v] ∧ Th K H v t ∧ ∀ H', Same H H' → Q (.bl (wordB v)) H'
def spTell (K : PySem.W.Frag) : Sp := fun vs H Q _ => ∃ v t, vs = [v] ∧ Th K H v t ∧ ∀ H', Same H H' → Q (.bl (tellB v)) H'
section
variable {P : Program} {w : World} {K : PySem.W.Frag} {mg : Str → Option Value} {base : Heap}
theorem g_isint {f : Addr} {fd : FuncData} (D : Df K mg "is_integer" sIsInt ["value"] f fd) (T : Bt2 mg) : FnOk P w K mg base CX0 1 f fd ["value"] (spInt K) := by
  refine D.F.ok scIsInt (fun vs H Q E h => ?_) (fun cdv A outer s H vs Q E hr h => ?_)
  · obtain ⟨v, t, rfl, _⟩ := h
    rfl
  · obtain ⟨v, t, rfl, th, k⟩ := h
    refine ⟨_, pss_one (ps_ret (pe_and (pe_callB call_isi (by rfl) T.isinstance PyProof.Rows.boot_isinstance (pa_cons (pv 0) (pa_cons (pe_bltn (v := .ty "int") (by rfl) T.int PyProof.Rows.boot_int rfl) pa_nil)))
      (pe_one (pe_not (pe_callB call_isi (by rfl) T.isinstance PyProof.Rows.boot_isinstance (pa_cons (pv 0) (pa_cons (pe_bltn (v := .ty "bool") (by rfl) T.bool PyProof.Rows.boot_bool rfl) pa_nil))))))), ?_⟩
    refine ⟨_, rfl, _, _, _, _, isInt v, rfl, .ty "int", th.ty, th.kInt, isInt v, rfl, ?_⟩
    cases v with
    | int i => exact ⟨_, rfl, _, _, _, _, false, rfl, .ty "bool", th.ty, th.kBl, false, rfl, k⟩
    | bl b => exact ⟨_, rfl, _, _, _, _, true, rfl, .ty "bool", th.ty, th.kBl, true, rfl, k⟩
    | _ => exact k
theorem g_isindex {f fI : Addr} {fd fdI : FuncData} (D : Df K mg "is_index" sIsIndex ["value", "many"] f fd) (DI : Df K mg "is_integer" sIsInt ["value"] fI fdI) (T : Bt2 mg) : FnOk P w K mg base CX0 2 f fd ["value", "many"] (spIx K) := by
  have GI : FnOk P w K mg base CX0 1 fI fdI ["value"] (spInt K) := g_isint DI T
  refine D.F.ok scIsIndex (fun vs H Q E h => ?_) (fun cdv A outer s H vs Q E hr h => ?_)
  · obtain ⟨v, t, m, rfl, _⟩ := h
    rfl
  · obtain ⟨v, t, m, rfl, th, k⟩ := h
    refine ⟨_, pss_one (ps_ret (pe_and (pe_call GI hr rfl DI.g DI.F.kp DI.b .nil pass0 (pa_cons (pv 0) pa_nil)) (pe_one (pe_chain op_le op_lt pe_int (pv 0) (pv 1))))), ?_⟩
    refine ⟨_, rfl, v, t, rfl, th, intB v, rfl, ?_⟩
    cases v with
    | int i =>
      refine ⟨_, rfl, _, _, rfl, rfl, _, rfl, ?_⟩
      refine ite2 (fun h => ?_) (fun h => ?_)
      · refine ⟨_, rfl, _, _, rfl, rfl, ?_⟩
        have e : ixB (.int i) m = decide (i < m) := by
          show (decide (0 ≤ i) && decide (i < m)) = _
          rw [h]; rfl
        rw [e] at k
        exact k
      · have e : ixB (.int i) m = false := by
          show (decide (0 ≤ i) && decide (i < m)) = _
          rw [Bool.eq_false_iff.mpr h]; rfl
        rw [e] at k
        exact k
    | _ => exact k
end
end K1
set_option Elab.async false
set_option linter.all false
set_option maxRecDepth 100000
namespace K1
open PySem L2
/-- the signs of z held against a row of signs, one after the other -/
theorem all_signs {K : PySem.W.Frag} (A : List Nat) (l : List Nat) : ((l.map fun x => decide (x ∈ A)).all id) = l.all fun x => decide (x ∈ A) := by
  rw [List.all_map]; rfl
theorem take_snoc {l : List Nat} {i : Nat} {c : Nat} (h : l[i]? = some c) : l.take (i + 1) = l.take i ++ [c] := by
  rw [List.take_add_one, h]; rfl
section
variable {P : Program} {w : World} {K : PySem.W.Frag} {mg : Str → Option Value} {base : Heap}
theorem g_isword {f : Addr} {fd : FuncData} (D : Df K mg "is_word" sIsWord ["value"] f fd) (T : Bt2 mg) : FnOk P w K mg base CX0 1 f fd ["value"] (spWord K) := by
  refine D.F.ok scIsWord (fun vs H Q E h => ?_) (fun cdv A outer s H vs Q E hr h => ?_)
  · obtain ⟨v, t, rfl, _⟩ := h
    rfl
  · obtain ⟨v, t, rfl, th, k⟩ := h
    obtain ⟨tL, gL⟩ := T.LETTERS
    obtain ⟨tD, gD⟩ := T.DIGITS
    obtain ⟨tW, gW⟩ := T.LONGEST_WORD
    refine ⟨_, pss_cons (ps_if (PW.pt (pw_or (pt_not (pt_val (pe_callB call_isi (by rfl) T.isinstance PyProof.Rows.boot_isinstance (pa_cons (pv 0) (pa_cons (pe_bltn (v := .ty "str") (by rfl) T.str PyProof.Rows.boot_str rfl) pa_nil)))))
          (pw_or1 (pt_not (pt_chain op_le op_le pe_int (pe_callB call_len_str (by rfl) T.len PySem.boot_len (pa_cons (pv 0) pa_nil)) (pe_glob (v := .int 12) rfl gW ⟨_, rfl⟩))))))
        (pss_one (ps_ret pe_bl)) pss_nil)
      (pss_one (ps_ret (pe_and (pe_cmpR op_in_sign (pe_ix ix_str (pv 0) pe_int (fun _ _ => rfl)) (pe_glob (v := .str zLE) rfl gL ⟨_, rfl⟩) rfl)
        (pe_one (pe_callB (cr_all rfl) (by rfl) T.all PyProof.Rows.boot_all (pa_cons (pe_lc (own := [("sign", 1)]) (g := gName 1) (by rfl) scIsWord.nd (pi_str (pv 0))
          (blkOk_by (own := [("sign", 1)]) (N := ["value", "sign"]) (sc := defScope sIsWord) (by decide +kernel)) (fun _ _ _ _ _ => pg_name (i := 1) scIsWord.nd rfl (Or.inl rfl)) (fun _ _ _ _ _ => pts_nil)
          (fun _ _ _ _ _ => pe_cmpR op_in_sign (pv 1) (pe_op op_add_str (pe_glob (v := .str zLE) rfl gL ⟨_, rfl⟩) (pe_glob (v := .str zDG) rfl gD ⟨_, rfl⟩)) rfl)) pa_nil)))))), ?_⟩
    refine ⟨_, rfl, _, _, _, _, isStr v, rfl, .ty "str", th.ty, th.kStr, isStr v, rfl, ?_⟩
    cases th with
    | str z hl1 =>
      refine iteF ?_
      have hzl : z.length ≤ sizeLine := Nat.le_trans hl1 (by decide)
      have elen : z.length = z.cps.toList.length := len_tl z
      refine ⟨_, rfl, _, rfl, hzl, _, _, rfl, rfl, _, rfl, ?_⟩
      refine ite2 (fun h1 => ?_) (fun h1 => ?_)
      · have h1' : (1 : Int) ≤ (z.length : Int) := of_decide_eq_true h1
        refine ⟨_, _, rfl, rfl, _, rfl, ?_⟩
        refine ite2 (fun h2 => ?_) (fun h2 => ?_)
        · have e : wordB (.str z) = false := by
            have hn : ¬ z.cps.toList.length ≤ 12 := by
              intro hc
              have : decide ((z.length : Int) ≤ 12) = true := decide_eq_true (by omega)
              rw [this] at h2; exact absurd h2 (by decide)
            show wordL z.cps.toList = false
            cases hz : z.cps.toList with
            | nil => rfl
            | cons c r => rw [hz] at hn; show (decide _ && _) = false; rw [decide_eq_false hn]; rfl
          have := k H (Same.refl H)
          rw [e] at this
          exact this
        · have h12 : z.cps.toList.length ≤ 12 := by
            have : decide ((z.length : Int) ≤ 12) = true := by
              cases hd : decide ((z.length : Int) ≤ 12) with
              | true => rfl
              | false => rw [hd] at h2; exact absurd rfl h2
            have := of_decide_eq_true this
            omega
          obtain ⟨c, r, ez⟩ : ∃ c r, z.cps.toList = c :: r := by
            cases hz : z.cps.toList with
            | nil => rw [hz] at elen; simp at elen; omega
            | cons c r => exact ⟨c, r, rfl⟩
          have ew : wordB (.str z) = (decide (c ∈ LE) && z.cps.toList.all fun x => decide (x ∈ AL)) := by
            show wordL z.cps.toList = _
            rw [ez]
            show (decide _ && _) = _
            rw [ez] at h12
            rw [decide_eq_true h12]; rfl
          refine ⟨_, rfl, z, _, c, rfl, rfl, hzl, ?_, c, zLE, rfl, rfl, decide (c ∈ LE), rfl, ?_⟩
          · rw [ez]; exact atI_nat (j := 0) rfl
          refine ite2 (fun hc => ?_) (fun hc => ?_)
          · refine ⟨_, rfl, z, rfl, fun D hD => ?_⟩
            refine lc_it (walk_str (z := z)) (fun i H' => Same H H' ∧ H' D = some (.lst ((((z.cps.toList.take i).map fun x => decide (x ∈ AL))).map V.bl))) ?_ ?_ ?_ ?_
            · exact ⟨same_upd hD, upd_same⟩
            · exact fun _ _ _ _ => trivial
            · rintro i x H1 H2 hi ⟨sm, hD1⟩ ⟨rfl, c', hc', rfl⟩
              have hi' : z.cps.toList[i]? = some c' := by simpa using hc'
              refine ⟨rfl, _, rfl, _, _, rfl, rfl, by decide +kernel, c', zLE ++ zDG, rfl, rfl, _, hD1, ?_, ?_, ?_⟩
              · rw [List.length_map, List.length_map, List.length_take]; exact small1000 (by omega)
              · exact fun b o e => by rw [upd_ne (ne_of_none e hD)]; exact sm b o e
              · rw [upd_same, take_snoc hi']
                simp [AL_eq]
            · rintro H1 ⟨sm, hD1⟩
              refine ⟨D, _, rfl, SqL.of hD1, ?_⟩
              have e : ((z.cps.toList.take z.cps.size).map fun x => decide (x ∈ AL)).all id = wordB (.str z) := by
                have hs : z.cps.size = z.cps.toList.length := by simp
                rw [hs, List.take_length, all_signs (K := K), ew, hc]; rfl
              rw [e]
              exact k H1 sm
          · have e : wordB (.str z) = decide (c ∈ LE) := by
              rw [ew, Bool.eq_false_iff.mpr hc]; rfl
            have := k H (Same.refl H)
            rw [e] at this
            have e2 := Bool.eq_false_iff.mpr hc
            rw [e2] at this
            exact this
      · have e : wordB (.str z) = false := by
          have hn : z.cps.toList = [] := by
            cases hz : z.cps.toList with
            | nil => rfl
            | cons c r => exact absurd (decide_eq_true (by rw [elen, hz]; simp; omega)) h1
          show wordL z.cps.toList = false
          rw [hn]; rfl
        have := k H (Same.refl H)
        rw [e] at this
        exact ⟨_, rfl, this⟩
    | _ => exact k H (Same.refl H)
end
end K1
set_option Elab.async false
set_option linter.all false
set_option maxRecDepth 100000
set_option maxHeartbeats 2000000
/-! a lambda handed to a def that calls it in a try: what is raised is told of the very slots -/
namespace K1
open PySem PySem.Spec PyProof.Rows L2 LamX
/-- a def whose code object is known -/
structure FunC (K : PySem.W.Frag) (x qual : Str) (st : Stmt) (f : Addr) (fd : FuncData) (c : Addr) : Prop where
  ex : ∃ (oc : Value) (od : Option Addr) (kV doc pm : Value) (an : Option Addr) (ct : Value) (osl : Array (Option Value)),
    fd = PySem.W.fnOf x qual (defArgs st) (defBody st) (defScope st) .none kV doc pm an (.ref c) ct ∧ K.lookup f = some ⟨oc, od, .func fd, osl⟩ ∧ PySem.W.codeIn K (.ref c) qual = true
  kp : PySem.W.keepIn K (.ref f) = true
theorem FunC.toFun {K : PySem.W.Frag} {x qual : Str} {st : Stmt} {f c : Addr} {fd : FuncData} (F : FunC K x qual st f fd c) : L2.Fun K x qual st f fd :=
  let ⟨oc, od, kV, doc, pm, an, ct, osl, e, l, cc⟩ := F.ex
  ⟨⟨oc, od, kV, doc, pm, an, _, ct, osl, e, l, cc⟩, F.kp⟩
section
variable {P : Program} {w : World} {K : PySem.W.Frag} {mg : Str → Option Value} {base : Heap}
theorem FunC.ok {x qual : Str} {st : Stmt} {f c : Addr} {fd : FuncData} {N ps : List Str} {k : Nat} {sp : Sp} (F : FunC K x qual st f fd c) (S : FnScope N ps (defScope st)) (len : ∀ vs H Q E, sp vs H Q E → vs.length = ps.length)
    (body : ∀ (A : Around) (outer : List Env) (s : Shared) (H : Hp) (vs : List V) (Q : VK) (E : XK), Room k (A.deeper (envOfC qual (defScope st) s.heap.objs.size f (.ref c))) → sp vs H Q E →
      ∃ t, PSs (cxOf L2.CX0 P w K mg base N qual (defScope st) f (.ref c) A outer s H E).nox (defBody st) t ∧ t { nx := fun _ H' => Q .non H', rt := Q } (L2.start N vs) H) : FnOk P w K mg base L2.CX0 (k + 1) f fd ps sp := by
  obtain ⟨oc, od, kV, doc, pm, an, ct, osl, rfl, l, cc⟩ := F.ex
  exact fn_of l cc S len fun A outer s H vs Q E hr h => (body A outer s H vs Q E hr h).imp fun t ht => ⟨ht.1.nox, ht.2⟩
end
end K1
namespace LamX
open PySem L2 K1
/-! what is kept when a lambda is made -/
theorem ExtN.tup {H H' : Hp} (e : ExtN H H') {a : Addr} {xs : List V} (h : H a = some (.tup xs)) : H' a = some (.tup xs) := e _ _ h fun ps => by intro z; cases z
theorem ExtN.lst {H H' : Hp} (e : ExtN H H') {a : Addr} {xs : List V} (h : H a = some (.lst xs)) : H' a = some (.lst xs) := e _ _ h fun ps => by intro z; cases z
theorem ExtN.ins {H H' : Hp} (e : ExtN H H') {a C dx : Addr} {fs : List (Str × V)} (h : H a = some (.ins C dx fs)) : H' a = some (.ins C dx fs) := e _ _ h fun ps => by intro z; cases z
theorem ExtN.dk {H H' : Hp} (e : ExtN H H') {a : Addr} {kv : List (Key × V)} (h : H a = some (.dK kv)) : H' a = some (.dK kv) := e _ _ h fun ps => by intro z; cases z
theorem ExtN.seqT {K : PySem.W.Frag} {H H' : Hp} {a : Addr} {xs : List V} (e : ExtN H H') (h : SqT K H a xs) : SqT K H' a xs := by
  rcases h with (h | ⟨o, h⟩) | h
  · exact .inl (.inl (e.tup h))
  · exact .inl (.inr ⟨o, e _ _ h fun ps => by intro z; cases z⟩)
  · exact .inr h
theorem ExtN.seqL {K : PySem.W.Frag} {H H' : Hp} {a : Addr} {xs : List V} (e : ExtN H H') (h : SqL K H a xs) : SqL K H' a xs := by
  rcases h with (h | ⟨o, h⟩) | h
  · exact .inl (.inl (e.lst h))
  · exact .inl (.inr ⟨o, e _ _ h fun ps => by intro z; cases z⟩)
  · exact .inr h
theorem ExtN.pen {H H' : Hp} (e : ExtN H H') {d c : Addr} {n : Nat} (h : PenAt H d c n) : PenAt H' d c n := by
  obtain ⟨ns, a, l, h1, h2, h3⟩ := h
  exact ⟨ns, a, l, e.dk h1, e.lst h2, h3⟩
end LamX
namespace K1
open PySem PySem.Spec PyProof.Rows L2 LamX
/-- all but d and the tables is kept -/
def KeptN (d : Addr) (H H' : Hp) : Prop := ∀ b o, H b = some o → b ≠ d → (∀ ps, o ≠ .tbl ps) → H' b = some o
theorem KeptN.refl (d : Addr) (H : Hp) : KeptN d H H := fun _ _ e _ _ => e
theorem KeptN.trans {d : Addr} {H H1 H2 : Hp} (a : KeptN d H H1) (b : KeptN d H1 H2) : KeptN d H H2 := fun c o e n m => b c o (a c o e n m) n m
theorem KeptN.seqL {K : PySem.W.Frag} {d : Addr} {H H' : Hp} {a : Addr} {xs : List V} (e : KeptN d H H') (n : a ≠ d) (h : SqL K H a xs) : SqL K H' a xs := by
  rcases h with (h | ⟨o, h⟩) | h
  · exact .inl (.inl (e _ _ h n fun ps => by intro z; cases z))
  · exact .inl (.inr ⟨o, e _ _ h n fun ps => by intro z; cases z⟩)
  · exact .inr h
theorem KeptN.seqT {K : PySem.W.Frag} {d : Addr} {H H' : Hp} {a : Addr} {xs : List V} (e : KeptN d H H') (n : a ≠ d) (h : SqT K H a xs) : SqT K H' a xs := by
  rcases h with (h | ⟨o, h⟩) | h
  · exact .inl (.inl (e _ _ h n fun ps => by intro z; cases z))
  · exact .inl (.inr ⟨o, e _ _ h n fun ps => by intro z; cases z⟩)
  · exact .inr h
theorem KeptN.upd {d D : Addr} {H0 H : Hp} {o : HO} (k : KeptN d H0 H) (h : H0 D = none) : KeptN d H0 (upd H D o) := fun b u e nb m => by
  rw [upd_ne (ne_of_none e h)]; exact k b u e nb m
theorem KeptN.tup {d : Addr} {H H' : Hp} {a : Addr} {xs : List V} (e : KeptN d H H') (n : a ≠ d) (h : H a = some (.tup xs)) : H' a = some (.tup xs) := e _ _ h n fun ps => by intro z; cases z
theorem KeptN.lst {d : Addr} {H H' : Hp} {a : Addr} {xs : List V} (e : KeptN d H H') (n : a ≠ d) (h : H a = some (.lst xs)) : H' a = some (.lst xs) := e _ _ h n fun ps => by intro z; cases z
theorem KeptN.ins {d : Addr} {H H' : Hp} {a C dx : Addr} {fs : List (Str × V)} (e : KeptN d H H') (n : a ≠ d) (h : H a = some (.ins C dx fs)) : H' a = some (.ins C dx fs) := e _ _ h n fun ps => by intro z; cases z
theorem Kept.n {d : Addr} {H H' : Hp} (k : Kept d H H') : KeptN d H H' := fun b o e n _ => k b o e n
end K1
namespace LamX
open PySem L2 K1
theorem ExtN.n {d : Addr} {H H' : Hp} (k : ExtN H H') : KeptN d H H' := fun b o e _ m => k b o e m
theorem Tabs.kept {T : List (Addr × Str)} {d : Addr} {kv : List (Key × V)} {H H' : Hp} (t : Tabs T H) (hd : H d = some (.dK kv)) (k : Kept d H H') : Tabs T H' := fun p hp => by
  obtain ⟨ps, h1, h2, h3⟩ := t p hp
  refine ⟨ps, k _ _ h1 (ne_of h1 hd (by intro z; cases z)), h2, fun pos cv hc => ?_⟩
  obtain ⟨c, e1, e2⟩ := h3 pos cv hc
  exact ⟨c, e1, k _ _ e2 (ne_of e2 hd (by unfold CodeO; intro z; cases z))⟩
theorem Tabs.same {T : List (Addr × Str)} {H H' : Hp} (t : Tabs T H) (s : L2.Same H H') : Tabs T H' := t.ext s
theorem Tabs.updL {T : List (Addr × Str)} {H : Hp} {L : Addr} {xs ys : List V} (t : Tabs T H) (h : H L = some (.lst xs)) : Tabs T (upd H L (.lst ys)) := fun p hp => by
  obtain ⟨ps, h1, h2, h3⟩ := t p hp
  refine ⟨ps, by rw [upd_ne (ne_of h1 h (by intro z; cases z))]; exact h1, h2, fun pos cv hc => ?_⟩
  obtain ⟨c, e1, e2⟩ := h3 pos cv hc
  exact ⟨c, e1, by rw [upd_ne (ne_of e2 h (by unfold CodeO; intro z; cases z))]; exact e2⟩
theorem Tabs.pen {T : List (Addr × Str)} {d c : Addr} {n : Nat} {H H' : Hp} (t : Tabs T H) (p : PenAt H d c n) (k : Kept d H H') : Tabs T H' := by
  obtain ⟨ns, x, l, hd, _⟩ := p
  exact t.kept hd k
end LamX
namespace K1
open PySem PySem.Spec PyProof.Rows L2 LamX
section
variable {X : Cx} {pins : List (Addr × Obj)} {σ : L2.St} {H : Hp} {s : Shared}
/-- the call of the handed lambda; what it raises is taken at the slots as they are -/
theorem pe_actS {GX : CXT} {GE : XK} {GN : List Str} {gq : Str} {gs : Scope} {g f c' : Addr} {gcd pm ctv : Value} {params : Arguments} {body : Expr} {scope : Scope} {k i : Nat} {a : Str} {pn : List (Addr × Obj)} {xe : Value → Shared → Prop} {W : WX} {tb : XK → TE} {p1 p2 : Pos}
    (I : Inv X pins σ H s) (L : LamS X.env.scope scope) (hf : s.heap.get? f = some (PySem.W.kla_obj "<lambda>" (X.env.qual ++ "<lambda>") params body scope (cloFrom X.env.cells scope.names []) pm c' ctv)) (hfn : H f = none) (hfr : f ∉ frs X.stack)
    (bind0 : bindArgs (PySem.W.kla_fn "<lambda>" (X.env.qual ++ "<lambda>") params body scope (cloFrom X.env.cells scope.names []) pm (.ref c') ctv) ⟨[], []⟩ = pure [])
    (tk : Takes ((cxOf GX X.prog X.w X.K X.mg X.base GN gq gs g gcd X.A X.stack s H GE).tr pn xe) W) (hr : Room (k + 1) (X.A.deeper (envOfC gq gs s.heap.objs.size g gcd)))
    (inner : ∀ (A : Around) (outer : List Env) (s2 : Shared) (H2 : Hp) (E : XK), Room k (A.deeper (lamEnv X scope s2.heap.objs.size f c')) → PE (lamCx X A outer s2 H2 E scope f c') body (tb E))
    (hN : GN[i]? = some a) (hv : Vis gs a) (hd : (a == ("__debug__" : Str)) = false := by decide) (hcd : (a == ("__classdict__" : Str)) = false := by decide) :
    PE ((cxOf GX X.prog X.w X.K X.mg X.base GN gq gs g gcd X.A X.stack s H GE).tr pn xe) (.Call (.Name a p1) [] [] p2)
      (fun τ G Q => τ[i]? = some (some (.ref f)) ∧ G c' = some (CodeO c' (X.env.qual ++ "<lambda>")) ∧ tb (fun cls dd G' => W cls dd τ G') σ G Q) := by
  constructor
  intro pz sz τ G Q J ⟨at_, co, go⟩
  refine wpAny_Call_Name_kw (thn ((pe_var (pos := p1) (i := i) hN hv hd hcd).run pz sz τ G (fun v G1 => v = .ref f ∧ G1 = G) J ⟨.ref f, at_, rfl, rfl⟩) ?_)
  rintro u s1 ⟨v, G1, J1, rel, rfl, rfl⟩
  cases (show u = Value.ref f from rel)
  have held : s1.heap.get? f = some (PySem.W.kla_obj "<lambda>" (X.env.qual ++ "<lambda>") params body scope (cloFrom X.env.cells scope.names []) pm c' ctv) :=
    J1.base.keep f _ hf hfn hfr fun z => absurd (show f ∈ ([] : List Addr) from z) (by simp)
  refine PySem.W.callWith_F0 ⟨_, _, _, _, held⟩ ?_
  have base : Un (frs X.stack) [] H G1 s.heap s1.heap := J1.base
  obtain ⟨⟨oc, vs, t, k1, k2, k3⟩, -, -⟩ := J1.hok c' _ co
  have ran : codeAny (model X.prog X.w) (X.A.deeper (envOfC gq gs s.heap.objs.size g gcd)) (.call (.ref f) ⟨[], []⟩)
      (CR (L2.CX X.prog X.w) (envOfC gq gs s.heap.objs.size g gcd :: X.stack) X.prog X.w G1 s1 Q (fun cls dd G' => W cls dd τ G')) s1 := by
    refine PySem.W.kla_callFunE hr.depth held rfl L.co L.gen rfl ⟨c', oc, vs, t, rfl, k1, k2, k3⟩ ?_
    rw [bind0]
    refine wpAny_pure (wpAny_newFunctionEnv (fun y hy => (L.own y hy).2) (fun y hy => absurd hy (by simp)) (fun h₁ ns bt => ?_) L.kind)
    have up : ∀ b o, s1.heap.get? b = some o → h₁.get? b = some o := fun b o e =>
      bt.extBut b o (Nat.ne_of_lt (Heap.lt_size e)) (Heap.get?_push_of_some _ e)
    refine ⟨J1.nolimit.fresh _ bt, PySem.W.kla_codeExpr ?_⟩
    have start : Inv (lamCx X (X.A.deeper (envOfC gq gs s.heap.objs.size g gcd)) (envOfC gq gs s.heap.objs.size g gcd :: X.stack) s1 G1 (fun cls dd G' => W cls dd τ G') scope f c') [] σ G1
        { s1 with heap := h₁, toks := s1.toks + ([] : List (Str × Value)).length } := lam_start2 I L J1.env0 hr.hd base ns up
    refine wpAny_mono ((inner _ _ s1 G1 _ (hr.deeper _)).run [] _ _ G1 Q start go) ?_ fun e s' q => q
    rintro v s' ⟨w', G2, J2, rv, q⟩
    exact ⟨w', G2, J2.os, J2.bare, J2.base, J2.hok, rv, q⟩
  refine wpAny_call (codeAny_mono ran fun r s' q => ?_)
  match r, q with
  | .error e, q => exact passAt tk τ pz G1 s1 e s' J1 q
  | .ok (.ret u), q => exact J1.after q
end
/-- what the def g, which calls what it got, makes of the lambda's reading -/
def Gives (X : Cx) (GN : List Str) (x : Str) (gs : Scope) (g : Addr) (gcd : Value) (gb : List Stmt) (a q : Str) (TT : (XK → Hp → VK → Prop) → Hp → VK → Prop) : Prop :=
  ∀ (f c' : Addr) (s : Shared) (H : Hp) (Q : VK) (tl : XK → Hp → VK → Prop),
    (∀ (W : WX) (pn : List (Addr × Obj)) (xe : Value → Shared → Prop) (p1 p2 : Pos), Takes ((cxOf L2.CX0 X.prog X.w X.K X.mg X.base GN x gs g gcd X.A X.stack s H L2.E0).tr pn xe) W →
      PE ((cxOf L2.CX0 X.prog X.w X.K X.mg X.base GN x gs g gcd X.A X.stack s H L2.E0).tr pn xe) (.Call (.Name a p1) [] [] p2) (fun τ G Q => τ[0]? = some (some (.ref f)) ∧ G c' = some (CodeO c' q) ∧ tl (fun cls dd G' => W cls dd τ G') G Q)) →
    H c' = some (CodeO c' q) → TT tl H Q → ∃ t, PSs (cxOf L2.CX0 X.prog X.w X.K X.mg X.base GN x gs g gcd X.A X.stack s H L2.E0).nox gb t ∧ t { nx := fun _ G => Q .non G, rt := Q } (L2.start GN [.ref f]) H
section
variable {X : Cx}
/-- g(lambda: body) -/
theorem pe_lamS {T : List (Addr × Str)} {TT : (XK → Hp → VK → Prop) → Hp → VK → Prop} {x a : Str} {g c P : Addr} {k : Nat} {st : Stmt} {fd : FuncData} {GN : List Str} {params : Arguments} {body : Expr} {scope : Scope} {t : XK → TE} {p lp pos : Pos}
    (D : Df X.K X.mg x st [a] g fd) (S : FnScope GN [a] (defScope st)) (at0 : GN[0]? = some a) (va : Vis (defScope st) a) (gl : Gl X x)
    (gives : ∀ gcd, Gives X GN x (defScope st) g gcd (defBody st) a (X.env.qual ++ "<lambda>") TT) (B : TabB X.base X.mg c P) (code : X.env.code = .ref c) (mem : (P, X.env.qual ++ "<lambda>") ∈ T) (uni : ∀ p ∈ T, p.1 = P → p.2 = X.env.qual ++ "<lambda>")
    (hr : Room (k + 2) X.A) (L : LamS X.env.scope scope) (inner : ∀ (A : Around) (outer : List Env) (s2 : Shared) (H2 : Hp) (E : XK) (f c' : Addr), Room k (A.deeper (lamEnv X scope s2.heap.objs.size f c')) → PE (lamCx X A outer s2 H2 E scope f c') body (t E))
    (d0 : defaultsOf params X.env = ([], []) := by rfl) (bind0 : ∀ (q : Str) (cl : List (Str × Addr)) (pm cv ctv : Value), bindArgs (PySem.W.kla_fn "<lambda>" q params body scope cl pm cv ctv) ⟨[], []⟩ = pure [] := by intros; rfl)
    (hdb : (x == ("__debug__" : Str)) = false := by decide) (hd : (a == ("__debug__" : Str)) = false := by decide) (hcd : (a == ("__classdict__" : Str)) = false := by decide) :
    PE X (.Call (.Name x p) [.Lambda params body scope lp] [] pos) (tLam T TT t) := by
  obtain ⟨oc, od, kV, doc, pm, an, gcd, ct, osl, rfl, lk, cg⟩ := D.F.ex
  constructor
  intro pins s σ H Q I ⟨hT, h⟩
  refine wpAny_Call_Name_kw (ld_glob I gl D.g ?_ hdb)
  refine PySem.W.callWith_K (h₀ := X.base) I.ok.mod.kin D.F.kp ?_ (by rfl) (by rfl)
  show wpAny _ _ (spliced ((false, eval (.Lambda params body scope lp) X.env) :: backTo pos (starEach [] X.env))) _ _ s
  refine Calls.spliced_cons (lam_make2 I B code mem uni hT d0 (L.has I.ok) ?_)
  intro f c' pm' ctv H1 s' I1 eN T1 hf hfn hfr hco
  refine Calls.spliced_nil ⟨I1.kIn, wpAny_call (codeAny_mono ?_ fun r s2 (q : CR L2.CX0 X.stack X.prog X.w H1 s' Q L2.E0 r s2) => ?_)⟩
  · refine run_ofS (N := GN) (ps := [a]) (us := [.ref f]) (vs := [.ref f]) lk cg S hr I1.env0 (D.b s' [.ref f] I1.kIn rfl) (.cons rfl .nil) rfl fun hr' => ?_
    obtain ⟨t', ht', hq'⟩ := gives gcd f c' s' H1 Q (fun E G Q' => t E σ G Q')
      (fun W pn xe p1 p2 tk => pe_actS (i := 0) I1 L hf hfn hfr (bind0 _ _ _ _ _) tk hr' (fun A outer s2 H2 E hr2 => inner A outer s2 H2 E f c' hr2) at0 va hd hcd) hco (h H1 eN T1)
    exact ⟨t', ht'.nox, hq'⟩
  · match r, q with
    | .ok (.ret u), q => exact I1.after q
end
/-- try: a() / except C as e: .. / .. ; return None -/
def TTf (K : PySem.W.Frag) (i : Nat) (l : List (Value × (Addr → Value → Option Addr → TS))) : (XK → Hp → VK → Prop) → Hp → VK → Prop := fun tl H Q =>
  ∀ f : Addr, tl (fun cls dd G => wAsAll K i (fun _ _ _ _ => False) { nx := fun _ G' => Q .non G', rt := Q } l cls dd [some (.ref f), none] G) H fun _ G => Q .non G
theorem fault_gives {X : Cx} {a n x q : Str} {gs : Scope} {g : Addr} {gcd : Value} {h0 : ExceptHandler} {hds : List ExceptHandler} {l : List (Value × (Addr → Value → Option Addr → TS))} {j : Nat} {p1 p2 p3 p4 p5 p6 : Pos} (nd : [a, n].Nodup) (hln : gs.names.lookup n = some .local)
    (hh : ∀ (s : Shared) (H : Hp), AsOk (cxOf L2.CX0 X.prog X.w X.K X.mg X.base [a, n] x gs g gcd X.A X.stack s H L2.E0).nox n (h0 :: hds) l) :
    Gives X [a, n] x gs g gcd [.Try [.Expr (.Call (.Name a p1) [] [] p2) p3] (h0 :: hds) [] [] p4, .Return (some (.Constant .none j p5)) p6] a q (TTf X.K 1 l) := by
  intro f c' s H Q tl act hc h
  refine ⟨_, pss_cons (ps_try_asAll (X := (cxOf L2.CX0 X.prog X.w X.K X.mg X.base [a, n] x gs g gcd X.A X.stack s H L2.E0).nox) (i := 1)
    (tb := fun W D τ G => τ[0]? = some (some (.ref f)) ∧ G c' = some (CodeO c' q) ∧ tl (fun cls dd G' => W cls dd τ G') G fun _ G' => D.nx τ G') rfl rfl nd rfl hln LamX.takes0 (fun W pn xe tk _ => ?_) (hh s H)) (pss_one (ps_ret pe_non)), ?_⟩
  · constructor
    intro pins s' τ G D I go
    exact (pss_one (ps_expr (act W pn xe p1 p2 tk))).run pins s' τ G D I go
  · exact ⟨rfl, hc, h f⟩
end K1
set_option Elab.async false
set_option linter.all false
set_option maxRecDepth 100000
/-! a clause's suite that tells a tag and the error's fields -/
namespace K1
open PySem L2
def Has (gs : List (Str × V)) : List Str → List V → Prop
  | [], [] => True
  | f :: r, v :: vs => gs.lookup f = some v ∧ Has gs r vs
  | _, _ => False
def tFs (i : Nat) (C a : Addr) (cl : Value) (dd : Option Addr) : List Str → TA
  | [] => tNil
  | f :: r => tCons (tXf a cl dd C f (tVar i)) (tFs i C a cl dd r)
/-- return (tag, e.f, ..) -/
def suiteT (i : Nat) (C : Addr) (tag : Str) (fs : List Str) : Addr → Value → Option Addr → TS := fun a cl dd => tRet (tTup (tCons (tC (.str tag)) (tFs i C a cl dd fs)))
theorem tFs_read {i : Nat} {C a d : Addr} {gs : List (Str × V)} {σ : St} {G : Hp} (hσ : σ[i]? = some (some (.ref a))) (hd : G d = some (.xd gs)) : ∀ (fs : List Str) (vs : List V), Has gs fs vs → ∀ {Q : List V → Hp → Prop}, Q vs G → tFs i C a (.ref C) (some d) fs σ G Q
  | [], [], _, _, k => k
  | [], _ :: _, h, _, _ => h.elim
  | _ :: _, [], h, _, _ => h.elim
  | f :: r, v :: vs, h, Q, k => by
    obtain ⟨h1, h2⟩ := h
    exact ⟨_, hσ, rfl, rfl, d, gs, v, rfl, hd, h1, tFs_read hσ hd r vs h2 k⟩
theorem suiteT_read {i : Nat} {C a d : Addr} {tag : Str} {fs : List Str} {vs : List V} {gs : List (Str × V)} {D : Ends} {σ : St} {G : Hp} (hσ : σ[i]? = some (some (.ref a))) (hd : G d = some (.xd gs)) (h : Has gs fs vs) (hl : vs.length ≤ 10)
    (k : ∀ p, G p = none → D.rt (.ref p) (upd G p (.tup (.str tag :: vs)))) : suiteT i C tag fs a (.ref C) (some d) D σ G :=
  tFs_read hσ hd fs vs h ⟨by simp; exact Nat.le_of_lt (small1000 (by omega)), k⟩
end K1
set_option Elab.async false
set_option linter.all false
set_option maxRecDepth 100000
namespace L2
open PySem PySem.Spec PyProof.Rows
variable {X : Cx}
/-- x in t, of data, where t is a tuple -/
def rInT (K : PySem.W.Frag) (neg : Bool) : R2 := fun x y H Q => ∃ d ds, Dp K H x d ∧ Dp K H y (.tuple ds) ∧ SeqAt.shaped d = true ∧ SeqAt.shaped (.tuple ds) = true ∧ Q (.bl (if neg then !(ds.any fun z => PyData.eqv z d) else ds.any fun z => PyData.eqv z d)) H
theorem canLay_tup {ds : List PyData} (h : SeqAt.shaped (.tuple ds) = true) : PyData.canLayAll0 ds = true := by
  unfold SeqAt.shaped at h
  rw [PyData.canLay0] at h
  exact (Bool.and_eq_true_iff.mp h).1
theorem op_inT (hu : X.A.units + 65 < cLine) : OpR X (compareOp .In) (rInT X.K false) := by
  intro pins s σ H x y v u Q I rx ry h
  obtain ⟨d, ds, hd, he, sd, se, q⟩ := h
  obtain ⟨as, r1⟩ := Dp.reads I d x v hd rx
  obtain ⟨bs, r2⟩ := Dp.reads I (.tuple ds) y u he ry
  exact SeqAt.in_tuple_reads r2 r1 (canLay_tup se) (SeqAt.canLay_of_shaped sd) (room_in_shaped sd hu) ⟨.bl _, H, I, rfl, q⟩
theorem op_notInT (hu : X.A.units + 65 < cLine) : OpR X (compareOp .NotIn) (rInT X.K true) := by
  intro pins s σ H x y v u Q I rx ry h
  obtain ⟨d, ds, hd, he, sd, se, q⟩ := h
  obtain ⟨as, r1⟩ := Dp.reads I d x v hd rx
  obtain ⟨bs, r2⟩ := Dp.reads I (.tuple ds) y u he ry
  exact SeqAt.notIn_tuple_reads r2 r1 (canLay_tup se) (SeqAt.canLay_of_shaped sd) (room_in_shaped sd hu) ⟨.bl _, H, I, rfl, q⟩
end L2
namespace K1
open PySem L2
section
variable {P : Program} {w : World} {K : PySem.W.Frag} {mg : Str → Option Value} {base : Heap}
abbrev sBadState : Stmt := inClass (top 8) 0
theorem scBadState : FnScope ["self", "state"] ["self", "state"] (defScope sBadState) := ⟨rfl, rfl, rfl, by decide +kernel, rfl, by decide +kernel, by decide +kernel⟩
abbrev OBadState (K : PySem.W.Frag) (mg : Str → Option Value) (C fI : Addr) (fd : FuncData) : Prop := Oer K mg "BadState" ["state"] C fI fd "BadState.__init__" sBadState
theorem ini_BadState {C fI : Addr} {fd : FuncData} (O : OBadState K mg C fI fd) : FnOk P w K mg base CX0 1 fI fd ["self", "state"] (spIni C ["state"]) := by
  refine O.F.ok scBadState (fun vs H Q E h => ?_) (fun cdv A outer s H vs Q E hr h => ?_)
  · obtain ⟨a, ys, rfl, e, _⟩ := h
    show ys.length + 1 = _
    rw [e]; rfl
  · obtain ⟨a, ys, rfl, e, ha, k⟩ := h
    obtain ⟨y0, rfl⟩ : ∃ y0, ys = [y0] := by
      match ys, e with
      | [y0], _ => exact ⟨y0, rfl⟩
    refine ⟨_, pss_one (ps_ost (f := "state") (pv 0) (pv 1)), ?_⟩
    refine ⟨_, rfl, _, rfl, a, C, rfl, O.T, O.no _ (List.mem_cons_self ..), .inl ⟨ha, fun dx hdx ne => ?_⟩⟩
    refine k dx hdx ne _ (fun b o eb nb => ?_) ?_ ?_
    · rw [upd_ne nb, upd_ne (ne_of_none eb hdx)]; exact eb
    · exact upd_same
    · rw [upd_ne ne]; exact upd_same
abbrev sNoDeed : Stmt := inClass (top 9) 0
theorem scNoDeed : FnScope ["self", "index"] ["self", "index"] (defScope sNoDeed) := ⟨rfl, rfl, rfl, by decide +kernel, rfl, by decide +kernel, by decide +kernel⟩
abbrev ONoDeed (K : PySem.W.Frag) (mg : Str → Option Value) (C fI : Addr) (fd : FuncData) : Prop := Oer K mg "NoDeed" ["index"] C fI fd "NoDeed.__init__" sNoDeed
theorem ini_NoDeed {C fI : Addr} {fd : FuncData} (O : ONoDeed K mg C fI fd) : FnOk P w K mg base CX0 1 fI fd ["self", "index"] (spIni C ["index"]) := by
  refine O.F.ok scNoDeed (fun vs H Q E h => ?_) (fun cdv A outer s H vs Q E hr h => ?_)
  · obtain ⟨a, ys, rfl, e, _⟩ := h
    show ys.length + 1 = _
    rw [e]; rfl
  · obtain ⟨a, ys, rfl, e, ha, k⟩ := h
    obtain ⟨y0, rfl⟩ : ∃ y0, ys = [y0] := by
      match ys, e with
      | [y0], _ => exact ⟨y0, rfl⟩
    refine ⟨_, pss_one (ps_ost (f := "index") (pv 0) (pv 1)), ?_⟩
    refine ⟨_, rfl, _, rfl, a, C, rfl, O.T, O.no _ (List.mem_cons_self ..), .inl ⟨ha, fun dx hdx ne => ?_⟩⟩
    refine k dx hdx ne _ (fun b o eb nb => ?_) ?_ ?_
    · rw [upd_ne nb, upd_ne (ne_of_none eb hdx)]; exact eb
    · exact upd_same
    · rw [upd_ne ne]; exact upd_same
end
def Rs (C : Addr) (fs : List Str) (vs : List V) (H : Hp) (E : XK) : Prop := ∀ d G, Same H G → H d = none → G d = some (.xd (fs.zip vs).reverse) → E (.ref C) (some d) G
theorem Rs.same {C : Addr} {fs : List Str} {vs : List V} {H H' : Hp} {E : XK} (r : Rs C fs vs H E) (s : Same H H') : Rs C fs vs H' E := fun d G sG hd e => r d G (s.trans sG) (s.free hd) e
end K1
set_option Elab.async false
set_option linter.all false
set_option maxRecDepth 100000
namespace K1
open PySem L2
theorem eqv_strs : ∀ ws ws2 : List Str, PyData.eqvAll (ws.map PyData.str) (ws2.map PyData.str) = decide (ws = ws2)
  | [], [] => by simp [PyData.eqvAll]
  | [], _ :: _ => by simp [PyData.eqvAll]
  | _ :: _, [] => by simp [PyData.eqvAll]
  | a :: r, b :: q => by
    simp only [List.map_cons, PyData.eqvAll, eqv_strs r q, PyData.eqv]
    by_cases e : a = b
    · subst e; simp
    · simp [e]
theorem eqv_ints : ∀ ws ws2 : List Int, PyData.eqvAll (ws.map PyData.int) (ws2.map PyData.int) = decide (ws = ws2)
  | [], [] => by simp [PyData.eqvAll]
  | [], _ :: _ => by simp [PyData.eqvAll]
  | _ :: _, [] => by simp [PyData.eqvAll]
  | a :: r, b :: q => by
    simp only [List.map_cons, PyData.eqvAll, eqv_ints r q, PyData.eqv]
    by_cases e : a = b
    · subst e; simp
    · simp [e]
def OkS (ws : List Str) : Prop := ∀ z ∈ ws, PyData.strOk z = true
theorem TL_lt : ∀ c ∈ TL', c < 0x110000 := by decide +kernel
theorem ok_chars {z : Str} (h : ∀ c ∈ z.cps.toList, c ∈ TL') : PyData.strOk z = true := by
  unfold PyData.strOk
  rw [Array.all_eq_true']
  intro c hc
  exact decide_eq_true (TL_lt c (h c (by simpa using hc)))
theorem Wd.chars {z : Str} (h : Wd z) : ∀ c ∈ z.cps.toList, c ∈ AL := by
  obtain ⟨c, r, ez, hc, hr, _⟩ := h
  intro x hx
  rw [ez] at hx
  rcases List.mem_cons.mp hx with rfl | hx
  · exact LE_AL hc
  · exact hr x hx
theorem ok_wd {ws : List Str} (h : ∀ z ∈ ws, Wd z) : OkS ws := fun z hz => ok_chars fun c hc => List.mem_append_left _ ((h z hz).chars c hc)
theorem canLay_strs : ∀ ws : List Str, OkS ws → PyData.canLayAll0 (ws.map PyData.str) = true
  | [], _ => rfl
  | n :: r, h => by simp [PyData.canLayAll0, PyData.canLay0, canLay_strs r (fun z hz => h z (List.mem_cons_of_mem _ hz)), h n (List.mem_cons_self ..)]
theorem depth_ints : ∀ ns : List Int, PyData.depthAll (ns.map PyData.int) ≤ 1
  | [] => by decide
  | n :: r => by have := depth_ints r; simp only [List.map_cons, PyData.depthAll, PyData.depth]; omega
theorem depth_strs : ∀ ns : List Str, PyData.depthAll (ns.map PyData.str) ≤ 1
  | [] => by decide
  | n :: r => by have := depth_strs r; simp only [List.map_cons, PyData.depthAll, PyData.depth]; omega
theorem shaped_of {d : PyData} (h : d.canLay0 = true) (e : d.depth ≤ 64) : SeqAt.shaped d = true := by
  unfold SeqAt.shaped
  rw [h]
  simp [e]
theorem shaped_strs {ws : List Str} (h : OkS ws) : SeqAt.shaped (.tuple (ws.map PyData.str)) = true := shaped_of (by rw [PyData.canLay0, canLay_strs _ h]) (by rw [PyData.depth]; have := depth_strs ws; omega)
theorem dp_strs {K : PySem.W.Frag} {H : Hp} : ∀ ws : List Str, DpAll K H (ws.map V.str) (ws.map PyData.str)
  | [] => .nil
  | n :: r => .cons (.str n) (dp_strs r)

/-- None or a number, as data -/
def mD : V → PyData
  | .int i => .int i
  | _ => .none
def mOk (m : V) : Prop := m = .non ∨ ∃ i, m = .int i
theorem mOk.dp {K : PySem.W.Frag} {H : Hp} {m : V} (h : mOk m) : Dp K H m (mD m) := by
  rcases h with rfl | ⟨i, rfl⟩
  · exact .non
  · exact .int i
theorem mOk.sh {m : V} (h : mOk m) : SeqAt.shaped (mD m) = true := by
  rcases h with rfl | ⟨i, rfl⟩
  · exact shaped_of rfl (by decide)
  · exact shaped_of rfl (Nat.zero_le _)
theorem mOk.eqv {m n : V} (h : mOk m) (h' : mOk n) : PyData.eqv (mD m) (mD n) = decide (m = n) := by
  rcases h with rfl | ⟨i, rfl⟩ <;> rcases h' with rfl | ⟨j, rfl⟩ <;> simp [mD, PyData.eqv]
  by_cases e : i = j <;> simp [e]
end K1
set_option Elab.async false
set_option linter.all false
set_option maxRecDepth 100000
/-! where a row leads -/
namespace K1
open PySem L2
def forBody : Stmt → List Stmt
  | .For _ _ b _ _ => b
  | _ => []
theorem room65 {k : Nat} {A : Around} (r : Room k A) : A.units + 65 < cLine := by have := r.un; omega
/-- one step -/
def stp (rs : List (List Int)) (s k : Int) : Int := (rs.getD s.toNat []).getD k.toNat 0
def led (rs : List (List Int)) (ks : List Int) (s : Int) : Int := ks.foldl (stp rs) s
def wayN (rs : List (List Int)) (ks : List Int) (s : Int) (n : Nat) : List Int := (List.range n).map fun j => led rs (ks.take j) s
/-- all states on the way -/
def way (rs : List (List Int)) (ks : List Int) (s : Int) : List Int := wayN rs ks s (ks.length + 1)
/-- the deeds of a row of numbers -/
def nm (ws : List Str) (ks : List Int) : List Str := ks.map fun k => ws.getD k.toNat ""
def Ix (w : Nat) (ks : List Int) : Prop := ∀ k ∈ ks, 0 ≤ k ∧ k < (w : Int)
theorem nm_len (ws : List Str) (ks : List Int) : (nm ws ks).length = ks.length := by simp [nm]
theorem wayN_succ (rs : List (List Int)) (ks : List Int) (s : Int) (n : Nat) : wayN rs ks s (n + 1) = wayN rs ks s n ++ [led rs (ks.take n) s] := by
  simp [wayN, List.range_succ]
theorem wayN_len (rs : List (List Int)) (ks : List Int) (s : Int) (n : Nat) : (wayN rs ks s n).length = n := by simp [wayN]
theorem way_eq (rs : List (List Int)) (ks : List Int) (s : Int) : way rs ks s = wayN rs ks s ks.length ++ [led rs ks s] := by
  rw [way, wayN_succ, List.take_length]
theorem led_snoc (rs : List (List Int)) (ks : List Int) (s k : Int) : led rs (ks ++ [k]) s = stp rs (led rs ks s) k := by simp [led]
theorem at_last {xs : List Int} {y : Int} : atI ((xs ++ [y]).map V.int) (-1) = some (.int y) := by
  rw [List.map_append]; exact atI_last _ _
theorem at_deed {ws : List Str} {k : Int} (h0 : 0 ≤ k) (h1 : k < (ws.length : Int)) : atI (ws.map V.str) k = some (.str (ws.getD k.toNat "")) := by
  have hl : k.toNat < ws.length := by omega
  have e : k = ((k.toNat : Nat) : Int) := by omega
  rw [e]
  refine atI_nat ?_
  rw [Int.toNat_natCast, List.getElem?_map, List.getElem?_eq_getElem hl, List.getD_eq_getElem?_getD, List.getElem?_eq_getElem hl]
  rfl
theorem at_int {r : List Int} {k : Int} (h0 : 0 ≤ k) (h1 : k < (r.length : Int)) : atI (r.map V.int) k = some (.int (r.getD k.toNat 0)) := by
  have hl : k.toNat < r.length := by omega
  have e : k = ((k.toNat : Nat) : Int) := by omega
  rw [e]
  refine atI_nat ?_
  rw [Int.toNat_natCast, List.getElem?_map, List.getElem?_eq_getElem hl, List.getD_eq_getElem?_getD, List.getElem?_eq_getElem hl]
  rfl
theorem at_ref {as : List Addr} {k : Int} (h0 : 0 ≤ k) (h1 : k < (as.length : Int)) : ∃ a, as[k.toNat]? = some a ∧ atI (as.map V.ref) k = some (.ref a) := by
  obtain ⟨m, rfl⟩ : ∃ m : Nat, k = (m : Int) := ⟨k.toNat, by omega⟩
  have hl : m < as.length := by omega
  refine ⟨as[m], by rw [Int.toNat_natCast]; exact List.getElem?_eq_getElem hl, atI_nat ?_⟩
  rw [List.getElem?_map, List.getElem?_eq_getElem hl]
  rfl
theorem getD_get {α : Type} {xs : List α} {n : Nat} (d : α) (h : n < xs.length) : xs[n]? = some (xs.getD n d) := by
  rw [List.getD_eq_getElem?_getD, List.getElem?_eq_getElem h]; rfl
section
variable {ws : List Str} {rs : List (List Int)} {ss : List Str} {st : Int}
theorem Parts.stp (pt : Parts ws rs ss st) {s k : Int} (s0 : 0 ≤ s) (s1 : s < (rs.length : Int)) (k0 : 0 ≤ k) (k1 : k < (ws.length : Int)) :
    ∃ r, rs[s.toNat]? = some r ∧ r.length = ws.length ∧ K1.stp rs s k = r.getD k.toNat 0 ∧ 0 ≤ K1.stp rs s k ∧ K1.stp rs s k < (rs.length : Int) := by
  have hs : s.toNat < rs.length := by omega
  have er := getD_get (xs := rs) [] hs
  obtain ⟨hl, hx⟩ := pt.row _ (List.mem_of_getElem? er)
  have hk : k.toNat < (rs.getD s.toNat []).length := by omega
  have hm := hx _ (List.mem_of_getElem? (getD_get 0 hk))
  exact ⟨_, er, hl, rfl, hm⟩
theorem Parts.led (pt : Parts ws rs ss st) : ∀ {ks : List Int} {s : Int}, Ix ws.length ks → 0 ≤ s → s < (rs.length : Int) → 0 ≤ K1.led rs ks s ∧ K1.led rs ks s < (rs.length : Int)
  | [], s, _, h0, h1 => ⟨h0, h1⟩
  | k :: ks, s, hk, h0, h1 => by
    obtain ⟨k0, k1⟩ := hk k (List.mem_cons_self ..)
    obtain ⟨r, _, _, _, a, b⟩ := pt.stp h0 h1 k0 k1
    exact Parts.led pt (ks := ks) (fun j hj => hk j (List.mem_cons_of_mem _ hj)) a b
end
theorem Ix.take {w : Nat} {ks : List Int} (h : Ix w ks) (n : Nat) : Ix w (ks.take n) := fun k hk => h k (List.mem_of_mem_take hk)
theorem first_at {ws : List Str} (nd : ws.Nodup) {j : Nat} (hj : j < ws.length) : ∀ m, m < j → ws[m]? ≠ some (ws.getD j "") := by
  intro m hm e
  have hm' : m < ws.length := by omega
  rw [List.getElem?_eq_getElem hm', List.getD_eq_getElem?_getD, List.getElem?_eq_getElem hj] at e
  have e2 : ws[m] = ws[j] := by simpa using e
  exact List.pairwise_iff_getElem.mp nd m j hm' hj hm e2
theorem eqv_str (a b : Str) : PyData.eqv (.str a) (.str b) = decide (a = b) := by
  simp [PyData.eqv]
  by_cases e : a = b <;> simp [e]
theorem shaped_str {ws : List Str} (h : OkS ws) {z : Str} (hz : z ∈ ws) : SeqAt.shaped (.str z) = true := shaped_of (by rw [PyData.canLay0]; exact h z hz) (by rw [PyData.depth]; decide)
theorem ix_of {s m : Int} (h0 : 0 ≤ s) (h1 : s < m) : ixB (.int s) m = true := by
  unfold ixB
  simp [h0, h1]
end K1
set_option Elab.async false
set_option linter.all false
set_option maxRecDepth 100000
/-! dicts with tuple keys: items() walked; a display of one pair -/
namespace L2
open PySem PySem.W PySem.Spec PyProof.Rows
/-- the pairs of a locked dict with tuple keys, each a new tuple -/
def Itit (d : Addr) (o : Obj) (kvs : List (List Key × V)) : It :=
  ⟨fun i H => H d = some (.frz o (.dT kvs)) ∧ i < kvs.length, fun i H x H' => ∃ T k v q, kvs[i]? = some (k, v) ∧ H q = some (.tup (k.map kV)) ∧ x = .ref T ∧ H T = none ∧ H' = upd H T (.tup [.ref q, v]), fun i H => H d = some (.frz o (.dT kvs)) ∧ kvs.length ≤ i⟩
section
variable {X : Cx} {pins : List (Addr × Obj)} {σ : St} {H : Hp} {s : Shared} {d : Addr} {o : Obj}
theorem Inv.frzT2 {kvs : List (List Key × V)} (I : Inv X pins σ H s) (h : H d = some (.frz o (.dT kvs))) :
    (d == sysModules) = false ∧ s.heap.get? d = some o ∧ o.ExactDict ∧ ∃ (es : Array DictEntry) (ep : Nat), o.data = .dict es ep ∧ es.size = kvs.length ∧
      ∀ (i : Nat) (k : List Key) (v : V), kvs[i]? = some (k, v) → ∃ (en : DictEntry) (q : Addr), es[i]? = some en ∧ en.key = .ref q ∧ H q = some (.tup (k.map kV)) ∧ RelV v en.val := by
  obtain ⟨hd, z, hs, xs, pr, o', es, ep, ho, hx, hdt, he, _⟩ := I.hok d _ h
  rw [hd] at ho
  cases ho
  refine ⟨hs, hd, hx, es, ep, hdt, ?_, fun i k v e => ?_⟩
  · have l1 : es.size = xs.length := size_of_entries he
    have l2 : kvs.length = xs.length := Paired.length pr
    omega
  · obtain ⟨b, hb, e1, e2, e3⟩ := paired_get pr e
    have q := entry_at he i
    rw [hb] at q
    exact ⟨_, b.2.1, q, rfl, e2, e3⟩
end
section
variable {P : Program} {w : World} {K : PySem.W.Frag} {tg : Expr} {d : Addr} {o : Obj} {es : Array DictEntry} {ep : Nat}
theorem turn_itemsT {kvs : List (List Key × V)} {elts : List Expr} {kk : Nat} {tpos : Pos} (it : Addr) (hod : o.data = .dict es ep) :
    Turn P w K (.Tuple elts kk tpos) (Itit d o kvs) [it] it (fun i h => ∃ ok ov, IsItemIter h it d i kvs.length ep ok ov) where
  mem := by simp
  obj := fun i h st b hb => by
    have e : b = it := by simpa using hb
    subst e
    obtain ⟨ok, ov, e⟩ := st
    exact ⟨_, e, fun v z => nomatch z⟩
  keep := fun i h h' st k => let ⟨ok, ov, e⟩ := st; ⟨ok, ov, k it (by simp) _ e⟩
  item := by
    intro X hP hw hK hc i pins s σ H E I hf st hg
    subst hP hw hK
    obtain ⟨hd, hi⟩ := hg
    obtain ⟨hs, hgd, hx, es', ep', hdt, hsz, ent⟩ := I.frzT2 hd
    obtain ⟨rfl, rfl⟩ := dict_ep hod hdt
    obtain ⟨⟨k, v⟩, hkv⟩ : ∃ p, kvs[i]? = some p := ⟨kvs[i], List.getElem?_eq_getElem hi⟩
    obtain ⟨en, q, hen, hkey, hq, rv⟩ := ent i k v hkv
    obtain ⟨ok, ov, he⟩ := st
    rw [← hsz] at he
    have hlt : it < s.heap.objs.size := Heap.lt_size he
    have hi' : i < es'.size := by omega
    have een : es'[i] = en := by
      have := Array.getElem?_eq_getElem hi'
      rw [hen] at this
      exact (Option.some.inj this).symm
    refine DT.nextI he ⟨o, hgd, hx, hdt⟩ hi' fun h' ho hT hz hk => ?_
    rw [een] at ho hT
    refine ⟨_, rfl, wpAny_letOwnedTupleGo_items (s := { s with heap := h' }) ho fun h'' he' sb => ?_⟩
    have hT2 : h''.get? s.heap.objs.size = some { cls := .type "tuple", data := .seq #[en.key, en.val] } := (sb.2 _ (Nat.ne_of_gt hlt)).trans hT
    have new : ObjOk X.prog X.w (upd H s.heap.objs.size (.tup [.ref q, v])) h'' s.heap.objs.size (.tup [.ref q, v]) :=
      ⟨by show 2 ≤ sizeLine; decide, [en.key, en.val], .cons hkey (.cons rv .nil), ⟨_, hT2, rfl, _, rfl⟩⟩
    have I1 : Inv X pins σ (upd H s.heap.objs.size (.tup [.ref q, v])) { s with heap := h'' } :=
      I.turnedNew (t' := s.toks) (ch := [it]) (fun b ob hb e => (sb.2 b (by simpa using hb)).trans (hk b ob (by simpa using hb) e)) hf (Nat.le_refl _) new
    refine ⟨.ref s.heap.objs.size, _, I1, rfl, ⟨_, k, v, q, hkv, hq, rfl, I.hok.fresh (Nat.le_refl _), rfl⟩, ⟨en.key, en.val, ?_⟩, fun b hb => ?_⟩
    · rw [← hsz]; exact he'
    · have e : b = it := by simpa using hb
      rw [e, upd_ne (Nat.ne_of_lt hlt)]
      exact (hf it (by simp)).1
  done := by
    intro X hP hw hK hc i pins s σ H E I hf st hg
    subst hP hw hK
    obtain ⟨hd, hi⟩ := hg
    obtain ⟨f0, f1, f2, f3, f4, f5⟩ := hf it (by simp)
    obtain ⟨hs, hgd, hx, es', ep', hdt, hsz, ent⟩ := I.frzT2 hd
    obtain ⟨rfl, rfl⟩ := dict_ep hod hdt
    obtain ⟨ok, ov, he⟩ := st
    rw [← hsz] at he
    exact DT.endI (I.ok.hd hc) he ⟨o, hgd, hx, hdt⟩ (by omega) fun h' eb => ⟨rfl, I.turned (t' := s.toks) (fun b ob hb e => eb b ob hb e) f0 f1 f3 f4 f5⟩
  self := fun A i s Q E st h => let ⟨_, _, e⟩ := st; PySem.W.kcp_self e h
theorem walk_itemsT {kvs : List (List Key × V)} : Walk (Itit d o kvs) kvs.length (fun H => H d = some (.frz o (.dT kvs)))
    (fun i H x H' => ∃ T k v q, kvs[i]? = some (k, v) ∧ H q = some (.tup (k.map kV)) ∧ x = .ref T ∧ H T = none ∧ H' = upd H T (.tup [.ref q, v])) :=
  ⟨fun _ _ hi q => ⟨q, hi⟩, fun _ q => ⟨q, Nat.le_refl _⟩, fun _ _ _ _ _ _ y => y⟩
end
/-- for (k, v) in d.items(), d a locked dict with tuple keys -/
def iItemsT (td : TE) : TI := fun σ H R => td σ H fun x H1 => ∃ d o kvs, x = .ref d ∧ H1 d = some (.frz o (.dT kvs)) ∧ R (Itit d o kvs) H1
section
variable {X : Cx} {e : Expr} {td : TE} {apos cpos : Pos}
theorem pi_itemsT {elts : List Expr} {kk : Nat} {tpos : Pos} (he : PE X e td) (hbase : attributeBase e "items" X.env (eval e X.env) = eval e X.env := by rfl) (hline : (apos.endLine == cpos.line) = true := by rfl) :
    PI X (.Tuple elts kk tpos) (.Call (.Attribute e "items" apos) [] [] cpos) (iItemsT td) := by
  refine ⟨fun pins s σ H R I h => ?_⟩
  refine wpAny_Call_method (T := "dict") (id := "dict.items") hbase rfl hline F.plainAttrs_dict F.slot_dict_items F.type_dict_items (thn (he.run pins s σ H _ I h) fun u s1 ⟨x, H1, I1, rx, d, o, kvs, ex, hd, q⟩ => ?_)
  subst ex
  obtain rfl : u = Value.ref d := rx
  obtain ⟨hs, hgd, hx, es, ep, hdt, hsz, ent⟩ := I1.frzT2 hd
  have hm : DT.Raw s1.heap d es ep := ⟨o, hgd, hx, hdt⟩
  refine ⟨hm.typeIs, fun a ea => by cases ea; exact ⟨o, hgd, hx.2.1⟩, ?_⟩
  have I2 : Inv X pins σ H1 { s1 with heap := s1.heap.push { cls := .type "dict_items", data := .fields #[.ref d] } } := I1.kept (t' := s1.toks) fun b ob q => Heap.get?_push_of_some _ q
  have fin : wpAny (model X.prog X.w) X.A (pyIter (.ref s1.heap.objs.size)) (PIE X pins σ (.Tuple elts kk tpos) R) X.xe { s1 with heap := s1.heap.push { cls := .type "dict_items", data := .fields #[.ref d] } } := by
    refine DT.iterI (d := d) ⟨_, Heap.get?_push_size _ rfl, rfl, rfl⟩ (hm.push _) (pi_one (tk := s1.toks) I2 _ (turn_itemsT _ hdt) ⟨.none, .none, ?_⟩ q)
    rw [← hsz]
    exact Heap.get?_push_size _ rfl
  show wpAny _ _ (callWith cpos (.builtin "dict.items") [.ref d] [] []) _ X.xe s1
  exact method_meetsIn F.slot_dict_items F.entry_dict_items rfl (PySem.evalArgs_none ⟨rfl, hm.typeIs, F.args_dict_items_1 _, _, DT.meetsItems (es := es) (ep := ep) hs, hm, fin⟩)
end
/-- {k: v}, k a tuple -/
def tDisp1T (tk tv : TE) : TE := fun σ H Q => ∀ p, H p = none → tPairs [(tk, tv)] σ (upd H p (.dT [])) fun ps H2 => H2 p = some (.dT []) ∧ ∃ (b : Addr) (k : List Key) (y : V), ps = [(.ref b, y)] ∧ H2 b = some (.tup (k.map kV)) ∧ Q (.ref p) (upd H2 p (.dT [(k, y)]))
theorem pe_disp1T {X : Cx} {pos : Pos} {k v : Expr} {tk tv : TE} (hu : X.A.units + 1 < cLine) (hk : PE X k tk) (hv : PE X v tv) : PE X (.Dict [some k] [v] pos) (tDisp1T tk tv) := by
  refine ⟨fun pins s σ H Q I q => ?_⟩
  have hn := I.hok.fresh (Nat.le_refl s.heap.objs.size)
  have I1 := I.laid (a := s.heap.objs.size) (o := .dT []) (h' := s.heap.push { cls := .type "dict", data := .dict #[] }) (t' := s.toks) (fun _ _ q => Heap.get?_push_of_some _ q) (Nat.le_refl _) (dt_empty s.heap I.big)
  have hp := (pps_cons (pos := pos) hk hv pps_nil).run pins _ σ _ (fun ps H2 => H2 s.heap.objs.size = some (.dT []) ∧ ∃ (b : Addr) (k : List Key) (y : V), ps = [(.ref b, y)] ∧ H2 b = some (.tup (k.map kV)) ∧ Q (.ref s.heap.objs.size) (upd H2 s.heap.objs.size (.dT [(k, y)]))) I1 ?_
  · have pt : (evalEachOpt [some k] X.env).zip ((evalEach [v] X.env).map fun v => do let x ← v; standAt pos; pure x) = (pairTrees [some k] [v] X.env pos).map fun p => (some p.1, p.2) := by rfl
    rw [arm_eval_Dict, pt, dictDisplay_pairs _ (by simp [pairTrees]) (by simp [pairTrees])]
    refine wpAny_bind (wpAny_standAt (wpAny_bind (wpAny_subDictH (knd := tupleKind (mixKind X.prog X.w)) (Q := fun d s' => wpAny (model X.prog X.w) X.A (pure (Value.ref d)) _ _ s') (by show X.A.units < cLine; omega) (by simp [pairTrees]) ?_)))
    refine wpAny_mono hp (fun vs s2 h2 => ?_) fun _ _ z => z
    obtain ⟨ps, H2, I2, rel, e, b, kk, y, rfl, hb, q2⟩ := h2
    obtain ⟨z, hd, xs0, r0, dd⟩ := dt_of I2.hok e
    cases r0
    match vs, rel with
    | [(u1, u2)], .cons ⟨ru, rw2⟩ .nil =>
      cases (show u1 = Value.ref b from ru)
      refine ⟨[(kk, b, u2)], ⟨rfl, rfl, key_of I2.hok hb, trivial⟩, dd, fun h' tk' dd' hs => wpAny_pure ⟨.ref s.heap.objs.size, _, ?_, rfl, q2⟩⟩
      obtain ⟨o2, es, ep, ho2, h2a, h2b, h2c, _, h2d⟩ := dd'
      have rel2 : KT H2 (putK [] kk y) (storedH [] kk b u2) := KT.put .nil kk hb rw2
      refine d_write I2 (by rw [e]; exact True.intro) hs ⟨o2, ho2⟩ ⟨by show 1 ≤ sizeLine; decide, hd, _, (rel2 : KT H2 [(kk, y)] _).keeps fun c ys ec => ?_, o2, es, ep, ho2, h2a, h2b, h2c, h2d⟩
      rw [upd_ne (ne_of ec e (fun z => nomatch z))]
      exact ec
  · exact q _ hn
end L2
set_option Elab.async false
set_option linter.all false
set_option maxRecDepth 100000
/-! rows looked for layer by layer: the mathematics -/
namespace K1
open PySem L2
section
variable (r : List Nat → List Int)
/-- words, each only if its state is new -/
def dd (acc l : List (List Nat)) : List (List Nat) := l.foldl (fun acc v => if r v ∈ acc.map r then acc else acc ++ [v]) acc
def ext (w : Nat) (u : List Nat) : List (List Nat) := (List.range w).map fun k => u ++ [k]
def exts (w : Nat) (B : List (List Nat)) : List (List Nat) := B.flatMap (ext w)
/-- all words of a length; up to a length -/
def allW (w : Nat) : Nat → List (List Nat)
  | 0 => [[]]
  | n + 1 => exts w (allW w n)
def allU (w : Nat) : Nat → List (List Nat)
  | 0 => [[]]
  | n + 1 => allU w n ++ allW w (n + 1)
/-- what is met after n layers, and the last layer -/
def bfs (w : Nat) : Nat → List (List Nat) × List (List Nat)
  | 0 => ([[]], [[]])
  | n + 1 => (dd r (bfs w n).1 (exts w (bfs w n).2), (dd r (bfs w n).1 (exts w (bfs w n).2)).drop (bfs w n).1.length)
variable {r}
theorem dd_nil (acc : List (List Nat)) : dd r acc [] = acc := rfl
theorem dd_cons (acc : List (List Nat)) (v : List Nat) (l : List (List Nat)) : dd r acc (v :: l) = dd r (if r v ∈ acc.map r then acc else acc ++ [v]) l := rfl
theorem dd_app (acc l m : List (List Nat)) : dd r acc (l ++ m) = dd r (dd r acc l) m := List.foldl_append
theorem dd_pre : ∀ (l acc : List (List Nat)), ∃ N, dd r acc l = acc ++ N
  | [], acc => ⟨[], by rw [dd_nil, List.append_nil]⟩
  | v :: l, acc => by
    rw [dd_cons]
    by_cases h : r v ∈ acc.map r
    · rw [if_pos h]; exact dd_pre l acc
    · rw [if_neg h]
      obtain ⟨N, e⟩ := dd_pre l (acc ++ [v])
      exact ⟨v :: N, by rw [e, List.append_assoc]; rfl⟩
theorem dd_keep {acc l : List (List Nat)} {s : List Int} (h : s ∈ acc.map r) : s ∈ (dd r acc l).map r := by
  obtain ⟨N, e⟩ := dd_pre (r := r) l acc
  rw [e, List.map_append]
  exact List.mem_append_left _ h
theorem dd_mem : ∀ {l acc : List (List Nat)} {v : List Nat}, v ∈ l → r v ∈ (dd r acc l).map r
  | [], _, _, h => nomatch h
  | a :: l, acc, v, h => by
    rw [dd_cons]
    rcases List.mem_cons.mp h with rfl | h
    · refine dd_keep ?_
      by_cases h : r v ∈ acc.map r
      · rw [if_pos h]; exact h
      · rw [if_neg h, List.map_append]; exact List.mem_append_right _ (by simp)
    · exact dd_mem h
theorem dd_sub : ∀ {l acc : List (List Nat)} {v : List Nat}, v ∈ dd r acc l → v ∈ acc ∨ v ∈ l
  | [], _, _, h => .inl h
  | a :: l, acc, v, h => by
    rw [dd_cons] at h
    rcases dd_sub h with h | h
    · by_cases e : r a ∈ acc.map r
      · rw [if_pos e] at h; exact .inl h
      · rw [if_neg e] at h
        rcases List.mem_append.mp h with h | h
        · exact .inl h
        · exact .inr (by rw [List.mem_singleton.mp h]; exact List.mem_cons_self ..)
    · exact .inr (List.mem_cons_of_mem _ h)
theorem dd_noop : ∀ {l acc : List (List Nat)}, (∀ v ∈ l, r v ∈ acc.map r) → dd r acc l = acc
  | [], _, _ => rfl
  | a :: l, acc, h => by
    rw [dd_cons, if_pos (h a (List.mem_cons_self ..))]
    exact dd_noop fun v hv => h v (List.mem_cons_of_mem _ hv)
theorem dd_nodup : ∀ {l acc : List (List Nat)}, (acc.map r).Nodup → ((dd r acc l).map r).Nodup
  | [], _, h => h
  | a :: l, acc, h => by
    rw [dd_cons]
    refine dd_nodup ?_
    by_cases e : r a ∈ acc.map r
    · rw [if_pos e]; exact h
    · rw [if_neg e, List.map_append]
      refine List.nodup_append.mpr ⟨h, by simp, fun x hx y hy => ?_⟩
      rw [List.map_singleton, List.mem_singleton] at hy
      rw [hy]
      exact fun z => e (z ▸ hx)
theorem find_dd {p : List Nat → Bool} (hp : ∀ u v, r u = r v → p u = p v) : ∀ (l acc : List (List Nat)), (dd r acc l).find? p = (acc.find? p).or (l.find? p)
  | [], acc => by rw [dd_nil]; simp
  | a :: l, acc => by
    rw [dd_cons]
    by_cases e : r a ∈ acc.map r
    · rw [if_pos e, find_dd hp l acc]
      cases h : acc.find? p with
      | some z => rfl
      | none =>
        obtain ⟨b, hb, eb⟩ := List.mem_map.mp e
        have : p a = false := by rw [← hp b a eb]; simpa using List.find?_eq_none.mp h b hb
        rw [List.find?_cons, this]
    · rw [if_neg e, find_dd hp l, List.find?_append, List.find?_cons]
      cases acc.find? p with
      | some z => simp
      | none => cases h : p a <;> simp [h]
theorem exts_app (w : Nat) (A B : List (List Nat)) : exts w (A ++ B) = exts w A ++ exts w B := List.flatMap_append
theorem exts_cons (w : Nat) (a : List Nat) (B : List (List Nat)) : exts w (a :: B) = ext w a ++ exts w B := rfl
theorem mem_ext {w : Nat} {u v : List Nat} : v ∈ ext w u ↔ ∃ k, k < w ∧ v = u ++ [k] := by
  rw [ext, List.mem_map]
  constructor
  · rintro ⟨k, hk, rfl⟩; exact ⟨k, List.mem_range.mp hk, rfl⟩
  · rintro ⟨k, hk, rfl⟩; exact ⟨k, List.mem_range.mpr hk, rfl⟩
theorem mem_exts {w : Nat} {B : List (List Nat)} {v : List Nat} : v ∈ exts w B ↔ ∃ u ∈ B, ∃ k, k < w ∧ v = u ++ [k] := by
  rw [exts, List.mem_flatMap]
  constructor
  · rintro ⟨u, hu, hv⟩; exact ⟨u, hu, mem_ext.mp hv⟩
  · rintro ⟨u, hu, hv⟩; exact ⟨u, hu, mem_ext.mpr hv⟩
/-- words that add no state add none behind them -/
theorem exts_dd {w : Nat} (hr : ∀ u v k, r u = r v → r (u ++ [k]) = r (v ++ [k])) : ∀ (A acc acc1 B : List (List Nat)), dd r acc A = acc ++ B → (∀ u ∈ acc, ∀ k, k < w → r (u ++ [k]) ∈ acc1.map r) → dd r acc1 (exts w A) = dd r acc1 (exts w B)
  | [], acc, acc1, B, h, _ => by
    have : B = [] := by
      have := congrArg List.length h
      rw [dd_nil, List.length_append] at this
      exact List.length_eq_zero_iff.mp (by omega)
    rw [this]
  | a :: A, acc, acc1, B, h, hc => by
    rw [dd_cons] at h
    by_cases e : r a ∈ acc.map r
    · rw [if_pos e] at h
      obtain ⟨b, hb, eb⟩ := List.mem_map.mp e
      have e1 : dd r acc1 (ext w a) = acc1 := dd_noop fun v hv => by
        obtain ⟨k, hk, rfl⟩ := mem_ext.mp hv
        rw [← hr b a k eb]
        exact hc b hb k hk
      rw [exts_cons, dd_app, e1]
      exact exts_dd hr A acc acc1 B h hc
    · rw [if_neg e] at h
      obtain ⟨N, en⟩ := dd_pre (r := r) A (acc ++ [a])
      have eB : B = a :: N := by
        rw [en, List.append_assoc] at h
        exact (List.append_cancel_left h).symm
      subst eB
      rw [exts_cons, exts_cons, dd_app, dd_app]
      refine exts_dd hr A (acc ++ [a]) _ N en fun u hu k hk => ?_
      rcases List.mem_append.mp hu with hu | hu
      · exact dd_keep (hc u hu k hk)
      · rw [List.mem_singleton.mp hu]
        exact dd_mem (mem_ext.mpr ⟨k, hk, rfl⟩)
/-- what a search has after n layers -/
structure BfsI (r : List Nat → List Int) (w n : Nat) (M B : List (List Nat)) : Prop where
  ex : ∃ M0, M = M0 ++ B ∧ M = dd r M0 (allW w n) ∧ ∀ u ∈ M0, ∀ k, k < w → r (u ++ [k]) ∈ M.map r
  all : M = dd r [] (allU w n)
  nd : (M.map r).Nodup
  pre : ∀ u k, u ++ [k] ∈ M → u ∈ M
  lt : ∀ u ∈ M, ∀ k ∈ u, k < w
  len : ∀ u ∈ B, u.length = n
  hd : ∃ T, M = [] :: T
theorem bfs_ok (hr : ∀ u v k, r u = r v → r (u ++ [k]) = r (v ++ [k])) (w : Nat) : ∀ n, BfsI r w n (bfs r w n).1 (bfs r w n).2
  | 0 => ⟨⟨[], rfl, rfl, fun u hu => nomatch hu⟩, rfl, by simp [bfs], fun u k h => by simp [bfs] at h, fun u hu k hk => by
      have : u = [] := by simpa [bfs] using hu
      rw [this] at hk; exact (List.not_mem_nil hk).elim, fun u hu => by
      have : u = [] := by simpa [bfs] using hu
      rw [this]; rfl, ⟨[], rfl⟩⟩
  | n + 1 => by
    obtain ⟨⟨M0, h1, h2, h3⟩, h4, h5, h6, h7, h8, h9⟩ := bfs_ok hr w n
    generalize hM : (bfs r w n).1 = M at *
    generalize hB : (bfs r w n).2 = B at *
    obtain ⟨N, en⟩ := dd_pre (r := r) (exts w B) M
    have e1 : (bfs r w (n + 1)).1 = M ++ N := by
      show dd r (bfs r w n).1 (exts w (bfs r w n).2) = _
      rw [hM, hB, en]
    have e2 : (bfs r w (n + 1)).2 = N := by
      show (dd r (bfs r w n).1 (exts w (bfs r w n).2)).drop (bfs r w n).1.length = _
      rw [hM, hB, en, List.drop_left]
    rw [e1, e2]
    have e3 : M ++ N = dd r M (allW w (n + 1)) := by
      rw [← en]
      exact (exts_dd hr (allW w n) M0 M B (by rw [← h2]; exact h1) h3).symm
    have hN : ∀ v ∈ N, ∃ u ∈ B, ∃ k, k < w ∧ v = u ++ [k] := fun v hv => by
      -- v is new
      have hnd : ((M ++ N).map r).Nodup := by rw [← en]; exact dd_nodup h5
      rcases dd_sub (r := r) (l := exts w B) (acc := M) (by rw [en]; exact List.mem_append_right _ hv) with h | h
      · exfalso
        rw [List.map_append] at hnd
        exact (List.nodup_append.mp hnd).2.2 (r v) (List.mem_map_of_mem h) (r v) (List.mem_map_of_mem hv) rfl
      · exact mem_exts.mp h
    have hBM : ∀ u ∈ B, u ∈ M := fun u hu => by rw [h1]; exact List.mem_append_right _ hu
    refine ⟨⟨M, rfl, e3, fun u hu k hk => ?_⟩, ?_, by rw [← en]; exact dd_nodup h5, fun u k hu => ?_, fun u hu k hk => ?_, fun u hu => ?_, ?_⟩
    · rw [← en]
      rw [h1] at hu
      rcases List.mem_append.mp hu with hu | hu
      · exact dd_keep (h3 u hu k hk)
      · exact dd_mem (mem_exts.mpr ⟨u, hu, k, hk, rfl⟩)
    · rw [e3, h4]
      exact (dd_app _ _ _).symm
    · rcases List.mem_append.mp hu with hu | hu
      · exact List.mem_append_left _ (h6 u k hu)
      · obtain ⟨u', hu', k', _, e⟩ := hN _ hu
        obtain ⟨rfl, _⟩ := List.append_inj' e rfl
        exact List.mem_append_left _ (hBM u hu')
    · rcases List.mem_append.mp hu with hu | hu
      · exact h7 u hu k hk
      · obtain ⟨u', hu', k', hk', rfl⟩ := hN _ hu
        rcases List.mem_append.mp hk with hk | hk
        · exact h7 u' (hBM u' hu') k hk
        · rw [List.mem_singleton.mp hk]; exact hk'
    · obtain ⟨u', hu', k', _, rfl⟩ := hN _ hu
      rw [List.length_append, h8 u' hu']; rfl
    · obtain ⟨T, eT⟩ := h9
      exact ⟨T ++ N, by rw [eT]; rfl⟩
theorem allU_pre (w : Nat) : ∀ {n m : Nat}, n ≤ m → ∃ R, allU w m = allU w n ++ R
  | n, 0, h => ⟨[], by rw [Nat.le_zero.mp h]; simp⟩
  | n, m + 1, h => by
    by_cases e : n = m + 1
    · exact ⟨[], by rw [e]; simp⟩
    · obtain ⟨R, eR⟩ := allU_pre w (show n ≤ m by omega)
      exact ⟨R ++ allW w (m + 1), by rw [allU, eR, List.append_assoc]⟩
theorem allW_len (w : Nat) : ∀ (n : Nat) (v : List Nat), v ∈ allW w n ↔ v.length = n ∧ ∀ k ∈ v, k < w
  | 0, v => by
    simp only [allW, List.mem_singleton]
    constructor
    · rintro rfl; exact ⟨rfl, fun k h => nomatch h⟩
    · rintro ⟨h, _⟩; exact List.length_eq_zero_iff.mp h
  | n + 1, v => by
    rw [allW, mem_exts]
    constructor
    · rintro ⟨u, hu, k, hk, rfl⟩
      obtain ⟨h1, h2⟩ := (allW_len w n u).mp hu
      refine ⟨by rw [List.length_append, h1]; rfl, fun j hj => ?_⟩
      rcases List.mem_append.mp hj with h | h
      · exact h2 j h
      · rw [List.mem_singleton.mp h]; exact hk
    · rintro ⟨h1, h2⟩
      have hne : v ≠ [] := fun e => by rw [e] at h1; simp at h1
      refine ⟨v.dropLast, (allW_len w n _).mpr ⟨by rw [List.length_dropLast, h1]; rfl, fun k hk => h2 k (List.dropLast_subset v hk)⟩, v.getLast hne, h2 _ (List.getLast_mem hne), (List.dropLast_concat_getLast hne).symm⟩
theorem allU_mem (w : Nat) : ∀ (n : Nat) (v : List Nat), v ∈ allU w n ↔ v.length ≤ n ∧ ∀ k ∈ v, k < w
  | 0, v => by
    simp only [allU, List.mem_singleton]
    constructor
    · rintro rfl; exact ⟨Nat.le_refl _, fun k h => nomatch h⟩
    · rintro ⟨h, _⟩; exact List.length_eq_zero_iff.mp (by omega)
  | n + 1, v => by
    rw [allU, List.mem_append, allU_mem w n, allW_len w (n + 1)]
    constructor
    · rintro (⟨a, b⟩ | ⟨a, b⟩)
      · exact ⟨by omega, b⟩
      · exact ⟨by omega, b⟩
    · rintro ⟨a, b⟩
      by_cases e : v.length = n + 1
      · exact .inr ⟨e, b⟩
      · exact .inl ⟨by omega, b⟩
/-- the first of all words, up to a length, for which p holds -/
theorem bfs_find {p : List Nat → Bool} (hr : ∀ u v k, r u = r v → r (u ++ [k]) = r (v ++ [k])) (hp : ∀ u v, r u = r v → p u = p v) (w n : Nat) : (bfs r w n).1.find? p = (allU w n).find? p := by
  rw [(bfs_ok hr w n).all, find_dd hp]; simp
/-- an empty layer: nothing comes later -/
theorem bfs_end (hr : ∀ u v k, r u = r v → r (u ++ [k]) = r (v ++ [k])) {w n : Nat} (h : (bfs r w n).2 = []) : ∀ m, n ≤ m → bfs r w m = ((bfs r w n).1, [])
  | m, hm => by
    induction m with
    | zero =>
      have : n = 0 := by omega
      subst this
      exact Prod.ext rfl h
    | succ m ih =>
      by_cases e : n = m + 1
      · subst e; exact Prod.ext rfl h
      · have := ih (by omega)
        show (dd r (bfs r w m).1 (exts w (bfs r w m).2), _) = _
        rw [this]
        exact Prod.ext rfl (by show List.drop _ (dd r _ (exts w [])) = []; simp [exts, dd_nil])
end
end K1
set_option Elab.async false
set_option linter.all false
set_option maxRecDepth 100000
/-! a queue of words: the mathematics -/
namespace K1
open PySem L2 LamX
section
variable {r : List Nat → List Int} {w : Nat}
theorem exts_allU (w : Nat) : ∀ m, allU w (m + 1) = [] :: exts w (allU w m)
  | 0 => rfl
  | m + 1 => by
    show allU w (m + 1) ++ allW w (m + 2) = [] :: exts w (allU w m ++ allW w (m + 1))
    rw [exts_app, exts_allU w m]; rfl
theorem dd_one (l : List (List Nat)) : dd r [] ([] :: l) = dd r [[]] l := by rw [dd_cons]; rfl
theorem len_bound : ∀ M : List (List Nat), ∃ n0, ∀ u ∈ M, u.length ≤ n0
  | [] => ⟨0, fun u h => nomatch h⟩
  | a :: M => by
    obtain ⟨n, h⟩ := len_bound M
    refine ⟨max a.length n, fun u hu => ?_⟩
    rcases List.mem_cons.mp hu with rfl | hu
    · exact Nat.le_max_left _ _
    · exact Nat.le_trans (h u hu) (Nat.le_max_right _ _)
/-- a queue that has taken all its words' followers is all that is met -/
theorem queue_dd (hr : ∀ u v k, r u = r v → r (u ++ [k]) = r (v ++ [k])) {M : List (List Nat)} (hM : M = dd r [[]] (exts w M)) (hlt : ∀ u ∈ M, ∀ k ∈ u, k < w) : ∃ n0, ∀ m, n0 ≤ m → dd r [] (allU w m) = M := by
  obtain ⟨n0, hn0⟩ := len_bound M
  have hnd : (M.map r).Nodup := by rw [hM]; exact dd_nodup (by simp)
  have step : ∀ m, dd r [] (allU w (m + 1)) = dd r [[]] (exts w (dd r [] (allU w m))) := fun m => by
    rw [exts_allU, dd_one]
    exact exts_dd hr (allU w m) [] [[]] _ (by rw [List.nil_append]) (fun u hu => nomatch hu)
  have pre : ∀ m, ∃ N, M = dd r [] (allU w m) ++ N := by
    intro m
    induction m with
    | zero =>
      obtain ⟨N, e⟩ := dd_pre (r := r) (exts w M) [[]]
      exact ⟨N, by rw [← hM] at e; exact e⟩
    | succ m ih =>
      obtain ⟨N, e⟩ := ih
      have h1 : M = dd r [[]] (exts w (dd r [] (allU w m) ++ N)) := by rw [← e]; exact hM
      rw [exts_app, dd_app, ← step] at h1
      obtain ⟨N', e'⟩ := dd_pre (r := r) (exts w N) (dd r [] (allU w (m + 1)))
      exact ⟨N', h1.trans e'⟩
  refine ⟨n0, fun m hm => ?_⟩
  obtain ⟨N, e⟩ := pre m
  have hN : N = [] := by
    cases N with
    | nil => rfl
    | cons u N =>
      exfalso
      have hu : u ∈ M := by rw [e]; exact List.mem_append_right _ (List.mem_cons_self ..)
      have h1 : r u ∈ (dd r [] (allU w m)).map r := dd_mem ((allU_mem w m u).mpr ⟨Nat.le_trans (hn0 u hu) hm, hlt u hu⟩)
      rw [e, List.map_append] at hnd
      exact (List.nodup_append.mp hnd).2.2 _ h1 (r u) (by rw [List.map_cons]; exact List.mem_cons_self ..) rfl
  rw [hN, List.append_nil] at e
  exact e.symm
/-- .. and is what the layers end with -/
theorem queue_bfs (hr : ∀ u v k, r u = r v → r (u ++ [k]) = r (v ++ [k])) {M : List (List Nat)} (hM : M = dd r [[]] (exts w M)) (hlt : ∀ u ∈ M, ∀ k ∈ u, k < w) : ∃ n, bfs r w n = (M, []) := by
  obtain ⟨n0, h⟩ := queue_dd hr hM hlt
  have h1 : (bfs r w n0).1 = M := (bfs_ok hr w n0).all.trans (h n0 (Nat.le_refl _))
  have h2 : (bfs r w (n0 + 1)).1 = M := (bfs_ok hr w (n0 + 1)).all.trans (h _ (by omega))
  have h3 : (bfs r w (n0 + 1)).2 = [] := by
    show (dd r (bfs r w n0).1 (exts w (bfs r w n0).2)).drop (bfs r w n0).1.length = []
    have : dd r (bfs r w n0).1 (exts w (bfs r w n0).2) = M := h2
    rw [this, h1, List.drop_length]
  exact ⟨n0 + 1, Prod.ext h2 h3⟩
/-- a queue in the midst of it -/
structure Qu (r : List Nat → List Int) (w : Nat) (M : List (List Nat)) (i j : Nat) : Prop where
  eq : M = dd r [[]] (exts w (M.take i) ++ (ext w (M.getD i [])).take j)
  lt : ∀ u ∈ M, ∀ k ∈ u, k < w
  nd : (M.map r).Nodup
  hd : ∃ T, M = [] :: T
theorem Qu.init : Qu r w [[]] 0 0 := by
  refine ⟨by simp [exts, dd_nil], fun u hu k hk => ?_, by simp, ⟨[], rfl⟩⟩
  rw [List.mem_singleton.mp hu] at hk
  exact nomatch hk
theorem Qu.step {M : List (List Nat)} {i j : Nat} (q : Qu r w M i j) (hi : i < M.length) (hj : j < w) : Qu r w (dd r M [M.getD i [] ++ [j]]) i (j + 1) ∧ (dd r M [M.getD i [] ++ [j]]).take (i + 1) = M.take (i + 1) := by
  obtain ⟨N, e⟩ := dd_pre (r := r) [M.getD i [] ++ [j]] M
  have ht : ∀ n, n ≤ i + 1 → (M ++ N).take n = M.take n := fun n hn => by rw [List.take_append_of_le_length (by omega)]
  have hg : (M ++ N).getD i [] = M.getD i [] := by rw [List.getD_eq_getElem?_getD, List.getElem?_append_left hi, ← List.getD_eq_getElem?_getD]
  have hex : (ext w (M.getD i [])).take (j + 1) = (ext w (M.getD i [])).take j ++ [M.getD i [] ++ [j]] := by
    rw [List.take_add_one]
    unfold ext
    rw [List.getElem?_map, List.getElem?_range hj]; rfl
  refine ⟨⟨?_, ?_, dd_nodup q.nd, ?_⟩, by rw [e]; exact ht _ (Nat.le_refl _)⟩
  · rw [e, ht i (by omega), hg, hex, ← List.append_assoc, dd_app, ← q.eq, e]
  · intro u hu k hk
    rcases dd_sub hu with h | h
    · exact q.lt u h k hk
    · rw [List.mem_singleton.mp h] at hk
      rcases List.mem_append.mp hk with hk | hk
      · exact q.lt _ (List.mem_of_getElem? (getD_get ([] : List Nat) hi)) k hk
      · rw [List.mem_singleton.mp hk]; exact hj
  · obtain ⟨T, eT⟩ := q.hd
    exact ⟨T ++ N, by rw [e, eT]; rfl⟩
theorem Qu.next {M : List (List Nat)} {i : Nat} (q : Qu r w M i w) (hi : i < M.length) : Qu r w M (i + 1) 0 := by
  refine ⟨?_, q.lt, q.nd, q.hd⟩
  have h1 : (ext w (M.getD i [])).take w = ext w (M.getD i []) := List.take_of_length_le (by unfold ext; rw [List.length_map, List.length_range]; exact Nat.le_refl _)
  have h2 : M.take (i + 1) = M.take i ++ [M.getD i []] := by rw [List.take_add_one, getD_get ([] : List Nat) hi]; rfl
  have e := q.eq
  rw [h1] at e
  rw [h2, exts_app, List.take_zero, List.append_nil]
  rw [show exts w [M.getD i []] = ext w (M.getD i []) from by rw [exts_cons]; simp [exts]]
  exact e
theorem Qu.skip {M : List (List Nat)} {i : Nat} (q : Qu r w M i 0) (hi : M.length ≤ i) : Qu r w M (i + 1) 0 := by
  refine ⟨?_, q.lt, q.nd, q.hd⟩
  have e := q.eq
  rw [List.take_of_length_le hi] at e
  rw [List.take_of_length_le (by omega)]
  rw [List.take_zero] at e ⊢
  exact e
theorem Qu.fin {M : List (List Nat)} {i : Nat} (q : Qu r w M i 0) (hi : M.length ≤ i) : M = dd r [[]] (exts w M) := by
  have e := q.eq
  rw [List.take_of_length_le hi, List.take_zero, List.append_nil] at e
  exact e
end
end K1
set_option Elab.async false
set_option linter.all false
set_option maxRecDepth 100000
namespace L2
open PySem PySem.Spec PyProof.Rows
/-- len of an instance by its own __len__ -/
structure OwnL (K : PySem.W.Frag) (C f : Addr) : Prop where
  len : PySem.W.findIn K (.ref C) "__len__" = some (some (.ref f))
  fn : PySem.W.isFn K (.ref f) = true
def rLenOwn (C : Addr) (sp : Sp) (E : XK) : List V → Hp → VK → Prop := fun xs H Q => ∃ a dx fs, xs = [.ref a] ∧ H a = some (.ins C dx fs) ∧ sp [.ref a] H (fun v H' => ∃ n : Nat, v = .int (n : Int) ∧ n ≤ sizeLine ∧ Q (.int (n : Int)) H') E
theorem call_lenOwn {X : Cx} {n : Nat} {CX : CXT} {C f : Addr} {fd : FuncData} {ps : List Str} {sp : Sp} {E : XK} (O : OwnL X.K C f) (F : FnOk X.prog X.w X.K X.mg X.base CX n f fd ps sp) (hr : Room (n + 1) X.A) (hb : Binds X.K fd ps []) (hx : Passes CX X E) :
    CallR X (.builtin "len") (rLenOwn C sp E) := by
  intro pins s σ H xs us Q I r h
  obtain ⟨a, dx, fs, rfl, ha, hs⟩ := h
  obtain ⟨u, rfl, rx⟩ := vals1 r
  cases rx
  obtain ⟨mA, J, _⟩ := ins_get I.hok ha
  obtain ⟨od, J, _⟩ := J.look
  obtain ⟨m, hF⟩ := I.fr
  refine PySem.W.len_K hF I.ok.mod.kin J O.len O.fn ?_
  refine wpAny_mono (own_call (vs := [V.ref a]) F hb hx hr.in1 rfl I (.cons rfl .nil) hs) (fun u s' q => ?_) fun _ _ e => e
  obtain ⟨z, H', I', rz, n, rfl, hn, q⟩ := q
  obtain ⟨t, rfl⟩ := rz
  have hl := line63
  have : (sizeLine : Nat) = 16777216 := sizeLine_eq
  exact ⟨⟨by omega, by omega⟩, ⟨.int (n : Int), H', I'.tok _, ⟨_, rfl⟩, q⟩⟩
end L2
namespace K1
open PySem L2
def pdRow (r : List Int) : PyData := .tuple (r.map PyData.int)
theorem eqv_rows : ∀ ws ws2 : List (List Int), PyData.eqvAll (ws.map pdRow) (ws2.map pdRow) = decide (ws = ws2)
  | [], [] => by simp [PyData.eqvAll]
  | [], _ :: _ => by simp [PyData.eqvAll]
  | _ :: _, [] => by simp [PyData.eqvAll]
  | a :: r, b :: q => by
    simp only [List.map_cons, PyData.eqvAll, eqv_rows r q]
    have : PyData.eqv (pdRow a) (pdRow b) = decide (a = b) := by unfold pdRow; rw [PyData.eqv, eqv_ints]
    rw [this]
    by_cases e : a = b
    · subst e; simp
    · simp [e]
theorem ok_tl {ws : List Str} (h : ∀ z ∈ ws, Tl z) : OkS ws := fun z hz => ok_chars (h z hz).2.2
theorem canLay_rows : ∀ rs : List (List Int), PyData.canLayAll0 (rs.map pdRow) = true
  | [] => rfl
  | n :: r => by simp [PyData.canLayAll0, PyData.canLay0, canLay_rows r, pdRow, canLay_ints]
theorem depth_rows : ∀ rs : List (List Int), PyData.depthAll (rs.map pdRow) ≤ 2
  | [] => by decide
  | n :: r => by
    have := depth_rows r
    have := depth_ints n
    simp only [List.map_cons, PyData.depthAll, PyData.depth, pdRow]
    omega
theorem shaped_rows (rs : List (List Int)) : SeqAt.shaped (.tuple (rs.map pdRow)) = true := shaped_of (by rw [PyData.canLay0, canLay_rows]) (by rw [PyData.depth]; have := depth_rows rs; omega)
theorem dp_rows {K : PySem.W.Frag} {H : Hp} : ∀ {as : List Addr} {rs : List (List Int)}, RowsT H as rs → DpAll K H (as.map V.ref) (rs.map pdRow)
  | [], [], _ => .nil
  | [], _ :: _, h => by cases h.1
  | _ :: _, [], h => by cases h.1
  | a :: as, r :: rs, h => .cons (.tup (SqT.of (h.2 0 a r rfl rfl)) (dp_ints r)) (dp_rows ⟨by have := h.1; simpa using this, fun i b q e1 e2 => h.2 (i + 1) b q e1 e2⟩)
abbrev pEq : List Str := ["self", "other"]
/-- what of a class isinstance asks -/
structure Ti (K : PySem.W.Frag) (C : Addr) : Prop where
  ca : PySem.W.findIn K (.ref C) "__class__" = some (some (.builtin "object.__class__"))
  cs : PySem.W.specialIn K (.builtin "object.__class__") "__get__" = some (some (.builtin "getset_descriptor.__get__"))
  ct : PySem.W.takesIn K (.builtin "object.__class__") = some true
  cm : PySem.W.mroIn K C (.type "object") = some true
def spMLen (K : PySem.W.Frag) (C : Addr) : Sp := fun vs H Q _ => ∃ (x : Addr) (ws : List Str) (rs : List (List Int)) (ss : List Str) (st : Int), vs = [.ref x] ∧ MachAt K C H x ws rs ss st ∧ Q (.int (rs.length : Int)) H
def spMEq (K : PySem.W.Frag) (C : Addr) : Sp := fun vs H Q _ => ∃ (x y : Addr) (ws ws2 : List Str) (rs rs2 : List (List Int)) (ss ss2 : List Str) (st st2 : Int), vs = [.ref x, .ref y] ∧ MachAt K C H x ws rs ss st ∧ MachAt K C H y ws2 rs2 ss2 st2 ∧
  OkS ws ∧ OkS ws2 ∧ OkS ss ∧ OkS ss2 ∧ Q (.bl (decide (ws = ws2 ∧ rs = rs2 ∧ ss = ss2 ∧ st = st2))) H
/-- the other one is no machine -/
def preNI (C : Addr) : List V → Hp → Prop := fun vs H => ∃ (x dx : Addr) (fs : List (Str × V)) (v : V), vs = [.ref x, v] ∧ H x = some (.ins C dx fs) ∧ (v = .non ∨ (∃ i, v = .int i) ∨ ∃ l xs, v = .ref l ∧ H l = some (.lst xs))
section
variable {P : Program} {w : World} {K : PySem.W.Frag} {mg : Str → Option Value} {base : Heap}
theorem scMLen : FnScope ["self"] ["self"] (defScope sMLen) := ⟨rfl, rfl, rfl, by decide +kernel, rfl, by decide +kernel, by decide +kernel⟩
theorem ok_mlen {C f : Addr} {fd : FuncData} (F : Fun K "__len__" "Machine.__len__" sMLen f fd) (M : Tm K mg C) (T : Bt2 mg) : FnOk P w K mg base CX0 1 f fd ["self"] (spMLen K C) := by
  refine F.ok scMLen (fun vs H Q E h => ?_) (fun cdv A outer s H vs Q E hr h => ?_)
  · obtain ⟨x, ws, rs, ss, st, rfl, _⟩ := h
    rfl
  · obtain ⟨x, ws, rs, ss, st, rfl, ⟨dx, t, r, l, as, hx, ht, hr', hR, hl⟩, k⟩ := h
    refine ⟨_, pss_one (ps_ret (pe_callB call_len (by rfl) T.len PySem.boot_len (pa_cons (pe_fld (pv 0) rfl) pa_nil))), ?_⟩
    exact ⟨_, rfl, x, C, dx, _, _, rfl, hx, M.cl, M.nR, mf_rows _ _ _ _, _, rs.length, rfl, .inr ⟨_, SqT.of hr', by rw [List.length_map, hR.1]⟩, k⟩
theorem scMEq : FnScope pEq pEq (defScope sMEq) := ⟨rfl, rfl, rfl, by decide +kernel, rfl, by decide +kernel, by decide +kernel⟩
theorem ok_meq {C f : Addr} {fd : FuncData} (F : Fun K "__eq__" "Machine.__eq__" sMEq f fd) (M : Tm K mg C) (I : Ti K C) (T : Bt2 mg) : FnOk P w K mg base CX0 1 f fd pEq (spMEq K C) := by
  refine F.ok scMEq (fun vs H Q E h => ?_) (fun cdv A outer s H vs Q E hr h => ?_)
  · obtain ⟨x, y, ws, ws2, rs, rs2, ss, ss2, st, st2, rfl, _⟩ := h
    rfl
  · obtain ⟨x, y, ws, ws2, rs, rs2, ss, ss2, st, st2, rfl, ⟨dx, t, r, l, as, hx, ht, hr', hR, hl⟩, ⟨dy, t2, r2, l2, as2, hy, ht2, hr2, hR2, hl2⟩, ow, ow2, os, os2, k⟩ := h
    refine ⟨_, pss_cons (ps_if (pt_not (pt_val (pe_callB call_isi (by rfl) T.isinstance PyProof.Rows.boot_isinstance (pa_cons (pv 1) (pa_cons (pe_glob (v := .ref C) rfl M.mgC rfl) pa_nil))))) pss_never pss_nil)
      (pss_cons (ps_if (PW.pt (pw_or (pt_cmpR (op_neD hr.units) (pe_fld (pv 0) rfl) (pe_fld (pv 1) rfl) (nomark _)) (pw_or1 (pt_cmpR (op_neD hr.units) (pe_fld (pv 0) rfl) (pe_fld (pv 1) rfl) (nomark _))))) (pss_one (ps_ret pe_bl)) pss_nil)
      (pss_one (ps_ret (pe_and (pe_cmpR (op_eqD hr.units) (pe_fld (pv 0) rfl) (pe_fld (pv 1) rfl) (nomark _)) (pe_one (pe_cmpR op_eq (pe_fld (pv 0) rfl) (pe_fld (pv 1) rfl) (nomark _))))))), ?_⟩
    refine ⟨_, rfl, _, _, .ref C, .ref C, true, rfl, .own C, .base (.ins hy M.cl I.ca I.cs I.ct I.cm), by simp [PySem.W.kitOne], true, rfl, ?_⟩
    refine iteF ?_
    refine ⟨_, rfl, x, C, dx, _, _, rfl, hx, M.cl, M.nD, mf_deeds _ _ _ _, _, rfl, y, C, dy, _, _, rfl, hy, M.cl, M.nD, mf_deeds _ _ _ _, _, _, .tup ht.sq (dp_strs ws), .tup ht2.sq (dp_strs ws2), shaped_strs ow, shaped_strs ow2, _, rfl, ?_⟩
    rw [PyData.eqv, eqv_strs]
    refine ite2 (fun h => ?_) (fun h => ?_)
    · have hne : ¬ ws = ws2 := by simpa using h
      refine iteT ?_
      have : decide (ws = ws2 ∧ rs = rs2 ∧ ss = ss2 ∧ st = st2) = false := decide_eq_false fun e => hne e.1
      rw [this] at k
      exact k
    · have e1 : ws = ws2 := by simpa using h
      refine ⟨_, rfl, x, C, dx, _, _, rfl, hx, M.cl, M.nR, mf_rows _ _ _ _, _, rfl, y, C, dy, _, _, rfl, hy, M.cl, M.nR, mf_rows _ _ _ _, _, _, .tup (SqT.of hr') (dp_rows hR), .tup (SqT.of hr2) (dp_rows hR2), shaped_rows rs, shaped_rows rs2, _, rfl, ?_⟩
      rw [PyData.eqv, eqv_rows]
      refine ite2 (fun h => ?_) (fun h => ?_)
      · have hne : ¬ rs = rs2 := by simpa using h
        have : decide (ws = ws2 ∧ rs = rs2 ∧ ss = ss2 ∧ st = st2) = false := decide_eq_false fun e => hne e.2.1
        rw [this] at k
        exact k
      · have e2 : rs = rs2 := by simpa using h
        refine ⟨_, rfl, x, C, dx, _, _, rfl, hx, M.cl, M.nT, mf_tells _ _ _ _, _, rfl, y, C, dy, _, _, rfl, hy, M.cl, M.nT, mf_tells _ _ _ _, _, _, .tup (SqT.of hl) (dp_strs ss), .tup (SqT.of hl2) (dp_strs ss2), shaped_strs os, shaped_strs os2, _, rfl, ?_⟩
        rw [PyData.eqv, eqv_strs]
        refine ite2 (fun h => ?_) (fun h => ?_)
        · have e3 : ss = ss2 := by simpa using h
          refine ⟨_, rfl, x, C, dx, _, _, rfl, hx, M.cl, M.nS, mf_start _ _ _ _, _, rfl, y, C, dy, _, _, rfl, hy, M.cl, M.nS, mf_start _ _ _ _, rfl, ?_⟩
          have : decide (ws = ws2 ∧ rs = rs2 ∧ ss = ss2 ∧ st = st2) = decide (V.int st = V.int st2) := by
            simp [e1, e2, e3]
          rw [this] at k
          exact k
        · have hne : ¬ ss = ss2 := by simpa using h
          have : decide (ws = ws2 ∧ rs = rs2 ∧ ss = ss2 ∧ st = st2) = false := decide_eq_false fun e => hne e.2.2.1
          rw [this] at k
          exact k
end
end K1
set_option Elab.async false
set_option linter.all false
set_option maxRecDepth 100000
/-! walks.next_layer -/
namespace L2
open PySem PySem.Spec PyProof.Rows
/-- zip of two tuples, walked -/
theorem walk_zipT {K : PySem.W.Frag} {a b : Addr} {xs ys : List V} {n : Nat} (hn : n = min xs.length ys.length) : Walk (RZ.ItzT K a b) n (fun H => SqT K H a xs ∧ SqT K H b ys) (YPair (fun i => xs[i]?) (fun i => ys[i]?)) := by
  refine ⟨fun i H hi h => ?_, fun H h => ⟨xs, ys, h.1, h.2, by omega⟩, fun i H x H' hi h y => ?_⟩
  · have h1 : i < xs.length := by omega
    have h2 : i < ys.length := by omega
    exact ⟨xs, ys, _, _, h.1, h.2, List.getElem?_eq_getElem h1, List.getElem?_eq_getElem h2⟩
  · obtain ⟨T, x', y', e, hT, e2, f1, f2⟩ := y
    exact ⟨T, x', y', e, hT, e2, f1 xs h.1, f2 ys h.2⟩
theorem valV_mem {κ : Type} [DecidableEq κ] {k : κ} {v : V} : ∀ {kvs : List (κ × V)}, (kvs.map (·.1)).Nodup → (k, v) ∈ kvs → valV kvs k = some v
  | [], _, h => nomatch h
  | p :: q, hn, h => by
    rcases List.mem_cons.mp h with e | h
    · rw [← e]; exact valV_pos rfl
    · rw [List.map_cons, List.nodup_cons] at hn
      rw [valV_neg fun e => hn.1 (by rw [e]; exact List.mem_map_of_mem (f := (·.1)) h)]
      exact valV_mem hn.2 h
theorem valV_no {κ : Type} [DecidableEq κ] {k : κ} : ∀ {kvs : List (κ × V)}, k ∉ kvs.map (·.1) → valV kvs k = none
  | [], _ => rfl
  | p :: q, h => by
    rw [List.map_cons, List.mem_cons] at h
    rw [valV_neg fun e => h (.inl e.symm)]
    exact valV_no fun z => h (.inr z)
end L2
namespace K1
open PySem L2 LamX
/-! tuples of states, tables -/
def stepT (ts : List (List (List Int))) (k : Nat) (vs : List Int) : List Int := List.zipWith (fun t v => (t.getD v.toNat []).getD k 0) ts vs
def runT (ts : List (List (List Int))) (s0 : List Int) (u : List Nat) : List Int := u.foldl (fun s k => stepT ts k s) s0
theorem runT_snoc (ts : List (List (List Int))) (s0 : List Int) (u : List Nat) (k : Nat) : runT ts s0 (u ++ [k]) = stepT ts k (runT ts s0 u) := by simp [runT]
theorem runT_c (ts : List (List (List Int))) (s0 : List Int) : ∀ u v k, runT ts s0 u = runT ts s0 v → runT ts s0 (u ++ [k]) = runT ts s0 (v ++ [k]) := fun u v k e => by rw [runT_snoc, runT_snoc, e]
def TabOk (w : Nat) (t : List (List Int)) : Prop := ∀ row ∈ t, row.length = w ∧ ∀ x ∈ row, 0 ≤ x ∧ x < (t.length : Int)
def StOk (ts : List (List (List Int))) (vs : List Int) : Prop := vs.length = ts.length ∧ ∀ (i : Nat) (t : List (List Int)) (v : Int), ts[i]? = some t → vs[i]? = some v → 0 ≤ v ∧ v < (t.length : Int)
theorem StOk.step {w : Nat} {ts : List (List (List Int))} {vs : List Int} {k : Nat} (h : StOk ts vs) (ht : ∀ t ∈ ts, TabOk w t) (hk : k < w) : StOk ts (stepT ts k vs) := by
  refine ⟨by simp [stepT, h.1], fun i t v e1 e2 => ?_⟩
  rw [stepT, List.getElem?_zipWith] at e2
  rw [e1] at e2
  cases ev : vs[i]? with
  | none => rw [ev] at e2; cases e2
  | some v0 =>
    rw [ev] at e2
    cases e2
    obtain ⟨h0, h1⟩ := h.2 i t v0 e1 ev
    have hrow := getD_get ([] : List Int) (xs := t) (n := v0.toNat) (by omega)
    obtain ⟨hl, hx⟩ := ht t (List.mem_of_getElem? e1) _ (List.mem_of_getElem? hrow)
    exact hx _ (List.mem_of_getElem? (getD_get (0 : Int) (by rw [hl]; exact hk)))
theorem StOk.run {w : Nat} {ts : List (List (List Int))} {s0 : List Int} (h : StOk ts s0) (ht : ∀ t ∈ ts, TabOk w t) : ∀ (u : List Nat) , (∀ k ∈ u, k < w) → StOk ts (runT ts s0 u) := fun u => by
  show _ → StOk ts (u.foldl (fun s k => stepT ts k s) s0)
  induction u generalizing s0 with
  | nil => exact fun _ => h
  | cons k u ih => exact fun hu => ih (h.step ht (hu k (List.mem_cons_self ..))) fun j hj => hu j (List.mem_cons_of_mem _ hj)
/-! dicts of what is met -/
def keyI (s : List Int) : List Key := s.map Sum.inl
theorem keyI_kV (s : List Int) : (keyI s).map kV = s.map V.int := by simp [keyI, kV]
theorem keyI_inj {s t : List Int} (h : keyI s = keyI t) : s = t := by
  induction s generalizing t with
  | nil => cases t with
    | nil => rfl
    | cons a b => cases h
  | cons x q ih => cases t with
    | nil => cases h
    | cons a b =>
      simp only [keyI, List.map_cons, List.cons.injEq, Sum.inl.injEq] at h
      rw [h.1, ih h.2]
def KeepT (H H' : Hp) : Prop := ∀ a xs, H a = some (.tup xs) → H' a = some (.tup xs)
theorem KeepT.of {H H' : Hp} (s : Same H H') : KeepT H H' := fun a xs e => s _ _ e
theorem KeepT.trans {H H1 H2 : Hp} (a : KeepT H H1) (b : KeepT H1 H2) : KeepT H H2 := fun c xs e => b _ _ (a _ _ e)
theorem KeepT.updT {H : Hp} {a : Addr} {kvs : List (List Key × V)} {o : HO} (h : H a = some (.dT kvs)) : KeepT H (upd H a o) := fun b xs e => by rw [upd_ne (ne_of e h (by intro z; cases z))]; exact e
theorem KeepT.updF {H : Hp} {a : Addr} {kvs : List (List Key × V)} {od : Obj} {o : HO} (h : H a = some (.frz od (.dT kvs))) : KeepT H (upd H a o) := fun b xs e => by rw [upd_ne (ne_of e h (by intro z; cases z))]; exact e
section
variable (r : List Nat → List Int) (ws : List Str)
/-- how a word's last step is told -/
def EVal (H : Hp) (v : V) (u : List Nat) : Prop := (u = [] ∧ v = .non) ∨ ∃ (u' : List Nat) (k : Nat) (t q : Addr), u = u' ++ [k] ∧ v = .ref t ∧ H t = some (.tup [.ref q, .str (ws.getD k "")]) ∧ H q = some (.tup ((r u').map V.int))
def Ents (H : Hp) (kvs : List (List Key × V)) (M : List (List Nat)) : Prop := kvs.length = M.length ∧ ∀ (i : Nat) (k : List Key) (v : V) (u : List Nat), kvs[i]? = some (k, v) → M[i]? = some u → k = keyI (r u) ∧ EVal r ws H v u
def DAt (H : Hp) (d : Addr) (M : List (List Nat)) : Prop := ∃ kvs, H d = some (.dT kvs) ∧ Ents r ws H kvs M
variable {r ws}
theorem EVal.keep {H H' : Hp} {v : V} {u : List Nat} (h : EVal r ws H v u) (k : KeepT H H') : EVal r ws H' v u := by
  rcases h with h | ⟨u', j, t, q, h1, h2, h3, h4⟩
  · exact .inl h
  · exact .inr ⟨u', j, t, q, h1, h2, k _ _ h3, k _ _ h4⟩
theorem Ents.keep {H H' : Hp} {kvs : List (List Key × V)} {M : List (List Nat)} (h : Ents r ws H kvs M) (k : KeepT H H') : Ents r ws H' kvs M := ⟨h.1, fun i j v u e1 e2 => ⟨(h.2 i j v u e1 e2).1, (h.2 i j v u e1 e2).2.keep k⟩⟩
theorem Ents.keys {H : Hp} : ∀ {kvs : List (List Key × V)} {M : List (List Nat)}, Ents r ws H kvs M → kvs.map (·.1) = M.map fun u => keyI (r u)
  | [], [], _ => rfl
  | [], _ :: _, h => by simp [Ents] at h
  | _ :: _, [], h => by simp [Ents] at h
  | (k, v) :: kvs, u :: M, h => by
    rw [List.map_cons, List.map_cons, (h.2 0 k v u rfl rfl).1, Ents.keys (kvs := kvs) (M := M) ⟨by simpa using h.1, fun i k v u e1 e2 => h.2 (i + 1) k v u e1 e2⟩]
theorem Ents.nodup {H : Hp} {kvs : List (List Key × V)} {M : List (List Nat)} (h : Ents r ws H kvs M) (hn : (M.map r).Nodup) : (kvs.map (·.1)).Nodup := by
  rw [h.keys]
  have : (M.map fun u => keyI (r u)) = (M.map r).map keyI := by rw [List.map_map]; rfl
  rw [this]
  exact hn.map keyI fun a b e hab => e (keyI_inj hab)
theorem Ents.no {H : Hp} {kvs : List (List Key × V)} {M : List (List Nat)} {s : List Int} (h : Ents r ws H kvs M) (hs : s ∉ M.map r) : valV kvs (keyI s) = none := by
  refine valV_no fun z => hs ?_
  rw [h.keys] at z
  obtain ⟨u, hu, e⟩ := List.mem_map.mp z
  rw [← keyI_inj e]
  exact List.mem_map_of_mem hu
theorem Ents.at {H : Hp} {kvs : List (List Key × V)} {M : List (List Nat)} (h : Ents r ws H kvs M) (hn : (M.map r).Nodup) {u : List Nat} (hu : u ∈ M) : ∃ v, valV kvs (keyI (r u)) = some v ∧ EVal r ws H v u := by
  obtain ⟨i, hi⟩ := List.getElem?_of_mem hu
  have hl : i < kvs.length := by rw [h.1]; exact (List.getElem?_eq_some_iff.mp hi).1
  obtain ⟨⟨k, v⟩, hk⟩ : ∃ p, kvs[i]? = some p := ⟨_, List.getElem?_eq_getElem hl⟩
  obtain ⟨e, ev⟩ := h.2 i k v u hk hi
  exact ⟨v, by rw [← e]; exact valV_mem (h.nodup hn) (List.mem_of_getElem? hk), ev⟩
theorem Ents.isSome {H : Hp} {kvs : List (List Key × V)} {M : List (List Nat)} (h : Ents r ws H kvs M) (hn : (M.map r).Nodup) (s : List Int) : (valV kvs (keyI s)).isSome = decide (s ∈ M.map r) := by
  by_cases hs : s ∈ M.map r
  · rw [decide_eq_true hs]
    obtain ⟨u, hu, rfl⟩ := List.mem_map.mp hs
    obtain ⟨v, e, _⟩ := h.at hn hu
    rw [e]; rfl
  · rw [decide_eq_false hs, h.no hs]; rfl
theorem Ents.snoc {H : Hp} {kvs : List (List Key × V)} {M : List (List Nat)} {u : List Nat} {v : V} (h : Ents r ws H kvs M) (hv : EVal r ws H v u) : Ents r ws H (kvs ++ [(keyI (r u), v)]) (M ++ [u]) := by
  refine ⟨by simp [h.1], fun i k v' u' e1 e2 => ?_⟩
  by_cases hi : i < kvs.length
  · rw [List.getElem?_append_left hi] at e1
    rw [List.getElem?_append_left (by rw [← h.1]; exact hi)] at e2
    exact h.2 i k v' u' e1 e2
  · rw [List.getElem?_append_right (by omega)] at e1
    rw [List.getElem?_append_right (by rw [← h.1]; omega), ← h.1] at e2
    cases hj : i - kvs.length with
    | zero =>
      rw [hj] at e1 e2
      simp at e1 e2
      obtain ⟨rfl, rfl⟩ := e1
      subst e2
      exact ⟨rfl, hv⟩
    | succ j => rw [hj] at e1; simp at e1
theorem DAt.same {H H' : Hp} {d : Addr} {M : List (List Nat)} (h : DAt r ws H d M) (s : Same H H') : DAt r ws H' d M := by
  obtain ⟨kvs, h1, h2⟩ := h
  exact ⟨kvs, s _ _ h1, h2.keep (.of s)⟩
end
theorem dd_len {r : List Nat → List Int} : ∀ (l acc : List (List Nat)), (dd r acc l).length ≤ acc.length + l.length
  | [], acc => by simp [dd_nil]
  | a :: l, acc => by
    rw [dd_cons]
    refine Nat.le_trans (dd_len l _) ?_
    by_cases e : r a ∈ acc.map r
    · rw [if_pos e, List.length_cons]; omega
    · rw [if_neg e, List.length_append]; simp only [List.length_cons, List.length_nil]; omega
theorem exts_len (w : Nat) : ∀ B : List (List Nat), (exts w B).length = w * B.length
  | [] => by simp [exts]
  | a :: B => by rw [exts_cons, List.length_append, exts_len w B, ext, List.length_map, List.length_range, List.length_cons, Nat.mul_succ]; omega
theorem ext_take {w j : Nat} (u : List Nat) (hj : j < w) : (ext w u).take (j + 1) = (ext w u).take j ++ [u ++ [j]] := by
  rw [List.take_add_one]
  congr 1
  rw [ext, List.getElem?_map, List.getElem?_range hj]; rfl
theorem ext_all {w : Nat} (u : List Nat) : (ext w u).take w = ext w u := List.take_of_length_le (by simp [ext])
/-- tables: tuples of tuples of rows -/
def TabsAt (K : PySem.W.Frag) (H : Hp) (tt : Addr) (ts : List (List (List Int))) : Prop := ∃ as : List Addr, SqT K H tt (as.map V.ref) ∧ as.length = ts.length ∧ ∀ (i : Nat) (a : Addr) (t : List (List Int)), as[i]? = some a → ts[i]? = some t → ∃ bs : List Addr, H a = some (.tup (bs.map V.ref)) ∧ RowsT H bs t
theorem TabsAt.keep {K : PySem.W.Frag} {H H' : Hp} {tt : Addr} {ts : List (List (List Int))} (h : TabsAt K H tt ts) (k : KeepT H H') (kt : ∀ a xs, SqT K H a xs → SqT K H' a xs) : TabsAt K H' tt ts := by
  obtain ⟨as, h1, h2, h3⟩ := h
  refine ⟨as, kt _ _ h1, h2, fun i a t e1 e2 => ?_⟩
  obtain ⟨bs, g1, g2⟩ := h3 i a t e1 e2
  exact ⟨bs, k _ _ g1, g2.1, fun j b q f1 f2 => k _ _ (g2.2 j b q f1 f2)⟩
abbrev sNL : Stmt := top 37
def spNL (K : PySem.W.Frag) : Sp := fun vs H Q _ => ∃ (de tt la me : Addr) (ws : List Str) (ts : List (List (List Int))) (s0 : List Int) (M B : List (List Nat)), vs = [.ref de, .ref tt, .ref la, .ref me] ∧ SqT K H de (ws.map V.str) ∧ TabsAt K H tt ts ∧
  (∀ t ∈ ts, TabOk ws.length t) ∧ StOk ts s0 ∧ DAt (runT ts s0) ws H la B ∧ DAt (runT ts s0) ws H me M ∧ la ≠ me ∧ (M.map (runT ts s0)).Nodup ∧ (∀ u ∈ B, ∀ k ∈ u, k < ws.length) ∧ ws.length * B.length ≤ 100000 ∧ ts.length ≤ 900 ∧
  ∀ (p : Addr) (N : List (List Nat)) (H' : Hp), H p = none → Same H H' → dd (runT ts s0) M (exts ws.length B) = M ++ N → DAt (runT ts s0) ws H' p N → Q (.ref p) H'
end K1
set_option Elab.async false
set_option linter.all false
set_option maxRecDepth 100000
/-! walks.next_layer keeps its promise -/
namespace K1
open PySem L2 LamX
section
variable {P : Program} {w : World} {K : PySem.W.Frag} {mg : Str → Option Value} {base : Heap}
abbrev pNL : List Str := ["deeds", "tables", "layer", "met"]
abbrev nNL : List Str := ["deeds", "tables", "layer", "met", "steps", "states", "index", "deed", "led", "table", "state"]
theorem scNL : FnScope nNL pNL (defScope sNL) := ⟨rfl, rfl, rfl, by decide +kernel, rfl, by decide +kernel, by decide +kernel⟩
theorem ok_nl {f : Addr} {fd : FuncData} (D : Df K mg "next_layer" sNL pNL f fd) (T : Bt2 mg) (hz : mg "zip" = none) : FnOk P w K mg base CX0 1 f fd pNL (spNL K) := by
  refine D.F.ok scNL (fun vs H Q E h => ?_) (fun cdv A outer s H vs Q E hr h => ?_)
  · obtain ⟨de, tt, la, me, ws, ts, s0, M, B, rfl, _⟩ := h
    rfl
  · obtain ⟨de, tt, la, me, ws, ts, s0, M, B, rfl, hde, htt, htab, hs0, hla, hme, nlm, hnd, hB, hsz, h900, k⟩ := h
    have hu := hu_of hr
    refine ⟨_, pss_cons (ps_set (i := 4) scNL.nd rfl (Or.inl rfl) pe_dnewT)
      (pss_cons (ps_lock (ps_for PassesOwn.never rfl (pi_keys (pv 2)) (pg_name (i := 5) scNL.nd rfl (Or.inl rfl))
        (pss_one (ps_for PassesOwn.never rfl (pi_enumT (by rfl) T.enumerate (pa_cons (pv 0) pa_nil)) (pg_tup (by rfl) (pgs_cons (pg_name (i := 6) scNL.nd rfl (Or.inr rfl)) (pgs_cons (pg_name (i := 7) scNL.nd rfl (Or.inl rfl)) pgs_nil)))
          (pss_cons (ps_set (i := 8) scNL.nd rfl (Or.inl rfl) (pe_callTy (r := rTu K) call_tuple_of (by rfl) T.tuple PyProof.Rows.boot_tuple (pa_cons (pe_lc (own := [("table", 9), ("state", 10)]) (g := gTup K 2 (gCons (gName 9) (gCons (gName 10) gNil))) (by rfl) scNL.nd (RZ.pi_zipA (by rfl) hz (pa_cons (pv 1) (pa_cons (pv 5) pa_nil)))
              (blkOk_by (own := [("table", 9), ("state", 10)]) (N := nNL) (sc := defScope sNL) (by decide +kernel)) (fun _ _ _ _ _ => pg_tup (by rfl) (pgs_cons (pg_name (i := 9) scNL.nd rfl (Or.inl rfl)) (pgs_cons (pg_name (i := 10) scNL.nd rfl (Or.inl rfl)) pgs_nil))) (fun _ _ _ _ _ => pts_nil)
              (fun _ _ _ _ _ => pe_ix (r := rIxT K) ix_tup (pe_ix (r := rIxT K) ix_tup (pv 9) (pv 10) (fun _ _ => rfl)) (pv 6) (fun _ _ => rfl))) pa_nil)))
          (pss_one (ps_if (PW.pt (pw_and (pt_cmp (pc_dnotin hu (pv 8) (pv 3))) (pw_and1 (pt_cmp (pc_dnotin hu (pv 8) (pv 4))))))
            (pss_one (ps_dput hu (pv 4) (pv 8) (pe_tup (pa_cons (pv 5) (pa_cons (pv 7) pa_nil))) rfl)) pss_nil)))))))
      (pss_one (ps_ret (pv 4)))), ?_⟩
    intro p hp
    obtain ⟨kB, hlaB, hEB⟩ := id hla
    obtain ⟨kM, hmeM, hEM⟩ := id hme
    have s1 := same_upd (o := .dT []) hp
    have ep1 : upd H p (.dT []) p = some (.dT []) := upd_same
    have npl : p ≠ la := (ne_of_none hlaB hp).symm
    have npm : p ≠ me := (ne_of_none hmeM hp).symm
    generalize hR : runT ts s0 = r at *
    generalize upd H p (.dT []) = H1 at s1 ep1 ⊢
    have hla1 := s1 _ _ hlaB
    have hme1 := s1 _ _ hmeM
    have tup_kx : ∀ {G : Hp}, (∀ b o, b ≠ la → b ≠ p → H1 b = some o → G b = some o) → KeepT H1 G := fun kx a xs e => kx _ _ (ne_of e hla1 (by intro z; cases z)) (ne_of e ep1 (by intro z; cases z)) e
    have sqt_kx : ∀ {G : Hp} {a : Addr} {xs : List V}, (∀ b o, b ≠ la → b ≠ p → H1 b = some o → G b = some o) → SqT K H1 a xs → SqT K G a xs := fun {G a xs} kx h => by
      rcases h with (h | ⟨o, h⟩) | h
      · exact .inl (.inl (tup_kx kx _ _ h))
      · exact .inl (.inr ⟨o, kx _ _ (ne_of h hla1 (by intro z; cases z)) (ne_of h ep1 (by intro z; cases z)) h⟩)
      · exact .inr h
    have hde1 := hde.ext s1
    have htt1 : TabsAt K H1 tt ts := htt.keep (.of s1) fun a xs h => h.ext s1
    have hEM1 := hEM.keep (.of s1)
    have hEB1 := hEB.keep (.of s1)
    have lw : ((ws.map V.str).length) = ws.length := List.length_map _
    refine ⟨la, .dT kB, hla1, trivial, fun od => ?_⟩
    refine ⟨_, rfl, la, od, rfl, .inr ⟨kB, upd_same, for_it (walk_keysT (d := la) (o := od) (kvs := kB)) (fun i σ H' => (∀ b o, b ≠ la → b ≠ p → H1 b = some o → H' b = some o) ∧ H' la = some (.frz od (.dT kB)) ∧
      (∃ kN N, H' p = some (.dT kN) ∧ Ents r ws H' kN N ∧ dd r M (exts ws.length (B.take i)) = M ++ N) ∧ ∃ v5 v6 v7 v8, σ = [some (.ref de), some (.ref tt), some (.ref la), some (.ref me), some (.ref p), v5, v6, v7, v8, none, none]) ?_ (fun i σ H' _ q => q.2.1) ?_ ?_⟩⟩
    · refine ⟨fun b o n1 n2 e => by rw [upd_ne n1]; exact e, upd_same, ⟨[], [], by rw [upd_ne npl]; exact ep1, ⟨rfl, fun i k v u e => by simp at e⟩, by simp [exts, dd_nil]⟩, none, none, none, none, rfl⟩
    · rintro i y σ H2 H2' hi ⟨kx, hla2, ⟨kN, N, hpN, hEN, hdd⟩, v5, v6, v7, v8, rfl⟩ ⟨rfl, key, v, q, hkv, rfl, hq⟩
      have hiB : i < B.length := by rw [← hEB.1]; exact hi
      have eu : B[i]? = some B[i] := List.getElem?_eq_getElem hiB
      have hub := hB _ (List.getElem_mem hiB)
      have etk : B.take (i + 1) = B.take i ++ [B[i]] := by rw [List.take_add_one, eu]; rfl
      generalize B[i] = u at eu hub etk
      obtain ⟨rfl, hev⟩ := hEB1.2 i _ _ _ hkv eu
      rw [keyI_kV] at hq
      have hst : StOk ts (r u) := by rw [← hR]; exact hs0.run htab u hub
      have hgo : ∀ j, r (u ++ [j]) = stepT ts j (r u) := fun j => by rw [← hR]; exact runT_snoc ts s0 u j
      -- the deeds
      refine ⟨_, rfl, de, _, rfl, sqt_kx kx hde1, ?_⟩
      refine for_it (walk_enumT (K := K) (a := de) (xs := ws.map V.str)) (fun j σ H' => (∀ b o, b ≠ la → b ≠ p → H1 b = some o → H' b = some o) ∧ H' la = some (.frz od (.dT kB)) ∧ H' q = some (.tup ((r u).map V.int)) ∧
        (∃ kN N, H' p = some (.dT kN) ∧ Ents r ws H' kN N ∧ dd r M (exts ws.length (B.take i) ++ (ext ws.length u).take j) = M ++ N) ∧ ∃ v6 v7 v8, σ = [some (.ref de), some (.ref tt), some (.ref la), some (.ref me), some (.ref p), some (.ref q), v6, v7, v8, none, none]) ?_ (fun j σ H' _ q => sqt_kx q.1 hde1) ?_ ?_
      · exact ⟨kx, hla2, hq, ⟨kN, N, hpN, hEN, by rw [List.take_zero, List.append_nil]; exact hdd⟩, v6, v7, v8, rfl⟩
      · rintro j y σ H3 H4 hj ⟨kx3, hla3, hq3, ⟨kN3, N3, hpN3, hEN3, hdd3⟩, v6', v7', v8', rfl⟩ ⟨t, x1, x2, rfl, ht, rfl, f1, f2⟩
        cases f1
        replace f2 : (ws.map V.str)[j]? = some x2 := f2
        rw [List.getElem?_map] at f2
        obtain ⟨z, ez, rfl⟩ := Option.map_eq_some_iff.mp f2
        have hjw : j < ws.length := by rw [List.length_map] at hj; exact hj
        have ezd : z = ws.getD j "" := by rw [List.getD_eq_getElem?_getD, ez]; rfl
        have s4 := same_upd (o := .tup [V.int (j : Nat), V.str z]) ht
        refine ⟨t, _, rfl, SqT.of upd_same, rfl, _, _, rfl, _, _, rfl, rfl, ?_⟩
        have kx4 : ∀ b o, b ≠ la → b ≠ p → H1 b = some o → upd H3 t (.tup [V.int (j : Nat), V.str z]) b = some o := fun b o n1 n2 e => s4 _ _ (kx3 b o n1 n2 e)
        have hla4 := s4 _ _ hla3
        have hq4 := s4 _ _ hq3
        have hpN4 := s4 _ _ hpN3
        have hEN4 := hEN3.keep (.of s4)
        generalize upd H3 t (.tup [V.int (j : Nat), V.str z]) = H4 at s4 kx4 hla4 hq4 hpN4 hEN4 ⊢
        obtain ⟨as, hta, hal, hab⟩ := htt1
        have hta4 := sqt_kx kx4 hta
        -- led
        refine ⟨_, rfl, _, rfl, tt, q, _, _, rfl, .inr ⟨hta4, SqT.of hq4, fun D hD => ?_⟩⟩
        have hln : ts.length = min (as.map V.ref).length ((r u).map V.int).length := by rw [List.length_map, List.length_map, hal, hst.1]; simp
        refine lc_it (walk_zipT hln) (fun m H' => Same H4 H' ∧ H' D = some (.lst (((stepT ts j (r u)).take m).map V.int))) ?_ ?_ ?_ ?_
        · exact ⟨same_upd hD, upd_same⟩
        · exact fun m H' _ pp => ⟨hta4.ext pp.1, (SqT.of hq4).ext pp.1⟩
        · rintro m y H5 H6 hm ⟨s5, hD5⟩ ⟨t5, x1, x2, rfl, ht5, rfl, e1, e2⟩
          replace e1 : (as.map V.ref)[m]? = some x1 := e1
          replace e2 : ((r u).map V.int)[m]? = some x2 := e2
          rw [List.getElem?_map] at e1 e2
          obtain ⟨a, ea, rfl⟩ := Option.map_eq_some_iff.mp e1
          obtain ⟨vi, evi, rfl⟩ := Option.map_eq_some_iff.mp e2
          have et : ts[m]? = some ts[m] := List.getElem?_eq_getElem hm
          have hT := htab _ (List.getElem_mem hm)
          generalize ts[m] = tb at et hT
          obtain ⟨bs, ha1, hrow⟩ := hab m a tb ea et
          obtain ⟨v0, v1⟩ := hst.2 m tb vi et evi
          have s56 := same_upd (o := .tup [V.ref a, V.int vi]) ht5
          have s46 := s5.trans s56
          have kx6 : KeepT H1 (upd H5 t5 (.tup [V.ref a, V.int vi])) := (tup_kx kx4).trans (.of s46)
          have hvl : vi.toNat < tb.length := by omega
          have erow := getD_get ([] : List Int) hvl
          obtain ⟨hrl, _⟩ := hT _ (List.mem_of_getElem? erow)
          have hbl : bs.length = tb.length := hrow.1
          obtain ⟨ab, eab, atb⟩ := at_ref (as := bs) (k := vi) v0 (by omega)
          have hab6 := kx6 _ _ (hrow.2 _ _ _ eab erow)
          have el : (stepT ts j (r u))[m]? = some ((tb.getD vi.toNat []).getD j 0) := by
            rw [stepT, List.getElem?_zipWith, et, evi]
          refine ⟨t5, _, rfl, SqT.of upd_same, rfl, _, _, rfl, _, _, rfl, rfl, rfl, _, rfl, _, rfl, a, _, _, _, rfl, rfl, SqT.of (kx6 _ _ ha1), atb, _, rfl, ab, _, _, _, rfl, rfl, SqT.of hab6, at_int (k := (j : Nat)) (by omega) (by omega), ?_⟩
          refine ⟨_, s56 _ _ hD5, ?_, ?_, ?_⟩
          · rw [List.length_map, List.length_take]
            exact small1000 (by omega)
          · exact fun c o e => by rw [upd_ne (ne_of_none e hD)]; exact s56 _ _ (s5 c o e)
          · rw [upd_same, List.take_add_one, el, List.map_append]; rfl
        · rintro H5 ⟨s5, hD5⟩
          have hsl : (stepT ts j (r u)).length = ts.length := by simp [stepT, hst.1]
          rw [List.take_of_length_le (by omega)] at hD5
          refine ⟨D, _, rfl, .inl ⟨SqL.of hD5, fun p8 hp8 => ?_⟩⟩
          have e8 : upd H5 p8 (.tup ((stepT ts j (r u)).map V.int)) p8 = some (.tup ((keyI (stepT ts j (r u))).map kV)) := by rw [keyI_kV]; exact upd_same
          have s8 := s5.trans (same_upd (o := .tup ((stepT ts j (r u)).map V.int)) hp8)
          generalize upd H5 p8 (.tup ((stepT ts j (r u)).map V.int)) = H8 at e8 s8 ⊢
          have kx8 : ∀ b o, b ≠ la → b ≠ p → H1 b = some o → H8 b = some o := fun b o n1 n2 e => s8 _ _ (kx4 b o n1 n2 e)
          have hme8 := kx8 _ _ nlm.symm npm.symm hme1
          have hla8 := s8 _ _ hla4
          have hq8 := s8 _ _ hq4
          have hpN8 := s8 _ _ hpN4
          have hEN8 := hEN4.keep (.of s8)
          have hnd3 : ((M ++ N3).map r).Nodup := by rw [← hdd3]; exact dd_nodup hnd
          have hndN : (N3.map r).Nodup := by rw [List.map_append] at hnd3; exact (List.nodup_append.mp hnd3).2.1
          have edd : dd r M (exts ws.length (B.take i) ++ (ext ws.length u).take (j + 1)) = dd r (M ++ N3) [u ++ [j]] := by
            rw [ext_take u hjw, ← List.append_assoc, dd_app, hdd3]
          have old : stepT ts j (r u) ∈ (M ++ N3).map r → dd r M (exts ws.length (B.take i) ++ (ext ws.length u).take (j + 1)) = M ++ N3 := fun hm => by
            rw [edd]; exact dd_noop fun v hv => by rw [List.mem_singleton.mp hv, hgo]; exact hm
          refine ⟨_, rfl, _, rfl, me, _, rfl, DGet.t hme8 e8, _, rfl, ?_⟩
          rw [hEM1.isSome hnd]
          refine ite2 (fun hno => ?_) (fun hyes => ?_)
          · have hnM : stepT ts j (r u) ∉ M.map r := by simpa using hno
            refine ⟨_, rfl, _, rfl, p, _, rfl, DGet.t hpN8 e8, _, rfl, ?_⟩
            rw [hEN8.isSome hndN]
            refine ite2 (fun hno2 => ?_) (fun hyes => ?_)
            · have hnN : stepT ts j (r u) ∉ N3.map r := by simpa using hno2
              refine ⟨_, rfl, _, rfl, Nat.le_of_ble_eq_true rfl, fun tv htv => ⟨_, rfl, _, rfl, p, _, rfl, DPut.t (same_upd htv _ _ hpN8) (same_upd htv _ _ e8) ?_, ?_⟩⟩
              · have h1 := dd_len (r := r) (exts ws.length (B.take i) ++ (ext ws.length u).take j) M
                rw [hdd3, List.length_append, List.length_append, exts_len, List.length_take, List.length_take] at h1
                have h2 : ws.length * min i B.length ≤ ws.length * B.length := Nat.mul_le_mul_left _ (Nat.min_le_right _ _)
                have h3 := hEN3.1
                have h4 : ws.length ≤ ws.length * B.length := Nat.le_mul_of_pos_right _ (by omega)
                have h5 : min j (ext ws.length u).length ≤ j := Nat.min_le_left _ _
                rw [sizeLine_eq]; omega
              have s9 := same_upd (o := .tup [V.ref q, V.str z]) htv
              have e9 : upd H8 tv (.tup [V.ref q, V.str z]) tv = some (.tup [V.ref q, V.str z]) := upd_same
              have nev : valV kN3 (keyI (stepT ts j (r u))) = none := hEN8.no hnN
              rw [putK_new _ nev]
              have hpN9 := s9 _ _ hpN8
              have hEN9 := hEN8.keep (.of s9)
              have hq9 := s9 _ _ hq8
              have hla9 := s9 _ _ hla8
              generalize upd H8 tv (.tup [V.ref q, V.str z]) = H9 at s9 e9 hpN9 hEN9 hq9 hla9 ⊢
              have hEN10 := (hEN9.snoc (u := u ++ [j]) (v := .ref tv) (.inr ⟨u, j, tv, q, rfl, rfl, by rw [← ezd]; exact e9, hq9⟩)).keep (KeepT.updT (o := .dT (kN3 ++ [(keyI (r (u ++ [j])), V.ref tv)])) hpN9)
              rw [hgo] at hEN10
              refine ⟨fun b o n1 n2 e => by rw [upd_ne n2]; exact s9 _ _ (kx8 b o n1 n2 e), by rw [upd_ne npl.symm]; exact hla9, KeepT.updT hpN9 _ _ hq9, ⟨_, N3 ++ [u ++ [j]], upd_same, hEN10, ?_⟩, _, _, _, rfl⟩
              rw [edd, dd_cons, if_neg, dd_nil, List.append_assoc]
              rw [hgo, List.map_append, List.mem_append]
              exact fun z => z.elim hnM hnN
            · have hN : stepT ts j (r u) ∈ N3.map r := by simpa using hyes
              exact ⟨kx8, hla8, hq8, ⟨kN3, N3, hpN8, hEN8, old (by rw [List.map_append]; exact List.mem_append_right _ hN)⟩, _, _, _, rfl⟩
          · have hM : stepT ts j (r u) ∈ M.map r := by simpa using hyes
            exact ⟨kx8, hla8, hq8, ⟨kN3, N3, hpN8, hEN8, old (by rw [List.map_append]; exact List.mem_append_left _ hM)⟩, _, _, _, rfl⟩
      · rintro σ H3 ⟨kx3, hla3, hq3, ⟨kN3, N3, hpN3, hEN3, hdd3⟩, v6', v7', v8', rfl⟩
        rw [lw, ext_all] at hdd3
        exact ⟨kx3, hla3, ⟨kN3, N3, hpN3, hEN3, by rw [etk, exts_app]; simpa [exts] using hdd3⟩, _, v6', v7', v8', rfl⟩
    · rintro σ H2 ⟨kx, hla2, ⟨kN, N, hpN, hEN, hdd⟩, v5, v6, v7, v8, rfl⟩
      rw [hEB.1, List.take_length] at hdd
      refine ⟨hla2, _, rfl, k p N _ hp (fun b o e => ?_) hdd ⟨kN, by rw [upd_ne npl]; exact hpN, hEN.keep (KeepT.updF hla2)⟩⟩
      by_cases hb : b = la
      · subst hb
        rw [hlaB] at e; cases e
        exact upd_same
      · rw [upd_ne hb]
        exact kx b o hb (ne_of_none e hp) (s1 _ _ e)
end
end K1
set_option Elab.async false
set_option linter.all false
set_option maxRecDepth 100000
/-! walks.row_to -/
namespace L2
open PySem PySem.Spec PyProof.Rows
/-- a while by a number that the invariant tells -/
theorem while_ix {c : TT} {tb : TS} {D : Ends} {σ : St} {H : Hp} (Pv : Nat → St → Hp → Prop) (m0 : Nat) (h0 : Pv m0 σ H)
    (hs : ∀ m σ H, Pv m σ H → c σ H fun b H1 => if b = true then tb { D with nx := fun σ' H' => ∃ m', m' < m ∧ Pv m' σ' H', ct := fun σ' H' => ∃ m', m' < m ∧ Pv m' σ' H', bk := D.nx } σ H1 else D.nx σ H1)
    (mono : ∀ σ H Q Q', (∀ b H1, Q b H1 → Q' b H1) → c σ H Q → c σ H Q') : tWhile c tb D σ H := by
  refine ⟨Pv, ⟨_, h0⟩, fun m σ H p => ?_⟩
  refine mono σ H _ _ (fun b H1 q => ?_) (hs m σ H p)
  cases b with
  | true => exact ⟨_, fun σ' H' z => z, q⟩
  | false => exact q
end L2
namespace K1
open PySem L2 LamX
abbrev sRT : Stmt := top 39
def names (ws : List Str) (u : List Nat) : List V := u.map fun k => V.str (ws.getD k "")
def spRT (K : PySem.W.Frag) : Sp := fun vs H Q _ => ∃ (fo q : Addr) (r : List Nat → List Int) (ws : List Str) (M : List (List Nat)) (u : List Nat), vs = [.ref fo, .ref q] ∧ DAt r ws H fo M ∧ (M.map r).Nodup ∧ (∀ u k, u ++ [k] ∈ M → u ∈ M) ∧ u ∈ M ∧ H q = some (.tup ((r u).map V.int)) ∧ u.length ≤ 100000 ∧
  ∀ p H', H p = none → Same H H' → H' p = some (.tup (names ws u)) → Q (.ref p) H'
section
variable {P : Program} {w : World} {K : PySem.W.Frag} {mg : Str → Option Value} {base : Heap}
abbrev pRT : List Str := ["found", "states"]
abbrev nRT : List Str := ["found", "states", "deeds", "step"]
theorem scRT : FnScope nRT pRT (defScope sRT) := ⟨rfl, rfl, rfl, by decide +kernel, rfl, by decide +kernel, by decide +kernel⟩
theorem ok_rt {f : Addr} {fd : FuncData} (D : Df K mg "row_to" sRT pRT f fd) (T : Bt2 mg) : FnOk P w K mg base CX0 1 f fd pRT (spRT K) := by
  refine D.F.ok scRT (fun vs H Q E h => ?_) (fun cdv A outer s H vs Q E hr h => ?_)
  · obtain ⟨fo, q, r, ws, M, u, rfl, _⟩ := h
    rfl
  · obtain ⟨fo, q, r, ws, M, u, rfl, ⟨kv, hfo, hE⟩, hnd, hpre, hu', hq, hlen, k⟩ := h
    have hu := hu_of hr
    refine ⟨_, pss_cons (ps_set (i := 2) scRT.nd rfl (Or.inl rfl) (pe_lst pa_nil))
      (pss_cons (ps_set (i := 3) scRT.nd rfl (Or.inl rfl) (pe_dget hu (pv 0) (pv 1) (fun _ _ => rfl)))
      (pss_cons (ps_while PassesOwn.never (pt_cmpR op_notN (pv 3) pe_non (nomark _))
        (pss_cons (ps_expr (pe_bm PySem.F.plainAttrs_list PySem.F.slot_list_append PySem.F.type_list_append mt_append (pv 2) (pa_cons (pe_ix (r := rIxT K) ix_tup (pv 3) pe_int (fun _ _ => rfl)) pa_nil)))
        (pss_one (ps_set (i := 3) scRT.nd rfl (Or.inl rfl) (pe_dget hu (pv 0) (pe_ix (r := rIxT K) ix_tup (pv 3) pe_int (fun _ _ => rfl)) (fun _ _ => rfl))))))
      (pss_one (ps_ret (pe_callTy (r := rTu K) call_tuple_of (by rfl) T.tuple PyProof.Rows.boot_tuple (pa_cons (pe_revL (pv 2)) pa_nil)))))), ?_⟩
    refine ⟨Nat.zero_le _, fun l hl => ?_⟩
    have s1 := same_upd (o := .lst []) hl
    have el1 : upd H l (.lst []) l = some (.lst []) := upd_same
    generalize upd H l (.lst []) = H1 at s1 el1 ⊢
    obtain ⟨v0, ev0, hv0⟩ := hE.at hnd hu'
    refine ⟨_, rfl, _, rfl, fo, v0, rfl, by rw [← ev0]; exact DGet.t (s1 _ _ hfo) (by rw [keyI_kV]; exact s1 _ _ hq), ?_⟩
    refine while_ix (fun m σ H' => ∃ (u1 u2 : List Nat) (v : V), u1.length = m ∧ u = u1 ++ u2 ∧ u1 ∈ M ∧ EVal r ws H v u1 ∧ Same H H' ∧ H' l = some (.lst (names ws u2.reverse)) ∧ σ = [some (.ref fo), some (.ref q), some (.ref l), some v]) u.length ?_ ?_ ?_
    · exact ⟨u, [], v0, rfl, (List.append_nil u).symm, hu', hv0, s1, el1, rfl⟩
    · rintro m σ H2 ⟨u1, u2, v, rfl, eu, hm1, hv, s2, el2, rfl⟩
      refine ⟨_, rfl, rfl, _, rfl, ?_⟩
      rcases hv with ⟨rfl, rfl⟩ | ⟨u', j, t, q', rfl, rfl, ht, hq'⟩
      · refine iteF ?_
        refine ⟨_, rfl, l, _, rfl, SqL.of el2, fun p1 hp1 => ?_⟩
        have e3 : upd H2 p1 (.lst (names ws u2.reverse).reverse) p1 = some (.lst (names ws u2.reverse).reverse) := upd_same
        have s3 := s2.trans (same_upd (o := .lst (names ws u2.reverse).reverse) hp1)
        generalize upd H2 p1 (.lst (names ws u2.reverse).reverse) = H3 at e3 s3 ⊢
        refine ⟨p1, _, rfl, .inl ⟨SqL.of e3, fun p2 hp2 => ?_⟩⟩
        refine k p2 _ (s3.free hp2) (s3.trans (same_upd hp2)) ?_
        rw [upd_same, eu, names, names, List.map_reverse, List.reverse_reverse]; rfl
      · refine iteT ?_
        have hll : (names ws u2.reverse).length < sizeLine := by
          have h1 := congrArg List.length eu
          rw [List.length_append, List.length_append] at h1
          rw [names, List.length_map, List.length_reverse, sizeLine_eq]; omega
        refine ⟨_, rfl, .inl ⟨rfl, _, SqL.of el2⟩, _, rfl, t, _, _, _, rfl, rfl, SqT.of (s2 _ _ ht), atI_nat (j := 1) rfl, l, _, _, rfl, rfl, el2, hll, ?_⟩
        have s3 : Same H (upd H2 l (.lst (names ws u2.reverse ++ [V.str (ws.getD j "")]))) := fun b o e => by rw [upd_ne (ne_of_none e hl)]; exact s2 _ _ e
        have el3 : upd H2 l (.lst (names ws u2.reverse ++ [V.str (ws.getD j "")])) l = some (.lst (names ws (j :: u2).reverse)) := by
          rw [upd_same, names, names, List.reverse_cons, List.map_append]; rfl
        generalize upd H2 l (.lst (names ws u2.reverse ++ [V.str (ws.getD j "")])) = H3 at s3 el3 ⊢
        have hm' := hpre u' j hm1
        obtain ⟨v', ev', hv'⟩ := hE.at hnd hm'
        refine ⟨_, rfl, _, rfl, t, _, _, _, rfl, rfl, SqT.of (s3 _ _ ht), atI_nat (j := 0) rfl, fo, v', rfl, by rw [← ev']; exact DGet.t (s3 _ _ hfo) (by rw [keyI_kV]; exact s3 _ _ hq'), ?_⟩
        exact ⟨u'.length, by rw [List.length_append]; exact Nat.lt_succ_self _, u', j :: u2, v', rfl, by rw [eu, List.append_assoc]; rfl, hm', hv', s3, el3, rfl⟩
    · rintro σ H Q Q' hQ ⟨v, e, h1, c, h2, h3⟩
      exact ⟨v, e, h1, c, h2, hQ _ _ h3⟩
end
end K1
set_option Elab.async false
set_option linter.all false
set_option maxRecDepth 100000
/-! machines.first_parting -/
namespace K1
open PySem L2 LamX
abbrev sFP : Stmt := top 44
theorem nodup_sub_len {α : Type} [DecidableEq α] : ∀ (l m : List α), l.Nodup → (∀ x ∈ l, x ∈ m) → l.length ≤ m.length
  | [], _, _, _ => Nat.zero_le _
  | a :: l, m, hn, hs => by
    rw [List.nodup_cons] at hn
    have ha := hs a (List.mem_cons_self ..)
    have h1 := nodup_sub_len l (m.erase a) hn.2 fun x hx => (List.mem_erase_of_ne (fun e => hn.1 (by rw [← e]; exact hx))).mpr (hs x (List.mem_cons_of_mem _ hx))
    rw [List.length_erase_of_mem ha] at h1
    have := List.length_pos_of_mem ha
    rw [List.length_cons]; omega
/-- all tuples of states -/
def prodL : List (List (List Int)) → List (List Int)
  | [] => [[]]
  | t :: ts => (List.range t.length).flatMap fun (x : Nat) => (prodL ts).map fun q => (x : Int) :: q
def prodN : List (List (List Int)) → Nat
  | [] => 1
  | t :: ts => t.length * prodN ts
theorem prodL_len : ∀ ts, (prodL ts).length = prodN ts
  | [] => rfl
  | t :: ts => by
    rw [prodL, prodN, ← prodL_len ts, List.length_flatMap]
    simp [List.map_const']
theorem prodL_mem : ∀ (ts : List (List (List Int))) (vs : List Int), StOk ts vs → vs ∈ prodL ts
  | [], vs, h => by
    have : vs = [] := List.length_eq_zero_iff.mp h.1
    rw [this]; exact List.mem_singleton.mpr rfl
  | t :: ts, [], h => by have := h.1; simp at this
  | t :: ts, v :: vs, h => by
    obtain ⟨h0, h1⟩ := h.2 0 t v rfl rfl
    rw [prodL, List.mem_flatMap]
    refine ⟨v.toNat, List.mem_range.mpr (by omega), List.mem_map.mpr ⟨vs, prodL_mem ts vs ⟨by simpa using h.1, fun i t' v' e1 e2 => h.2 (i + 1) t' v' e1 e2⟩, ?_⟩⟩
    rw [Int.toNat_of_nonneg h0]
theorem met_len {w : Nat} {ts : List (List (List Int))} {s0 : List Int} {M : List (List Nat)} (h : StOk ts s0) (ht : ∀ t ∈ ts, TabOk w t) (hn : (M.map (runT ts s0)).Nodup) (hl : ∀ u ∈ M, ∀ k ∈ u, k < w) : M.length ≤ prodN ts := by
  rw [← prodL_len, ← List.length_map (f := runT ts s0)]
  refine nodup_sub_len _ _ hn fun x hx => ?_
  obtain ⟨u, hu, rfl⟩ := List.mem_map.mp hx
  exact prodL_mem _ _ (h.run ht u (hl u hu))
/-- the two tell different things -/
def dif (s1 s2 : List Str) (vs : List Int) : Bool := decide (s1.getD (vs.getD 0 0).toNat "" ≠ s2.getD (vs.getD 1 0).toNat "")
theorem Parts.tab {ws : List Str} {rs : List (List Int)} {ss : List Str} {st : Int} (h : Parts ws rs ss st) : TabOk ws.length rs := h.row
/-- the first word, of all, for which two states are told apart; none -/
def FirstW (w : Nat) (r : List Nat → List Int) (s1 s2 : List Str) (u : List Nat) : Prop := (allU w u.length).find? (fun v => dif s1 s2 (r v)) = some u
def NoW (w : Nat) (r : List Nat → List Int) (s1 s2 : List Str) : Prop := ∀ n, (allU w n).find? (fun v => dif s1 s2 (r v)) = none
theorem MachAt.same {K : PySem.W.Frag} {C : Addr} {H H' : Hp} {x : Addr} {ws : List Str} {rs : List (List Int)} {ss : List Str} {st : Int} (h : MachAt K C H x ws rs ss st) (s : Same H H') : MachAt K C H' x ws rs ss st := by
  obtain ⟨dx, t, r, l, as, h1, h2, h3, h4, h5⟩ := h
  exact ⟨dx, t, r, l, as, s _ _ h1, h2.same s, s _ _ h3, h4.same s, s _ _ h5⟩
def spFP (K : PySem.W.Frag) (C : Addr) : Sp := fun vs H Q _ => ∃ (x y : Addr) (a b : Int) (ws : List Str) (rs1 : List (List Int)) (ss1 : List Str) (st1 : Int) (rs2 : List (List Int)) (ss2 : List Str) (st2 : Int),
  vs = [.ref x, .int a, .ref y, .int b] ∧ MachAt K C H x ws rs1 ss1 st1 ∧ MachAt K C H y ws rs2 ss2 st2 ∧ Parts ws rs1 ss1 st1 ∧ Parts ws rs2 ss2 st2 ∧ 0 ≤ a ∧ a < (rs1.length : Int) ∧ 0 ≤ b ∧ b < (rs2.length : Int) ∧
  (∀ u p H', FirstW ws.length (runT [rs1, rs2] [a, b]) ss1 ss2 u → H p = none → Same H H' → H' p = some (.tup (names ws u)) → Q (.ref p) H') ∧
  (∀ H', NoW ws.length (runT [rs1, rs2] [a, b]) ss1 ss2 → Same H H' → Q .non H')
section
variable {P : Program} {w : World} {K : PySem.W.Frag} {mg : Str → Option Value} {base : Heap}
abbrev pFP : List Str := ["one", "a", "other", "b"]
abbrev nFP : List Str := ["one", "a", "other", "b", "met", "layer", "mine", "theirs", "pair", "step"]
theorem scFP : FnScope nFP pFP (defScope sFP) := ⟨rfl, rfl, rfl, by decide +kernel, rfl, by decide +kernel, by decide +kernel⟩
theorem ok_fp {C f fN fR : Addr} {fd fdN fdR : FuncData} (D : Df K mg "first_parting" sFP pFP f fd) (DN : Df K mg "next_layer" sNL pNL fN fdN) (DR : Df K mg "row_to" sRT pRT fR fdR) (M : Tm K mg C) (T : Bt2 mg) (hz : mg "zip" = none) : FnOk P w K mg base CX0 2 f fd pFP (spFP K C) := by
  have GN : FnOk P w K mg base CX0 1 fN fdN pNL (spNL K) := ok_nl DN T hz
  have GR : FnOk P w K mg base CX0 1 fR fdR pRT (spRT K) := ok_rt DR T
  refine D.F.ok scFP (fun vs H Q E h => ?_) (fun cdv A outer s H vs Q E hr h => ?_)
  · obtain ⟨x, y, a, b, ws, rs1, ss1, st1, rs2, ss2, st2, rfl, _⟩ := h
    rfl
  · obtain ⟨x, y, a, b, ws, rs1, ss1, st1, rs2, ss2, st2, rfl, mx, my, px, py, a0, a1, b0, b1, kS, kN⟩ := h
    have hu := hu_of hr
    refine ⟨_, pss_cons (ps_set (i := 4) scFP.nd rfl (Or.inl rfl) (pe_disp1T hu (pe_tup (pa_cons (pv 1) (pa_cons (pv 3) pa_nil))) pe_non))
      (pss_cons (ps_set (i := 5) scFP.nd rfl (Or.inl rfl) (pe_disp1T hu (pe_tup (pa_cons (pv 1) (pa_cons (pv 3) pa_nil))) pe_non))
      (pss_cons (ps_while PassesOwn.never (pt_cmpR op_gt (pe_callB call_len_dT (by rfl) T.len PySem.boot_len (pa_cons (pv 5) pa_nil)) pe_int (nomark _))
        (pss_cons (ps_lock (ps_for PassesOwn.never rfl (pi_keys (pv 5)) (pg_tup (by rfl) (pgs_cons (pg_name (i := 6) scFP.nd rfl (Or.inl rfl)) (pgs_cons (pg_name (i := 7) scFP.nd rfl (Or.inl rfl)) pgs_nil)))
          (pss_one (ps_if (pt_cmpR op_ne (pe_ix (r := rIxT K) ix_tup (pe_fld (pv 0) rfl) (pv 6) (fun _ _ => rfl)) (pe_ix (r := rIxT K) ix_tup (pe_fld (pv 2) rfl) (pv 7) (fun _ _ => rfl)) (nomark _))
            (pss_one (ps_ret (pe_call GR hr rfl DR.g DR.F.kp DR.b .nil pass0 (pa_cons (pv 4) (pa_cons (pe_tup (pa_cons (pv 6) (pa_cons (pv 7) pa_nil))) pa_nil))))) pss_nil))))
        (pss_cons (ps_set (i := 5) scFP.nd rfl (Or.inl rfl) (pe_call GN hr rfl DN.g DN.F.kp DN.b .nil pass0 (pa_cons (pe_fld (pv 0) rfl) (pa_cons (pe_tup (pa_cons (pe_fld (pv 0) rfl) (pa_cons (pe_fld (pv 2) rfl) pa_nil))) (pa_cons (pv 5) (pa_cons (pv 4) pa_nil))))))
        (pss_one (ps_lock (ps_for PassesOwn.never rfl (pi_itemsT (pv 5)) (pg_tup (by rfl) (pgs_cons (pg_name (i := 8) scFP.nd rfl (Or.inl rfl)) (pgs_cons (pg_name (i := 9) scFP.nd rfl (Or.inl rfl)) pgs_nil)))
          (pss_one (ps_dput hu (pv 4) (pv 8) (pv 9) rfl))))))))
      (pss_one (ps_ret pe_non)))), ?_⟩
    have w6 := px.gd.len.2
    have hs0 : StOk [rs1, rs2] [a, b] := ⟨rfl, fun i t v e1 e2 => by
      match i, e1, e2 with
      | 0, e1, e2 => cases e1; cases e2; exact ⟨a0, a1⟩
      | 1, e1, e2 => cases e1; cases e2; exact ⟨b0, b1⟩
      | _ + 2, e1, _ => simp at e1⟩
    have htab : ∀ t ∈ [rs1, rs2], TabOk ws.length t := fun t ht => by
      simp only [List.mem_cons, List.not_mem_nil, or_false] at ht
      rcases ht with rfl | rfl
      · exact px.tab
      · exact py.tab
    have hpn : prodN [rs1, rs2] ≤ 3600 := by
      show rs1.length * (rs2.length * 1) ≤ 3600
      rw [Nat.mul_one]
      have h1 := px.many.2
      have h2 := py.many.2
      have := Nat.mul_le_mul h1 h2
      omega
    have r0 : runT [rs1, rs2] [a, b] [] = [a, b] := rfl
    have hrc := runT_c [rs1, rs2] [a, b]
    have hrun : ∀ u, (∀ k ∈ u, k < ws.length) → StOk [rs1, rs2] (runT [rs1, rs2] [a, b] u) := fun u => hs0.run htab u
    have hml : ∀ M : List (List Nat), (M.map (runT [rs1, rs2] [a, b])).Nodup → (∀ u ∈ M, ∀ k ∈ u, k < ws.length) → M.length ≤ prodN [rs1, rs2] := fun M => met_len hs0 htab
    generalize hR : runT [rs1, rs2] [a, b] = r at r0 hrc hrun hml kS kN
    have hpc : ∀ u v, r u = r v → dif ss1 ss2 (r u) = dif ss1 ss2 (r v) := fun u v e => by rw [e]
    have kvab : (keyI [a, b]).map kV = [V.int a, V.int b] := rfl
    have mk1 : ∀ {G : Hp} {p t : Addr}, G p = none → upd G p (.dT []) t = none → Same G (upd (upd (upd G p (.dT [])) t (.tup [V.int a, V.int b])) p (.dT [(keyI [a, b], V.non)])) ∧ DAt r ws (upd (upd (upd G p (.dT [])) t (.tup [V.int a, V.int b])) p (.dT [(keyI [a, b], V.non)])) p [[]] := fun {G p t} hp ht => by
      refine ⟨fun c o e => ?_, _, upd_same, rfl, fun i k v u e1 e2 => ?_⟩
      · rw [upd_ne (ne_of_none e hp)]
        exact same_upd ht _ _ (same_upd hp _ _ e)
      · match i, e1, e2 with
        | 0, e1, e2 => cases e1; cases e2; exact ⟨by rw [r0], .inl ⟨rfl, rfl⟩⟩
        | _ + 1, e1, _ => simp at e1
    -- met
    intro me hme
    refine ⟨_, rfl, _, rfl, Nat.le_of_ble_eq_true rfl, fun t1 ht1 => ?_⟩
    have nt1 : me ≠ t1 := ne_of_none upd_same ht1
    refine ⟨by rw [upd_ne nt1]; exact upd_same, t1, keyI [a, b], .non, rfl, upd_same, ?_⟩
    obtain ⟨s1, dm1⟩ := mk1 hme ht1
    generalize upd (upd (upd H me (.dT [])) t1 (.tup [V.int a, V.int b])) me (.dT [(keyI [a, b], V.non)]) = H1 at s1 dm1 ⊢
    -- layer
    intro la hla
    refine ⟨_, rfl, _, rfl, Nat.le_of_ble_eq_true rfl, fun t2 ht2 => ?_⟩
    have nt2 : la ≠ t2 := ne_of_none upd_same ht2
    refine ⟨by rw [upd_ne nt2]; exact upd_same, t2, keyI [a, b], .non, rfl, upd_same, ?_⟩
    obtain ⟨s2, dl2⟩ := mk1 hla ht2
    have nml : me ≠ la := by
      obtain ⟨kv, e, _⟩ := id dm1
      exact ne_of_none e hla
    have dm2 := dm1.same s2
    have s02 := s1.trans s2
    generalize upd (upd (upd H1 la (.dT [])) t2 (.tup [V.int a, V.int b])) la (.dT [(keyI [a, b], V.non)]) = H2 at s2 dl2 dm2 s02 ⊢
    -- the loop
    refine while_ix (fun m σ H' => ∃ (n : Nat) (M0 B : List (List Nat)) (la : Addr) (v6 v7 v8 v9 : Option V), bfs r ws.length n = (M0 ++ B, B) ∧ M0.find? (fun v => dif ss1 ss2 (r v)) = none ∧ Same H H' ∧ DAt r ws H' me (M0 ++ B) ∧ DAt r ws H' la B ∧ me ≠ la ∧ (B ≠ [] → n + 1 ≤ (M0 ++ B).length) ∧ m = 2 * (prodN [rs1, rs2] - (M0 ++ B).length) + (if B = [] then 0 else 1) ∧
      σ = [some (.ref x), some (.int a), some (.ref y), some (.int b), some (.ref me), some (.ref la), v6, v7, v8, v9]) (2 * (prodN [rs1, rs2] - 1) + 1) ?_ ?_ ?_
    · exact ⟨0, [], [[]], la, none, none, none, none, rfl, rfl, s02, dm2, dl2, nml, fun _ => Nat.le_refl _, rfl, rfl⟩
    · rintro m σ H3 ⟨n, M0, B, la, v6, v7, v8, v9, eb, hf0, s3, dm, dl, nml, hnl, rfl, rfl⟩
      obtain ⟨kM, hme3, hEM⟩ := id dm
      obtain ⟨kB, hla3, hEB⟩ := id dl
      have I := bfs_ok hrc ws.length n
      rw [eb] at I
      have hBM : ∀ u ∈ B, u ∈ M0 ++ B := fun u hu => List.mem_append_right _ hu
      have hMl : (M0 ++ B).length ≤ prodN [rs1, rs2] := hml _ I.nd I.lt
      refine ⟨_, rfl, la, kB, rfl, hla3, _, _, rfl, rfl, _, rfl, ?_⟩
      refine ite2 (fun hgt => ?_) (fun hgt => ?_)
      · have hB0 : B ≠ [] := fun e => by
          have h1 := hEB.1
          rw [e] at h1
          have h2 := of_decide_eq_true hgt
          simp at h1
          rw [h1] at h2
          exact absurd h2 (by decide)
        have hn1 := hnl hB0
        -- looked at
        refine ⟨la, .dT kB, hla3, trivial, fun od => ?_⟩
        have kf : KeepT H3 (upd H3 la (.frz od (.dT kB))) := KeepT.updT hla3
        have ef : upd H3 la (.frz od (.dT kB)) la = some (.frz od (.dT kB)) := upd_same
        have kx : ∀ b o, b ≠ la → H3 b = some o → upd H3 la (.frz od (.dT kB)) b = some o := fun b o nb e => by rw [upd_ne nb]; exact e
        have back : Same H3 (upd (upd H3 la (.frz od (.dT kB))) la (.dT kB)) := fun b o e => by
          by_cases hb : b = la
          · subst hb; rw [hla3] at e; cases e; exact upd_same
          · rw [upd_ne hb, upd_ne hb]; exact e
        have fzn : ∀ b, H3 b = none → upd H3 la (.frz od (.dT kB)) b = none := fun b e => by
          rw [upd_ne (fun z => by rw [z, hla3] at e; cases e)]; exact e
        have nzf : ∀ b, upd H3 la (.frz od (.dT kB)) b = none → H3 b = none := fun b e => by
          by_cases hb : b = la
          · rw [hb, ef] at e; cases e
          · rw [upd_ne hb] at e; exact e
        generalize upd H3 la (.frz od (.dT kB)) = Hf at kf ef kx back fzn nzf ⊢
        refine ⟨_, rfl, la, od, rfl, .inr ⟨kB, ef, for_it (walk_keysT (d := la) (o := od) (kvs := kB)) (fun i σ H' => H' = Hf ∧ (B.take i).find? (fun v => dif ss1 ss2 (r v)) = none ∧ ∃ v6 v7, σ = [some (.ref x), some (.int a), some (.ref y), some (.int b), some (.ref me), some (.ref la), v6, v7, v8, v9]) ⟨rfl, by rw [List.take_zero]; rfl, v6, v7, rfl⟩ (fun i σ H' _ q => by rw [q.1]; exact ef) ?_ ?_⟩⟩
        · rintro i yv σ H4 H4' hi ⟨rfl, hfi, v6', v7', rfl⟩ ⟨rfl, key, v, q, hkv, rfl, hq⟩
          have hiB : i < B.length := by rw [← hEB.1]; exact hi
          have eu : B[i]? = some B[i] := List.getElem?_eq_getElem hiB
          have hmem := List.getElem_mem hiB
          have etk : B.take (i + 1) = B.take i ++ [B[i]] := by rw [List.take_add_one, eu]; rfl
          have edr : B = B.take i ++ B[i] :: B.drop (i + 1) := by rw [← List.drop_eq_getElem_cons hiB, List.take_append_drop]
          generalize B[i] = u at eu hmem etk edr
          obtain ⟨rfl, hev⟩ := hEB.2 i _ _ _ hkv eu
          rw [keyI_kV] at hq
          have hst := hrun u (I.lt u (hBM u hmem))
          obtain ⟨c, e, ece⟩ : ∃ c e, r u = [c, e] := by
            have := hst.1
            match hru : r u, this with
            | [c, e], _ => exact ⟨c, e, rfl⟩
          rw [ece] at hq hst
          obtain ⟨c0, c1⟩ := hst.2 0 rs1 c rfl rfl
          obtain ⟨e0, e1⟩ := hst.2 1 rs2 e rfl rfl
          have edif : dif ss1 ss2 (r u) = decide (ss1.getD c.toNat "" ≠ ss2.getD e.toNat "") := by rw [ece]; rfl
          obtain ⟨dx, tx, rx, lx, asx, gx1, gx2, gx3, gx4, gx5⟩ := mx.same s3
          obtain ⟨dy, ty, ry, ly, asy, gy1, gy2, gy3, gy4, gy5⟩ := my.same s3
          refine ⟨q, _, rfl, SqT.of hq, rfl, _, _, rfl, _, _, rfl, rfl, ?_⟩
          refine ⟨_, rfl, x, C, dx, _, _, rfl, kx _ _ (ne_of gx1 hla3 (by intro z; cases z)) gx1, M.cl, M.nT, mf_tells _ _ _ _, _, rfl, lx, _, c, _, rfl, rfl, SqT.of (kf _ _ gx5), at_deed c0 (by rw [px.tl.1]; exact c1), ?_⟩
          refine ⟨_, rfl, y, C, dy, _, _, rfl, kx _ _ (ne_of gy1 hla3 (by intro z; cases z)) gy1, M.cl, M.nT, mf_tells _ _ _ _, _, rfl, ly, _, e, _, rfl, rfl, SqT.of (kf _ _ gy5), at_deed e0 (by rw [py.tl.1]; exact e1), rfl, _, rfl, ?_⟩
          refine ite2 (fun hd => ?_) (fun hd => ?_)
          · -- told apart
            have hdt : dif ss1 ss2 (r u) = true := by
              rw [edif]
              refine decide_eq_true fun z => ?_
              rw [z] at hd
              simp at hd
            have hfu : (M0 ++ B).find? (fun v => dif ss1 ss2 (r v)) = some u := by
              rw [List.find?_append, hf0, edr, List.find?_append, hfi, List.find?_cons, hdt]; rfl
            have hlu := I.len u hmem
            have hM' : u ∈ M0 ++ B := hBM u hmem
            refine ⟨_, rfl, _, rfl, _, rfl, Nat.le_of_ble_eq_true rfl, fun t ht => ?_⟩
            have s5 := same_upd (o := .tup [V.int c, V.int e]) ht
            have e5 : upd H4' t (.tup [V.int c, V.int e]) t = some (.tup ((r u).map V.int)) := by rw [ece]; exact upd_same
            generalize upd H4' t (.tup [V.int c, V.int e]) = H5 at s5 e5 ⊢
            refine ⟨me, t, r, ws, M0 ++ B, u, rfl, ⟨kM, s5 _ _ (kx _ _ nml hme3), hEM.keep (kf.trans (.of s5))⟩, I.nd, I.pre, hM', e5, by omega, fun p H6 hp s6 e6 => ?_⟩
            have s46 := s5.trans s6
            have npl : p ≠ la := (ne_of_none (s5 _ _ ef) hp).symm
            refine ⟨s46 _ _ ef, kS u p _ ?_ ?_ (fun b o e => ?_) (by rw [upd_ne npl]; exact e6)⟩
            · show (allU ws.length u.length).find? _ = some u
              rw [hlu, ← bfs_find hrc hpc ws.length n, eb]
              exact hfu
            · exact s3.free (nzf _ (s5.free hp))
            · by_cases hb : b = la
              · subst hb
                have := s3 _ _ e
                rw [hla3] at this; cases this
                exact upd_same
              · rw [upd_ne hb]
                exact s46 _ _ (kx _ _ hb (s3 _ _ e))
          · have hdf : dif ss1 ss2 (r u) = false := by
              rw [edif]
              refine decide_eq_false fun z => hd ?_
              rw [decide_eq_false (fun e' => z (by injection e'))]; rfl
            exact ⟨rfl, by rw [etk, List.find?_append, hfi, List.find?_cons, hdf]; rfl, _, _, rfl⟩
        · rintro σ H4 ⟨rfl, hfi, v6', v7', rfl⟩
          rw [hEB.1, List.take_length] at hfi
          refine ⟨ef, ?_⟩
          have s5 := s3.trans back
          have dm5 := dm.same back
          have dl5 := dl.same back
          generalize upd H4 la (.dT kB) = H5 at s5 dm5 dl5 ⊢
          obtain ⟨dx, tx, rx, lx, asx, gx1, gx2, gx3, gx4, gx5⟩ := mx.same s5
          obtain ⟨dy, ty, ry, ly, asy, gy1, gy2, gy3, gy4, gy5⟩ := my.same s5
          refine ⟨_, rfl, x, C, dx, _, _, rfl, gx1, M.cl, M.nD, mf_deeds _ _ _ _, _, rfl, x, C, dx, _, _, rfl, gx1, M.cl, M.nR, mf_rows _ _ _ _, _, rfl, y, C, dy, _, _, rfl, gy1, M.cl, M.nR, mf_rows _ _ _ _, Nat.le_of_ble_eq_true rfl, fun tt htt => ?_⟩
          have s6 := same_upd (o := .tup [V.ref rx, V.ref ry]) htt
          have e6 : upd H5 tt (.tup [V.ref rx, V.ref ry]) tt = some (.tup ([rx, ry].map V.ref)) := upd_same
          generalize upd H5 tt (.tup [V.ref rx, V.ref ry]) = H6 at s6 e6 ⊢
          refine ⟨_, rfl, _, rfl, tx, tt, la, me, ws, [rs1, rs2], [a, b], M0 ++ B, B, rfl, (gx2.same s6).sq, ⟨[rx, ry], SqT.of e6, rfl, fun i a' t' e1 e2 => ?_⟩, htab, hs0, by rw [hR]; exact dl5.same s6, by rw [hR]; exact dm5.same s6, nml.symm, by rw [hR]; exact I.nd, fun u hu => I.lt u (hBM u hu), ?_, by simp, fun p N H7 hp s7 edd dN => ?_⟩
          · match i, e1, e2 with
            | 0, e1, e2 => cases e1; cases e2; exact ⟨asx, s6 _ _ gx3, gx4.1, fun j b' q' f1 f2 => s6 _ _ (gx4.2 j b' q' f1 f2)⟩
            | 1, e1, e2 => cases e1; cases e2; exact ⟨asy, s6 _ _ gy3, gy4.1, fun j b' q' f1 f2 => s6 _ _ (gy4.2 j b' q' f1 f2)⟩
            | _ + 2, e1, _ => simp at e1
          · have h1 : B.length ≤ 3600 := by rw [List.length_append] at hMl; omega
            have := Nat.mul_le_mul w6 h1
            omega
          rw [hR] at edd dN
          have s57 := s6.trans s7
          have s07 := s5.trans s57
          have dm7 := dm5.same s57
          obtain ⟨kN, hpN, hEN⟩ := id dN
          obtain ⟨kM7, hme7, hEM7⟩ := id dm7
          have nmp : me ≠ p := by
            obtain ⟨kv, e, _⟩ := id dm5
            exact ne_of_none (s6 _ _ e) hp
          have ebs : bfs r ws.length (n + 1) = (M0 ++ B ++ N, N) := by
            show (dd r (bfs r ws.length n).1 (exts ws.length (bfs r ws.length n).2), (dd r (bfs r ws.length n).1 (exts ws.length (bfs r ws.length n).2)).drop (bfs r ws.length n).1.length) = _
            rw [eb]
            show (dd r (M0 ++ B) (exts ws.length B), (dd r (M0 ++ B) (exts ws.length B)).drop (M0 ++ B).length) = _
            rw [edd, List.drop_left]
          have I2 := bfs_ok hrc ws.length (n + 1)
          rw [ebs] at I2
          have hMl2 : (M0 ++ B ++ N).length ≤ prodN [rs1, rs2] := hml _ I2.nd I2.lt
          -- what is new is met
          refine ⟨p, .dT kN, hpN, trivial, fun od2 => ?_⟩
          have ef8 : upd H7 p (.frz od2 (.dT kN)) p = some (.frz od2 (.dT kN)) := upd_same
          have kf8 : KeepT H7 (upd H7 p (.frz od2 (.dT kN))) := KeepT.updT hpN
          have kx8 : ∀ b o, b ≠ p → H7 b = some o → upd H7 p (.frz od2 (.dT kN)) b = some o := fun b o nb e => by rw [upd_ne nb]; exact e
          generalize upd H7 p (.frz od2 (.dT kN)) = H8 at ef8 kf8 kx8 ⊢
          have hEN8 := hEN.keep kf8
          refine ⟨_, rfl, p, od2, kN, rfl, ef8, for_it (walk_itemsT (d := p) (o := od2) (kvs := kN)) (fun j σ H' => (∀ b o, b ≠ p → b ≠ me → H8 b = some o → H' b = some o) ∧ H' p = some (.frz od2 (.dT kN)) ∧ (∃ kM', H' me = some (.dT kM') ∧ Ents r ws H' kM' (M0 ++ B ++ N.take j)) ∧ ∃ v8 v9, σ = [some (.ref x), some (.int a), some (.ref y), some (.int b), some (.ref me), some (.ref p), v6', v7', v8, v9]) ?_ (fun j σ H' _ q => q.2.1) ?_ ?_⟩
          · exact ⟨fun b o _ _ e => e, ef8, ⟨kM7, kx8 _ _ nmp hme7, by rw [List.take_zero, List.append_nil]; exact hEM7.keep kf8⟩, v8, v9, rfl⟩
          · rintro j yv σ H9 H10 hj ⟨kx9, hp9, ⟨kM', hme9, hEM9⟩, v8', v9', rfl⟩ ⟨T', key, v, q, hkv, hq, rfl, hT', rfl⟩
            have hjN : j < N.length := by rw [← hEN.1]; exact hj
            have eu : N[j]? = some N[j] := List.getElem?_eq_getElem hjN
            have etk : N.take (j + 1) = N.take j ++ [N[j]] := by rw [List.take_add_one, eu]; rfl
            have edr : N = N.take j ++ N[j] :: N.drop (j + 1) := by rw [← List.drop_eq_getElem_cons hjN, List.take_append_drop]
            generalize N[j] = u at eu etk edr
            obtain ⟨rfl, hev⟩ := hEN8.2 j _ _ _ hkv eu
            have s10 := same_upd (o := .tup [V.ref q, v]) hT'
            have e10 : upd H9 T' (.tup [V.ref q, v]) T' = some (.tup [V.ref q, v]) := upd_same
            have kt89 : KeepT H8 H9 := fun c xs e => kx9 _ _ (ne_of e ef8 (by intro z; cases z)) (ne_of e (kx8 _ _ nmp hme7) (by intro z; cases z)) e
            refine ⟨T', _, rfl, SqT.of upd_same, rfl, _, _, rfl, _, _, rfl, rfl, ?_⟩
            have kx10 : ∀ b o, b ≠ p → b ≠ me → H8 b = some o → upd H9 T' (.tup [V.ref q, v]) b = some o := fun b o n1 n2 e => s10 _ _ (kx9 b o n1 n2 e)
            have hp10 := s10 _ _ hp9
            have hme10 := s10 _ _ hme9
            have hEM10 := hEM9.keep (.of s10)
            have hev10 := (hev.keep kt89).keep (.of s10)
            have hq10 := s10 _ _ hq
            generalize upd H9 T' (.tup [V.ref q, v]) = H10 at kx10 hp10 hme10 hEM10 hev10 hq10 ⊢
            have hnew : r u ∉ (M0 ++ B ++ N.take j).map r := by
              have h1 := I2.nd
              rw [edr, ← List.append_assoc, List.map_append] at h1
              intro hz
              exact (List.nodup_append.mp h1).2.2 _ hz _ (by rw [List.map_cons]; exact List.mem_cons_self ..) rfl
            have hkl : kM'.length < sizeLine := by
              rw [hEM10.1, List.length_append, List.length_take]
              rw [List.length_append] at hMl2
              rw [sizeLine_eq]; omega
            refine ⟨_, rfl, _, rfl, _, rfl, me, _, rfl, DPut.t hme10 hq10 hkl, ?_⟩
            rw [putK_new _ (hEM10.no hnew)]
            have hE11 := (hEM10.snoc hev10).keep (KeepT.updT (o := .dT (kM' ++ [(keyI (r u), v)])) hme10)
            exact ⟨fun b o n1 n2 e => by rw [upd_ne n2]; exact kx10 b o n1 n2 e, by rw [upd_ne nmp.symm]; exact hp10, ⟨_, upd_same, by rw [etk, ← List.append_assoc]; exact hE11⟩, _, _, rfl⟩
          · rintro σ H9 ⟨kx9, hp9, ⟨kM', hme9, hEM9⟩, v8', v9', rfl⟩
            rw [hEN.1, List.take_length] at hEM9
            have kf9 := KeepT.updF (o := .dT kN) hp9
            have s9 : Same H (upd H9 p (.dT kN)) := fun b o e => by
              have e7 := s07 _ _ e
              have nbm : b ≠ me := ne_of_none e hme
              by_cases hb : b = p
              · subst hb; rw [hpN] at e7; cases e7; exact upd_same
              · rw [upd_ne hb]; exact kx9 _ _ hb nbm (kx8 _ _ hb e7)
            have kt79 : KeepT H7 H9 := fun c xs e => kx9 _ _ (ne_of e hpN (by intro z; cases z)) (ne_of e hme7 (by intro z; cases z)) (kf8 _ _ e)
            refine ⟨hp9, _, ?_, n + 1, M0 ++ B, N, p, _, _, _, _, ebs, ?_, s9, ⟨kM', by rw [upd_ne nmp]; exact hme9, hEM9.keep kf9⟩, ⟨kN, upd_same, (hEN.keep kt79).keep kf9⟩, nmp, ?_, rfl, rfl⟩
            · rw [if_neg hB0]
              have h1 : (M0 ++ B ++ N).length = (M0 ++ B).length + N.length := List.length_append
              by_cases hN0 : N = []
              · rw [if_pos hN0, hN0, List.append_nil]; omega
              · have h2 := List.length_pos_iff.mpr hN0
                rw [if_neg hN0]; omega
            · rw [List.find?_append, hf0, hfi]; rfl
            · intro hN0
              have h2 := List.length_pos_iff.mpr hN0
              rw [List.length_append]; omega
      · have hB0 : B = [] := by
          have h1 := hEB.1
          refine List.length_eq_zero_iff.mp ?_
          rw [← h1]
          have h2 : ¬ ((kB.length : Nat) : Int) > 0 := fun z => hgt (decide_eq_true z)
          omega
        subst hB0
        rw [List.append_nil] at eb
        refine kN H3 (fun n' => ?_) s3
        rw [← bfs_find hrc hpc]
        by_cases hn' : n ≤ n'
        · rw [bfs_end hrc (by rw [eb]) n' hn', eb]; exact hf0
        · obtain ⟨R, eR⟩ := allU_pre ws.length (show n' ≤ n by omega)
          have h1 := bfs_find hrc hpc ws.length n
          rw [eb, eR, List.find?_append] at h1
          rw [bfs_find hrc hpc]
          have h2 : ((allU ws.length n').find? fun v => dif ss1 ss2 (r v)).or (R.find? fun v => dif ss1 ss2 (r v)) = none := by rw [← h1]; exact hf0
          cases hz : (allU ws.length n').find? fun v => dif ss1 ss2 (r v) with
          | none => rfl
          | some z => rw [hz] at h2; cases h2
    · rintro σ H Q Q' hQ ⟨v, e, d, kvs, h1, h2, i, j, h3, h4, c, h5, h6⟩
      exact ⟨v, e, d, kvs, h1, h2, i, j, h3, h4, c, h5, hQ _ _ h6⟩
end
end K1
set_option Elab.async false
set_option linter.all false
set_option maxRecDepth 100000
/-! walks.first_steps -/
namespace K1
open PySem L2 LamX
abbrev sFS : Stmt := top 38
/-- no bound, or one -/
def MostV (v : V) (o : Option Int) : Prop := (v = .non ∧ o = none) ∨ ∃ m : Int, v = .int m ∧ o = some m
def spFS (K : PySem.W.Frag) : Sp := fun vs H Q _ => ∃ (de tt be : Addr) (mo : V) (om : Option Int) (ws : List Str) (ts : List (List (List Int))) (s0 : List Int), vs = [.ref de, .ref tt, .ref be, mo] ∧ MostV mo om ∧ SqT K H de (ws.map V.str) ∧ TabsAt K H tt ts ∧ H be = some (.tup (s0.map V.int)) ∧
  (∀ t ∈ ts, TabOk ws.length t) ∧ StOk ts s0 ∧ ws.length ≤ 6 ∧ prodN ts ≤ 3600 ∧ ts.length ≤ 900 ∧
  ∀ (fo : Addr) (H' : Hp) (n : Nat) (M0 B : List (List Nat)), bfs (runT ts s0) ws.length n = (M0 ++ B, B) → (B = [] ∨ ∃ m, om = some m ∧ m < ((M0 ++ B).length : Int)) → H fo = none → Same H H' → DAt (runT ts s0) ws H' fo (M0 ++ B) → Q (.ref fo) H'
section
variable {P : Program} {w : World} {K : PySem.W.Frag} {mg : Str → Option Value} {base : Heap}
abbrev pFS : List Str := ["deeds", "tables", "begin", "most"]
abbrev nFS : List Str := ["deeds", "tables", "begin", "most", "found", "layer", "states", "step"]
theorem scFS : FnScope nFS pFS (defScope sFS) := ⟨rfl, rfl, rfl, by decide +kernel, rfl, by decide +kernel, by decide +kernel⟩
theorem ok_fs {f fN : Addr} {fd fdN : FuncData} (F : FunD K "first_steps" "first_steps" (defArgs sFS) (defBody sFS) (defScope sFS) [.non] [] f fd) (DN : Df K mg "next_layer" sNL pNL fN fdN) (T : Bt2 mg) (hz : mg "zip" = none) : FnOk P w K mg base CX0 2 f fd pFS (spFS K) := by
  have GN : FnOk P w K mg base CX0 1 fN fdN pNL (spNL K) := ok_nl DN T hz
  refine F.ok scFS (fun vs H Q E h => ?_) (fun cdv A outer s H vs Q E hr h => ?_)
  · obtain ⟨de, tt, be, mo, om, ws, ts, s0, rfl, _⟩ := h
    rfl
  · obtain ⟨de, tt, be, mo, om, ws, ts, s0, rfl, hmo, hde, htt, hbe, htab, hs0, w6, hpn, htl, k⟩ := h
    have hu := hu_of hr
    refine ⟨_, pss_cons (ps_set (i := 4) scFS.nd rfl (Or.inl rfl) (pe_disp1T hu (pv 2) pe_non))
      (pss_cons (ps_set (i := 5) scFS.nd rfl (Or.inl rfl) (pe_disp1T hu (pv 2) pe_non))
      (pss_cons (ps_while (passes_of rfl) (PW.pt (pw_and (pt_cmpR op_gt (pe_callB call_len_dT (by rfl) T.len PySem.boot_len (pa_cons (pv 5) pa_nil)) pe_int (nomark _))
          (pw_and1 (PW.pt (pw_or (pt_cmpR op_isN (pv 3) pe_non (nomark _)) (pw_or1 (pt_cmpR op_le (pe_callB call_len_dT (by rfl) T.len PySem.boot_len (pa_cons (pv 4) pa_nil)) (pv 3) (nomark _))))))))
        (pss_cons (ps_set (i := 5) scFS.nd rfl (Or.inl rfl) (pe_call GN hr rfl DN.g DN.F.kp DN.b .nil pass0 (pa_cons (pv 0) (pa_cons (pv 1) (pa_cons (pv 5) (pa_cons (pv 4) pa_nil))))))
        (pss_one (ps_lock (ps_for (passes_of rfl) rfl (pi_itemsT (pv 5)) (pg_tup (by rfl) (pgs_cons (pg_name (i := 6) scFS.nd rfl (Or.inl rfl)) (pgs_cons (pg_name (i := 7) scFS.nd rfl (Or.inl rfl)) pgs_nil)))
          (pss_one (ps_dput hu (pv 4) (pv 6) (pv 7) rfl)))))))
      (pss_one (ps_ret (pv 4))))), ?_⟩
    have r0 : runT ts s0 [] = s0 := rfl
    have hrc := runT_c ts s0
    have hml : ∀ M : List (List Nat), (M.map (runT ts s0)).Nodup → (∀ u ∈ M, ∀ k ∈ u, k < ws.length) → M.length ≤ prodN ts := fun M => met_len hs0 htab
    generalize hR : runT ts s0 = r at r0 hrc hml k
    have mk1 : ∀ {G : Hp} {p : Addr}, G p = none → Same G (upd (upd G p (.dT [])) p (.dT [(keyI s0, V.non)])) ∧ DAt r ws (upd (upd G p (.dT [])) p (.dT [(keyI s0, V.non)])) p [[]] := fun {G p} hp => by
      refine ⟨fun c o e => ?_, _, upd_same, rfl, fun i k v u e1 e2 => ?_⟩
      · rw [upd_ne (ne_of_none e hp)]
        exact same_upd hp _ _ e
      · match i, e1, e2 with
        | 0, e1, e2 => cases e1; cases e2; exact ⟨by rw [r0], .inl ⟨rfl, rfl⟩⟩
        | _ + 1, e1, _ => simp at e1
    -- found
    intro me hme
    refine ⟨_, rfl, upd_same, be, keyI s0, .non, rfl, by rw [keyI_kV]; exact same_upd hme _ _ hbe, ?_⟩
    obtain ⟨s1, dm1⟩ := mk1 hme
    generalize upd (upd H me (.dT [])) me (.dT [(keyI s0, V.non)]) = H1 at s1 dm1 ⊢
    -- layer
    intro la hla
    refine ⟨_, rfl, upd_same, be, keyI s0, .non, rfl, by rw [keyI_kV]; exact same_upd hla _ _ (s1 _ _ hbe), ?_⟩
    obtain ⟨s2, dl2⟩ := mk1 hla
    have nml : me ≠ la := by
      obtain ⟨kv, e, _⟩ := id dm1
      exact ne_of_none e hla
    have dm2 := dm1.same s2
    have s02 := s1.trans s2
    generalize upd (upd H1 la (.dT [])) la (.dT [(keyI s0, V.non)]) = H2 at s2 dl2 dm2 s02 ⊢
    -- the loop
    refine while_ix (fun m σ H' => ∃ (n : Nat) (M0 B : List (List Nat)) (la : Addr) (v6 v7 : Option V), bfs r ws.length n = (M0 ++ B, B) ∧ Same H H' ∧ DAt r ws H' me (M0 ++ B) ∧ DAt r ws H' la B ∧ me ≠ la ∧ m = 2 * (prodN ts - (M0 ++ B).length) + (if B = [] then 0 else 1) ∧
      σ = [some (.ref de), some (.ref tt), some (.ref be), some mo, some (.ref me), some (.ref la), v6, v7]) (2 * (prodN ts - 1) + 1) ?_ ?_ ?_
    · exact ⟨0, [], [[]], la, none, none, rfl, s02, dm2, dl2, nml, rfl, rfl⟩
    · rintro m σ H3 ⟨n, M0, B, la, v6, v7, eb, s3, dm, dl, nml, rfl, rfl⟩
      obtain ⟨kM, hme3, hEM⟩ := id dm
      obtain ⟨kB, hla3, hEB⟩ := id dl
      have I := bfs_ok hrc ws.length n
      rw [eb] at I
      have hBM : ∀ u ∈ B, u ∈ M0 ++ B := fun u hu => List.mem_append_right _ hu
      have hMl : (M0 ++ B).length ≤ prodN ts := hml _ I.nd I.lt
      refine ⟨_, rfl, la, kB, rfl, hla3, _, _, rfl, rfl, _, rfl, ?_⟩
      refine ite2 (fun hgt => ?_) (fun hgt => ?_)
      · have hB0 : B ≠ [] := fun e => by
          have h1 := hEB.1
          rw [e] at h1
          have h2 := of_decide_eq_true hgt
          simp at h1
          rw [h1] at h2
          exact absurd h2 (by decide)
        rcases hmo with ⟨em, eo⟩ | ⟨m0, em, eo⟩
        · refine ⟨_, rfl, rfl, _, rfl, ?_⟩
          refine ite2 (fun _ => ?_) (fun h => absurd (decide_eq_true em) h)
          refine ⟨_, rfl, _, rfl, _, rfl, _, rfl, de, tt, la, me, ws, ts, s0, M0 ++ B, B, rfl, hde.ext s3, htt.keep (.of s3) (fun a xs h => h.ext s3), htab, hs0, by rw [hR]; exact dl, by rw [hR]; exact dm, nml.symm, by rw [hR]; exact I.nd, fun u hu => I.lt u (hBM u hu), ?_, htl, fun p N H7 hp s7 edd dN => ?_⟩
          · have h1 : B.length ≤ 3600 := by rw [List.length_append] at hMl; omega
            have := Nat.mul_le_mul w6 h1
            omega
          rw [hR] at edd dN
          have s07 := s3.trans s7
          have dm7 := dm.same s7
          obtain ⟨kN, hpN, hEN⟩ := id dN
          obtain ⟨kM7, hme7, hEM7⟩ := id dm7
          have nmp : me ≠ p := ne_of_none hme3 hp
          have ebs : bfs r ws.length (n + 1) = (M0 ++ B ++ N, N) := by
            show (dd r (bfs r ws.length n).1 (exts ws.length (bfs r ws.length n).2), (dd r (bfs r ws.length n).1 (exts ws.length (bfs r ws.length n).2)).drop (bfs r ws.length n).1.length) = _
            rw [eb]
            show (dd r (M0 ++ B) (exts ws.length B), (dd r (M0 ++ B) (exts ws.length B)).drop (M0 ++ B).length) = _
            rw [edd, List.drop_left]
          have I2 := bfs_ok hrc ws.length (n + 1)
          rw [ebs] at I2
          have hMl2 : (M0 ++ B ++ N).length ≤ prodN ts := hml _ I2.nd I2.lt
          refine ⟨p, .dT kN, hpN, trivial, fun od2 => ?_⟩
          have ef8 : upd H7 p (.frz od2 (.dT kN)) p = some (.frz od2 (.dT kN)) := upd_same
          have kf8 : KeepT H7 (upd H7 p (.frz od2 (.dT kN))) := KeepT.updT hpN
          have kx8 : ∀ b o, b ≠ p → H7 b = some o → upd H7 p (.frz od2 (.dT kN)) b = some o := fun b o nb e => by rw [upd_ne nb]; exact e
          generalize upd H7 p (.frz od2 (.dT kN)) = H8 at ef8 kf8 kx8 ⊢
          have hEN8 := hEN.keep kf8
          refine ⟨_, rfl, p, od2, kN, rfl, ef8, for_it (walk_itemsT (d := p) (o := od2) (kvs := kN)) (fun j σ H' => (∀ b o, b ≠ p → b ≠ me → H8 b = some o → H' b = some o) ∧ H' p = some (.frz od2 (.dT kN)) ∧ (∃ kM', H' me = some (.dT kM') ∧ Ents r ws H' kM' (M0 ++ B ++ N.take j)) ∧ ∃ v6 v7, σ = [some (.ref de), some (.ref tt), some (.ref be), some mo, some (.ref me), some (.ref p), v6, v7]) ?_ (fun j σ H' _ q => q.2.1) ?_ ?_⟩
          · exact ⟨fun b o _ _ e => e, ef8, ⟨kM7, kx8 _ _ nmp hme7, by rw [List.take_zero, List.append_nil]; exact hEM7.keep kf8⟩, v6, v7, rfl⟩
          · rintro j yv σ H9 H10 hj ⟨kx9, hp9, ⟨kM', hme9, hEM9⟩, v6', v7', rfl⟩ ⟨T', key, v, q, hkv, hq, rfl, hT', rfl⟩
            have hjN : j < N.length := by rw [← hEN.1]; exact hj
            have eu : N[j]? = some N[j] := List.getElem?_eq_getElem hjN
            have etk : N.take (j + 1) = N.take j ++ [N[j]] := by rw [List.take_add_one, eu]; rfl
            have edr : N = N.take j ++ N[j] :: N.drop (j + 1) := by rw [← List.drop_eq_getElem_cons hjN, List.take_append_drop]
            generalize N[j] = u at eu etk edr
            obtain ⟨rfl, hev⟩ := hEN8.2 j _ _ _ hkv eu
            have s10 := same_upd (o := .tup [V.ref q, v]) hT'
            have kt89 : KeepT H8 H9 := fun c xs e => kx9 _ _ (ne_of e ef8 (by intro z; cases z)) (ne_of e (kx8 _ _ nmp hme7) (by intro z; cases z)) e
            refine ⟨T', _, rfl, SqT.of upd_same, rfl, _, _, rfl, _, _, rfl, rfl, ?_⟩
            have kx10 : ∀ b o, b ≠ p → b ≠ me → H8 b = some o → upd H9 T' (.tup [V.ref q, v]) b = some o := fun b o n1 n2 e => s10 _ _ (kx9 b o n1 n2 e)
            have hp10 := s10 _ _ hp9
            have hme10 := s10 _ _ hme9
            have hEM10 := hEM9.keep (.of s10)
            have hev10 := (hev.keep kt89).keep (.of s10)
            have hq10 := s10 _ _ hq
            generalize upd H9 T' (.tup [V.ref q, v]) = H10 at kx10 hp10 hme10 hEM10 hev10 hq10 ⊢
            have hnew : r u ∉ (M0 ++ B ++ N.take j).map r := by
              have h1 := I2.nd
              rw [edr, ← List.append_assoc, List.map_append] at h1
              intro hz
              exact (List.nodup_append.mp h1).2.2 _ hz _ (by rw [List.map_cons]; exact List.mem_cons_self ..) rfl
            have hkl : kM'.length < sizeLine := by
              rw [hEM10.1, List.length_append, List.length_take]
              rw [List.length_append] at hMl2
              rw [sizeLine_eq]; omega
            refine ⟨_, rfl, _, rfl, _, rfl, me, _, rfl, DPut.t hme10 hq10 hkl, ?_⟩
            rw [putK_new _ (hEM10.no hnew)]
            have hE11 := (hEM10.snoc hev10).keep (KeepT.updT (o := .dT (kM' ++ [(keyI (r u), v)])) hme10)
            exact ⟨fun b o n1 n2 e => by rw [upd_ne n2]; exact kx10 b o n1 n2 e, by rw [upd_ne nmp.symm]; exact hp10, ⟨_, upd_same, by rw [etk, ← List.append_assoc]; exact hE11⟩, _, _, rfl⟩
          · rintro σ H9 ⟨kx9, hp9, ⟨kM', hme9, hEM9⟩, v6', v7', rfl⟩
            rw [hEN.1, List.take_length] at hEM9
            have kf9 := KeepT.updF (o := .dT kN) hp9
            have s9 : Same H (upd H9 p (.dT kN)) := fun b o e => by
              have e7 := s07 _ _ e
              have nbm : b ≠ me := ne_of_none e hme
              by_cases hb : b = p
              · subst hb; rw [hpN] at e7; cases e7; exact upd_same
              · rw [upd_ne hb]; exact kx9 _ _ hb nbm (kx8 _ _ hb e7)
            have kt79 : KeepT H7 H9 := fun c xs e => kx9 _ _ (ne_of e hpN (by intro z; cases z)) (ne_of e hme7 (by intro z; cases z)) (kf8 _ _ e)
            refine ⟨hp9, _, ?_, n + 1, M0 ++ B, N, p, _, _, ebs, s9, ⟨kM', by rw [upd_ne nmp]; exact hme9, hEM9.keep kf9⟩, ⟨kN, upd_same, (hEN.keep kt79).keep kf9⟩, nmp, rfl, rfl⟩
            rw [if_neg hB0]
            have h1 : (M0 ++ B ++ N).length = (M0 ++ B).length + N.length := List.length_append
            by_cases hN0 : N = []
            · rw [if_pos hN0, hN0, List.append_nil]; omega
            · have h2 := List.length_pos_iff.mpr hN0
              rw [if_neg hN0]; omega
        · refine ⟨_, rfl, rfl, _, rfl, ?_⟩
          refine ite2 (fun h => absurd (of_decide_eq_true h) (by rw [em]; intro z; cases z)) (fun _ => ?_)
          refine ⟨_, rfl, me, kM, rfl, hme3, _, rfl, _, m0, rfl, em, _, rfl, ?_⟩
          refine ite2 (fun hle => ?_) (fun hle => ?_)
          · skip
            refine ⟨_, rfl, _, rfl, _, rfl, _, rfl, de, tt, la, me, ws, ts, s0, M0 ++ B, B, rfl, hde.ext s3, htt.keep (.of s3) (fun a xs h => h.ext s3), htab, hs0, by rw [hR]; exact dl, by rw [hR]; exact dm, nml.symm, by rw [hR]; exact I.nd, fun u hu => I.lt u (hBM u hu), ?_, htl, fun p N H7 hp s7 edd dN => ?_⟩
            · have h1 : B.length ≤ 3600 := by rw [List.length_append] at hMl; omega
              have := Nat.mul_le_mul w6 h1
              omega
            rw [hR] at edd dN
            have s07 := s3.trans s7
            have dm7 := dm.same s7
            obtain ⟨kN, hpN, hEN⟩ := id dN
            obtain ⟨kM7, hme7, hEM7⟩ := id dm7
            have nmp : me ≠ p := ne_of_none hme3 hp
            have ebs : bfs r ws.length (n + 1) = (M0 ++ B ++ N, N) := by
              show (dd r (bfs r ws.length n).1 (exts ws.length (bfs r ws.length n).2), (dd r (bfs r ws.length n).1 (exts ws.length (bfs r ws.length n).2)).drop (bfs r ws.length n).1.length) = _
              rw [eb]
              show (dd r (M0 ++ B) (exts ws.length B), (dd r (M0 ++ B) (exts ws.length B)).drop (M0 ++ B).length) = _
              rw [edd, List.drop_left]
            have I2 := bfs_ok hrc ws.length (n + 1)
            rw [ebs] at I2
            have hMl2 : (M0 ++ B ++ N).length ≤ prodN ts := hml _ I2.nd I2.lt
            refine ⟨p, .dT kN, hpN, trivial, fun od2 => ?_⟩
            have ef8 : upd H7 p (.frz od2 (.dT kN)) p = some (.frz od2 (.dT kN)) := upd_same
            have kf8 : KeepT H7 (upd H7 p (.frz od2 (.dT kN))) := KeepT.updT hpN
            have kx8 : ∀ b o, b ≠ p → H7 b = some o → upd H7 p (.frz od2 (.dT kN)) b = some o := fun b o nb e => by rw [upd_ne nb]; exact e
            generalize upd H7 p (.frz od2 (.dT kN)) = H8 at ef8 kf8 kx8 ⊢
            have hEN8 := hEN.keep kf8
            refine ⟨_, rfl, p, od2, kN, rfl, ef8, for_it (walk_itemsT (d := p) (o := od2) (kvs := kN)) (fun j σ H' => (∀ b o, b ≠ p → b ≠ me → H8 b = some o → H' b = some o) ∧ H' p = some (.frz od2 (.dT kN)) ∧ (∃ kM', H' me = some (.dT kM') ∧ Ents r ws H' kM' (M0 ++ B ++ N.take j)) ∧ ∃ v6 v7, σ = [some (.ref de), some (.ref tt), some (.ref be), some mo, some (.ref me), some (.ref p), v6, v7]) ?_ (fun j σ H' _ q => q.2.1) ?_ ?_⟩
            · exact ⟨fun b o _ _ e => e, ef8, ⟨kM7, kx8 _ _ nmp hme7, by rw [List.take_zero, List.append_nil]; exact hEM7.keep kf8⟩, v6, v7, rfl⟩
            · rintro j yv σ H9 H10 hj ⟨kx9, hp9, ⟨kM', hme9, hEM9⟩, v6', v7', rfl⟩ ⟨T', key, v, q, hkv, hq, rfl, hT', rfl⟩
              have hjN : j < N.length := by rw [← hEN.1]; exact hj
              have eu : N[j]? = some N[j] := List.getElem?_eq_getElem hjN
              have etk : N.take (j + 1) = N.take j ++ [N[j]] := by rw [List.take_add_one, eu]; rfl
              have edr : N = N.take j ++ N[j] :: N.drop (j + 1) := by rw [← List.drop_eq_getElem_cons hjN, List.take_append_drop]
              generalize N[j] = u at eu etk edr
              obtain ⟨rfl, hev⟩ := hEN8.2 j _ _ _ hkv eu
              have s10 := same_upd (o := .tup [V.ref q, v]) hT'
              have kt89 : KeepT H8 H9 := fun c xs e => kx9 _ _ (ne_of e ef8 (by intro z; cases z)) (ne_of e (kx8 _ _ nmp hme7) (by intro z; cases z)) e
              refine ⟨T', _, rfl, SqT.of upd_same, rfl, _, _, rfl, _, _, rfl, rfl, ?_⟩
              have kx10 : ∀ b o, b ≠ p → b ≠ me → H8 b = some o → upd H9 T' (.tup [V.ref q, v]) b = some o := fun b o n1 n2 e => s10 _ _ (kx9 b o n1 n2 e)
              have hp10 := s10 _ _ hp9
              have hme10 := s10 _ _ hme9
              have hEM10 := hEM9.keep (.of s10)
              have hev10 := (hev.keep kt89).keep (.of s10)
              have hq10 := s10 _ _ hq
              generalize upd H9 T' (.tup [V.ref q, v]) = H10 at kx10 hp10 hme10 hEM10 hev10 hq10 ⊢
              have hnew : r u ∉ (M0 ++ B ++ N.take j).map r := by
                have h1 := I2.nd
                rw [edr, ← List.append_assoc, List.map_append] at h1
                intro hz
                exact (List.nodup_append.mp h1).2.2 _ hz _ (by rw [List.map_cons]; exact List.mem_cons_self ..) rfl
              have hkl : kM'.length < sizeLine := by
                rw [hEM10.1, List.length_append, List.length_take]
                rw [List.length_append] at hMl2
                rw [sizeLine_eq]; omega
              refine ⟨_, rfl, _, rfl, _, rfl, me, _, rfl, DPut.t hme10 hq10 hkl, ?_⟩
              rw [putK_new _ (hEM10.no hnew)]
              have hE11 := (hEM10.snoc hev10).keep (KeepT.updT (o := .dT (kM' ++ [(keyI (r u), v)])) hme10)
              exact ⟨fun b o n1 n2 e => by rw [upd_ne n2]; exact kx10 b o n1 n2 e, by rw [upd_ne nmp.symm]; exact hp10, ⟨_, upd_same, by rw [etk, ← List.append_assoc]; exact hE11⟩, _, _, rfl⟩
            · rintro σ H9 ⟨kx9, hp9, ⟨kM', hme9, hEM9⟩, v6', v7', rfl⟩
              rw [hEN.1, List.take_length] at hEM9
              have kf9 := KeepT.updF (o := .dT kN) hp9
              have s9 : Same H (upd H9 p (.dT kN)) := fun b o e => by
                have e7 := s07 _ _ e
                have nbm : b ≠ me := ne_of_none e hme
                by_cases hb : b = p
                · subst hb; rw [hpN] at e7; cases e7; exact upd_same
                · rw [upd_ne hb]; exact kx9 _ _ hb nbm (kx8 _ _ hb e7)
              have kt79 : KeepT H7 H9 := fun c xs e => kx9 _ _ (ne_of e hpN (by intro z; cases z)) (ne_of e hme7 (by intro z; cases z)) (kf8 _ _ e)
              refine ⟨hp9, _, ?_, n + 1, M0 ++ B, N, p, _, _, ebs, s9, ⟨kM', by rw [upd_ne nmp]; exact hme9, hEM9.keep kf9⟩, ⟨kN, upd_same, (hEN.keep kt79).keep kf9⟩, nmp, rfl, rfl⟩
              rw [if_neg hB0]
              have h1 : (M0 ++ B ++ N).length = (M0 ++ B).length + N.length := List.length_append
              by_cases hN0 : N = []
              · rw [if_pos hN0, hN0, List.append_nil]; omega
              · have h2 := List.length_pos_iff.mpr hN0
                rw [if_neg hN0]; omega
          · refine ⟨_, rfl, k me H3 n M0 B eb (.inr ⟨m0, eo, ?_⟩) hme s3 dm⟩
            have h1 : ¬ ((kM.length : Nat) : Int) ≤ m0 := fun z => hle (decide_eq_true z)
            rw [← hEM.1]; omega
      · have hB0 : B = [] := by
          have h1 := hEB.1
          refine List.length_eq_zero_iff.mp ?_
          rw [← h1]
          have h2 : ¬ ((kB.length : Nat) : Int) > 0 := fun z => hgt (decide_eq_true z)
          omega
        exact ⟨_, rfl, k me H3 n M0 B eb (.inl hB0) hme s3 dm⟩
    · rintro σ H Q Q' hQ ⟨v, e, d, kvs, h1, h2, i, j, h3, h4, c, h5, h6⟩
      refine ⟨v, e, d, kvs, h1, h2, i, j, h3, h4, c, h5, ?_⟩
      cases c with
      | false => exact hQ _ _ h6
      | true =>
        obtain ⟨v3, e3, hn, c2, h7, h8⟩ := h6
        refine ⟨v3, e3, hn, c2, h7, ?_⟩
        cases c2 with
        | true => exact hQ _ _ h8
        | false =>
          obtain ⟨v4, e4, d4, k4, g1, g2, v5, e5, i5, j5, g3, g4, c5, g5, g6⟩ := h8
          exact ⟨v4, e4, d4, k4, g1, g2, v5, e5, i5, j5, g3, g4, c5, g5, hQ _ _ g6⟩
end
end K1
set_option Elab.async false
set_option linter.all false
set_option maxRecDepth 100000
/-! row_to of a dict that is walked; Machine.reached -/
namespace L2
open PySem
theorem DGet.tR {H : Hp} {a b : Addr} {kvs : List (List Key × V)} {k : List Key} (e : Rd H a (.dT kvs)) (eb : H b = some (.tup (k.map kV))) : DGet H a (.ref b) (valV kvs k) := .inr ⟨kvs, k, b, e, rfl, eb, rfl⟩
theorem Rd.same {H H' : Hp} {a : Addr} {u : HO} (r : Rd H a u) (s : Same H H') : Rd H' a u := r.imp (s _ _) fun ⟨o, e⟩ => ⟨o, s _ _ e⟩
end L2
namespace K1
open PySem L2 LamX
abbrev sMReach : Stmt := inClass (top 41) 8
def DRt (r : List Nat → List Int) (ws : List Str) (H : Hp) (d : Addr) (M : List (List Nat)) : Prop := ∃ kvs, Rd H d (.dT kvs) ∧ Ents r ws H kvs M
def spRTR (K : PySem.W.Frag) : Sp := fun vs H Q _ => ∃ (fo q : Addr) (r : List Nat → List Int) (ws : List Str) (M : List (List Nat)) (u : List Nat), vs = [.ref fo, .ref q] ∧ DRt r ws H fo M ∧ (M.map r).Nodup ∧ (∀ u k, u ++ [k] ∈ M → u ∈ M) ∧ u ∈ M ∧ H q = some (.tup ((r u).map V.int)) ∧ u.length ≤ 100000 ∧
  ∀ p H', H p = none → Same H H' → H' p = some (.tup (names ws u)) → Q (.ref p) H'
/-- what reached gives: states and rows, in the order in which they are met -/
def ReachAt (r : List Nat → List Int) (ws : List Str) (H : Hp) (l : Addr) (M : List (List Nat)) : Prop := ∃ ts : List Addr, H l = some (.lst (ts.map V.ref)) ∧ ts.length = M.length ∧
  ∀ (i : Nat) (t : Addr) (u : List Nat), ts[i]? = some t → M[i]? = some u → ∃ q, H t = some (.tup [.int ((r u).getD 0 0), .ref q]) ∧ H q = some (.tup (names ws u))
theorem ReachAt.same {r : List Nat → List Int} {ws : List Str} {H H' : Hp} {l : Addr} {M : List (List Nat)} (h : ReachAt r ws H l M) (s : Same H H') : ReachAt r ws H' l M := by
  obtain ⟨ts, h1, h2, h3⟩ := h
  exact ⟨ts, s _ _ h1, h2, fun i t u e1 e2 => by obtain ⟨q, g1, g2⟩ := h3 i t u e1 e2; exact ⟨q, s _ _ g1, s _ _ g2⟩⟩
/-- a word that is met is shorter than what is met -/
theorem pre_len {M : List (List Nat)} (pre : ∀ u k, u ++ [k] ∈ M → u ∈ M) {u : List Nat} (hu : u ∈ M) : u.length < M.length := by
  have hp : ∀ n, u.take (u.length - n) ∈ M := fun n => by
    induction n with
    | zero => rw [Nat.sub_zero, List.take_length]; exact hu
    | succ n ih =>
      by_cases h : u.length ≤ n
      · rw [show u.length - (n + 1) = u.length - n by omega]; exact ih
      · have hl : u.length - (n + 1) < u.length := by omega
        have e : u.take (u.length - n) = u.take (u.length - (n + 1)) ++ [u[u.length - (n + 1)]] := by
          rw [show u.length - n = u.length - (n + 1) + 1 by omega, List.take_add_one, List.getElem?_eq_getElem hl]; rfl
        rw [e] at ih
        exact pre _ _ ih
  have h1 := nodup_sub_len ((List.range (u.length + 1)).map fun n => u.take n) M ?_ ?_
  · rw [List.length_map, List.length_range] at h1; omega
  · refine List.pairwise_map.mpr (List.Pairwise.imp_of_mem (fun {x y} hx hy hne e => ?_) (List.nodup_range (n := u.length + 1)))
    have h1 := congrArg List.length e
    rw [List.length_take, List.length_take] at h1
    have h2 := List.mem_range.mp hx
    have h3 := List.mem_range.mp hy
    exact hne (by omega)
  · intro x hx
    obtain ⟨n, hn, rfl⟩ := List.mem_map.mp hx
    have := List.mem_range.mp hn
    have := hp (u.length - n)
    rwa [show u.length - (u.length - n) = n by omega] at this
def spReach (K : PySem.W.Frag) (C : Addr) : Sp := fun vs H Q _ => ∃ (x : Addr) (ws : List Str) (rs : List (List Int)) (ss : List Str) (st : Int), vs = [.ref x] ∧ MachAt K C H x ws rs ss st ∧ Parts ws rs ss st ∧
  ∀ (l : Addr) (H' : Hp) (n : Nat) (M : List (List Nat)), bfs (runT [rs] [st]) ws.length n = (M, []) → H l = none → Same H H' → ReachAt (runT [rs] [st]) ws H' l M → Q (.ref l) H'
section
variable {P : Program} {w : World} {K : PySem.W.Frag} {mg : Str → Option Value} {base : Heap}
theorem ok_rtR {f : Addr} {fd : FuncData} (D : Df K mg "row_to" sRT pRT f fd) (T : Bt2 mg) : FnOk P w K mg base CX0 1 f fd pRT (spRTR K) := by
  refine D.F.ok scRT (fun vs H Q E h => ?_) (fun cdv A outer s H vs Q E hr h => ?_)
  · obtain ⟨fo, q, r, ws, M, u, rfl, _⟩ := h
    rfl
  · obtain ⟨fo, q, r, ws, M, u, rfl, ⟨kv, hfo, hE⟩, hnd, hpre, hu', hq, hlen, k⟩ := h
    have hu := hu_of hr
    refine ⟨_, pss_cons (ps_set (i := 2) scRT.nd rfl (Or.inl rfl) (pe_lst pa_nil))
      (pss_cons (ps_set (i := 3) scRT.nd rfl (Or.inl rfl) (pe_dget hu (pv 0) (pv 1) (fun _ _ => rfl)))
      (pss_cons (ps_while PassesOwn.never (pt_cmpR op_notN (pv 3) pe_non (nomark _))
        (pss_cons (ps_expr (pe_bm PySem.F.plainAttrs_list PySem.F.slot_list_append PySem.F.type_list_append mt_append (pv 2) (pa_cons (pe_ix (r := rIxT K) ix_tup (pv 3) pe_int (fun _ _ => rfl)) pa_nil)))
        (pss_one (ps_set (i := 3) scRT.nd rfl (Or.inl rfl) (pe_dget hu (pv 0) (pe_ix (r := rIxT K) ix_tup (pv 3) pe_int (fun _ _ => rfl)) (fun _ _ => rfl))))))
      (pss_one (ps_ret (pe_callTy (r := rTu K) call_tuple_of (by rfl) T.tuple PyProof.Rows.boot_tuple (pa_cons (pe_revL (pv 2)) pa_nil)))))), ?_⟩
    refine ⟨Nat.zero_le _, fun l hl => ?_⟩
    have s1 := same_upd (o := .lst []) hl
    have el1 : upd H l (.lst []) l = some (.lst []) := upd_same
    generalize upd H l (.lst []) = H1 at s1 el1 ⊢
    obtain ⟨v0, ev0, hv0⟩ := hE.at hnd hu'
    refine ⟨_, rfl, _, rfl, fo, v0, rfl, by rw [← ev0]; exact DGet.tR (hfo.same s1) (by rw [keyI_kV]; exact s1 _ _ hq), ?_⟩
    refine while_ix (fun m σ H' => ∃ (u1 u2 : List Nat) (v : V), u1.length = m ∧ u = u1 ++ u2 ∧ u1 ∈ M ∧ EVal r ws H v u1 ∧ Same H H' ∧ H' l = some (.lst (names ws u2.reverse)) ∧ σ = [some (.ref fo), some (.ref q), some (.ref l), some v]) u.length ?_ ?_ ?_
    · exact ⟨u, [], v0, rfl, (List.append_nil u).symm, hu', hv0, s1, el1, rfl⟩
    · rintro m σ H2 ⟨u1, u2, v, rfl, eu, hm1, hv, s2, el2, rfl⟩
      refine ⟨_, rfl, rfl, _, rfl, ?_⟩
      rcases hv with ⟨rfl, rfl⟩ | ⟨u', j, t, q', rfl, rfl, ht, hq'⟩
      · refine iteF ?_
        refine ⟨_, rfl, l, _, rfl, SqL.of el2, fun p1 hp1 => ?_⟩
        have e3 : upd H2 p1 (.lst (names ws u2.reverse).reverse) p1 = some (.lst (names ws u2.reverse).reverse) := upd_same
        have s3 := s2.trans (same_upd (o := .lst (names ws u2.reverse).reverse) hp1)
        generalize upd H2 p1 (.lst (names ws u2.reverse).reverse) = H3 at e3 s3 ⊢
        refine ⟨p1, _, rfl, .inl ⟨SqL.of e3, fun p2 hp2 => ?_⟩⟩
        refine k p2 _ (s3.free hp2) (s3.trans (same_upd hp2)) ?_
        rw [upd_same, eu, names, names, List.map_reverse, List.reverse_reverse]; rfl
      · refine iteT ?_
        have hll : (names ws u2.reverse).length < sizeLine := by
          have h1 := congrArg List.length eu
          rw [List.length_append, List.length_append] at h1
          rw [names, List.length_map, List.length_reverse, sizeLine_eq]; omega
        refine ⟨_, rfl, .inl ⟨rfl, _, SqL.of el2⟩, _, rfl, t, _, _, _, rfl, rfl, SqT.of (s2 _ _ ht), atI_nat (j := 1) rfl, l, _, _, rfl, rfl, el2, hll, ?_⟩
        have s3 : Same H (upd H2 l (.lst (names ws u2.reverse ++ [V.str (ws.getD j "")]))) := fun b o e => by rw [upd_ne (ne_of_none e hl)]; exact s2 _ _ e
        have el3 : upd H2 l (.lst (names ws u2.reverse ++ [V.str (ws.getD j "")])) l = some (.lst (names ws (j :: u2).reverse)) := by
          rw [upd_same, names, names, List.reverse_cons, List.map_append]; rfl
        generalize upd H2 l (.lst (names ws u2.reverse ++ [V.str (ws.getD j "")])) = H3 at s3 el3 ⊢
        have hm' := hpre u' j hm1
        obtain ⟨v', ev', hv'⟩ := hE.at hnd hm'
        refine ⟨_, rfl, _, rfl, t, _, _, _, rfl, rfl, SqT.of (s3 _ _ ht), atI_nat (j := 0) rfl, fo, v', rfl, by rw [← ev']; exact DGet.tR (hfo.same s3) (by rw [keyI_kV]; exact s3 _ _ hq'), ?_⟩
        exact ⟨u'.length, by rw [List.length_append]; exact Nat.lt_succ_self _, u', j :: u2, v', rfl, by rw [eu, List.append_assoc]; rfl, hm', hv', s3, el3, rfl⟩
    · rintro σ H Q Q' hQ ⟨v, e, h1, c, h2, h3⟩
      exact ⟨v, e, h1, c, h2, hQ _ _ h3⟩
abbrev nRe : List Str := ["self", "found", "states"]
theorem scRe : FnScope nRe ["self"] (defScope sMReach) := ⟨rfl, rfl, rfl, by decide +kernel, rfl, by decide +kernel, by decide +kernel⟩
theorem ok_reach {C f fS fN fR : Addr} {fd fdS fdN fdR : FuncData} {ds : List Value} (F : Fun K "reached" "Machine.reached" sMReach f fd) (M : Tm K mg C) (T : Bt2 mg) (hz : mg "zip" = none) (FS : FunD K "first_steps" "first_steps" (defArgs sFS) (defBody sFS) (defScope sFS) [.non] [] fS fdS) (gS : mg "first_steps" = some (.ref fS)) (bS : Binds K fdS pFS ds) (vS : Vals [.non] ds)
    (DN : Df K mg "next_layer" sNL pNL fN fdN) (DR : Df K mg "row_to" sRT pRT fR fdR) : FnOk P w K mg base CX0 3 f fd ["self"] (spReach K C) := by
  have GS : FnOk P w K mg base CX0 2 fS fdS pFS (spFS K) := ok_fs FS DN T hz
  have GR : FnOk P w K mg base CX0 1 fR fdR pRT (spRTR K) := ok_rtR DR T
  refine F.ok scRe (fun vs H Q E h => ?_) (fun cdv A outer s H vs Q E hr h => ?_)
  · obtain ⟨x, ws, rs, ss, st, rfl, _⟩ := h
    rfl
  · obtain ⟨x, ws, rs, ss, st, rfl, mx, px, k⟩ := h
    have hr1 : Room 1 _ := hr.mono (by decide)
    refine ⟨_, pss_cons (ps_set (i := 1) scRe.nd rfl (Or.inr rfl) (pe_call GS hr rfl gS FS.kp bS vS pass0 (pa_cons (pe_fld (pv 0) rfl) (pa_cons (pe_tup (pa_cons (pe_fld (pv 0) rfl) pa_nil)) (pa_cons (pe_tup (pa_cons (pe_fld (pv 0) rfl) pa_nil)) pa_nil)))))
      (pss_one (ps_ret (pe_lock (pe_lc (own := [("states", 2)]) (g := gName 2) (by rfl) scRe.nd (pi_keys (pv 1))
          (blkOk_by (own := [("states", 2)]) (N := nRe) (sc := defScope sMReach) (by decide +kernel)) (fun _ _ _ _ _ => pg_name (i := 2) scRe.nd rfl (Or.inl rfl)) (fun _ _ _ _ _ => pts_nil)
          (fun _ _ _ _ _ => pe_tup (pa_cons (pe_ix (r := rIxT K) ix_tup (pv 2) pe_int (fun _ _ => rfl)) (pa_cons (pe_call GR hr1 rfl DR.g DR.F.kp DR.b .nil pass0 (pa_cons (pv 1) (pa_cons (pv 2) pa_nil))) pa_nil))))))), ?_⟩
    obtain ⟨dx, tx, rx, lx, asx, gx1, gx2, gx3, gx4, gx5⟩ := id mx
    have w6 := px.gd.len.2
    have h60 := px.many.2
    have hs0 : StOk [rs] [st] := ⟨rfl, fun i t v e1 e2 => by
      match i, e1, e2 with
      | 0, e1, e2 => cases e1; cases e2; exact px.st
      | _ + 1, e1, _ => simp at e1⟩
    have htab : ∀ t ∈ [rs], TabOk ws.length t := fun t ht => by rw [List.mem_singleton.mp ht]; exact px.tab
    have hpn : prodN [rs] ≤ 3600 := by
      show rs.length * 1 ≤ 3600
      omega
    refine ⟨_, rfl, x, C, dx, _, _, rfl, gx1, M.cl, M.nD, mf_deeds _ _ _ _, _, rfl, x, C, dx, _, _, rfl, gx1, M.cl, M.nR, mf_rows _ _ _ _, Nat.le_of_ble_eq_true rfl, fun t1 ht1 => ?_⟩
    have s1 := same_upd (o := .tup [V.ref rx]) ht1
    have e1 : upd H t1 (.tup [V.ref rx]) t1 = some (.tup ([rx].map V.ref)) := upd_same
    generalize upd H t1 (.tup [V.ref rx]) = H1 at s1 e1 ⊢
    refine ⟨_, rfl, x, C, dx, _, _, rfl, s1 _ _ gx1, M.cl, M.nS, mf_start _ _ _ _, Nat.le_of_ble_eq_true rfl, fun t2 ht2 => ?_⟩
    have s2 := same_upd (o := .tup [V.int st]) ht2
    have e2 : upd H1 t2 (.tup [V.int st]) t2 = some (.tup ([st].map V.int)) := upd_same
    generalize upd H1 t2 (.tup [V.int st]) = H2 at s2 e2 ⊢
    have s12 := s1.trans s2
    refine ⟨tx, t1, t2, .non, none, ws, [rs], [st], rfl, .inl ⟨rfl, rfl⟩, (gx2.same s12).sq, ⟨[rx], SqT.of (s2 _ _ e1), rfl, fun i a' t' f1 f2 => ?_⟩, e2, htab, hs0, w6, hpn, by simp, fun fo H3 n M0 B eb hB hfo s3 dfo => ?_⟩
    · match i, f1, f2 with
      | 0, f1, f2 => cases f1; cases f2; exact ⟨asx, s12 _ _ gx3, gx4.1, fun j b' q' g1 g2 => s12 _ _ (gx4.2 j b' q' g1 g2)⟩
      | _ + 1, f1, _ => simp at f1
    have hB0 : B = [] := by
      rcases hB with h | ⟨m, h, _⟩
      · exact h
      · cases h
    subst hB0
    rw [List.append_nil] at eb dfo
    have I : BfsI (runT [rs] [st]) ws.length n M0 [] := by
      have := bfs_ok (runT_c [rs] [st]) ws.length n
      rw [eb] at this
      exact this
    have hml : M0.length ≤ prodN [rs] := met_len hs0 htab I.nd I.lt
    have hrun : ∀ u, (∀ k ∈ u, k < ws.length) → StOk [rs] (runT [rs] [st] u) := fun u => hs0.run htab u
    generalize hR : runT [rs] [st] = r at *
    obtain ⟨kv, hfo3, hE⟩ := id dfo
    have s03 := s12.trans s3
    refine ⟨fo, .dT kv, hfo3, trivial, fun od => ?_⟩
    have ef : upd H3 fo (.frz od (.dT kv)) fo = some (.frz od (.dT kv)) := upd_same
    have kf : KeepT H3 (upd H3 fo (.frz od (.dT kv))) := KeepT.updT hfo3
    have kx : ∀ b o, b ≠ fo → H3 b = some o → upd H3 fo (.frz od (.dT kv)) b = some o := fun b o nb e => by rw [upd_ne nb]; exact e
    generalize upd H3 fo (.frz od (.dT kv)) = Hf at ef kf kx ⊢
    have hEf := hE.keep kf
    refine ⟨_, rfl, fo, od, rfl, .inr ⟨kv, ef, fun D hD => ?_⟩⟩
    refine lc_it (walk_keysT (d := fo) (o := od) (kvs := kv)) (fun i H' => Same Hf H' ∧ ∃ ts : List Addr, H' D = some (.lst (ts.map V.ref)) ∧ ts.length = i ∧ ∀ (j : Nat) (t : Addr) (u : List Nat), ts[j]? = some t → M0[j]? = some u → t ≠ D ∧ ∃ q, q ≠ D ∧ H' t = some (.tup [.int ((r u).getD 0 0), .ref q]) ∧ H' q = some (.tup (names ws u))) ?_ ?_ ?_ ?_
    · exact ⟨same_upd hD, [], upd_same, rfl, fun j t u e => by simp at e⟩
    · exact fun i H' _ p => p.1 _ _ ef
    · rintro i y H4 H5 hi ⟨sm, ts, hD4, hts, hj⟩ ⟨rfl, key, v, q, hkv, rfl, hq⟩
      have hiM : i < M0.length := by rw [← hE.1]; exact hi
      have eu : M0[i]? = some M0[i] := List.getElem?_eq_getElem hiM
      have hmem := List.getElem_mem hiM
      generalize M0[i] = u at eu hmem
      obtain ⟨rfl, hev⟩ := hEf.2 i _ _ _ hkv eu
      rw [keyI_kV] at hq
      obtain ⟨cc, ece⟩ : ∃ cc, r u = [cc] := by
        have := (hrun u (I.lt u hmem)).1
        match hru : r u, this with
        | [cc], _ => exact ⟨cc, rfl⟩
      have hlu := pre_len I.pre hmem
      refine ⟨rfl, _, rfl, q, _, 0, _, rfl, rfl, SqT.of hq, atI_nat (j := 0) (v := V.int ((r u).getD 0 0)) (by rw [ece]; rfl), _, rfl, _, rfl, fo, q, r, ws, M0, u, rfl, ⟨kv, .inr ⟨od, sm _ _ ef⟩, hEf.keep (.of sm)⟩, I.nd, I.pre, hmem, hq, by omega, fun p H6 hp s6 e6 => ?_⟩
      refine ⟨Nat.le_of_ble_eq_true rfl, fun t ht => ?_⟩
      have s7 := s6.trans (same_upd (o := .tup [V.int ((r u).getD 0 0), V.ref p]) ht)
      have et : upd H6 t (.tup [V.int ((r u).getD 0 0), V.ref p]) t = some (.tup [V.int ((r u).getD 0 0), V.ref p]) := upd_same
      have ep := (same_upd (o := .tup [V.int ((r u).getD 0 0), V.ref p]) ht) _ _ e6
      have nDp : p ≠ D := (ne_of_none hD4 hp).symm
      have nDt : t ≠ D := (ne_of_none (s6 _ _ hD4) ht).symm
      generalize upd H6 t (.tup [V.int ((r u).getD 0 0), V.ref p]) = H7 at s7 et ep ⊢
      refine ⟨_, s7 _ _ hD4, ?_, fun b o e => by rw [upd_ne (ne_of_none e hD)]; exact s7 _ _ (sm _ _ e), ts ++ [t], by rw [upd_same]; simp, by simp [hts], fun j t' u' f1 f2 => ?_⟩
      · rw [List.length_map, hts, sizeLine_eq]; omega
      · by_cases hjl : j < ts.length
        · rw [List.getElem?_append_left hjl] at f1
          obtain ⟨n1, q', n2, g1, g2⟩ := hj j t' u' f1 f2
          exact ⟨n1, q', n2, by rw [upd_ne n1]; exact s7 _ _ g1, by rw [upd_ne n2]; exact s7 _ _ g2⟩
        · rw [List.getElem?_append_right (by omega)] at f1
          cases hjz : j - ts.length with
          | zero =>
            rw [hjz] at f1
            simp at f1
            subst f1
            have ej : j = i := by omega
            rw [ej, eu] at f2
            cases f2
            exact ⟨nDt, p, nDp, by rw [upd_ne nDt]; exact et, by rw [upd_ne nDp]; exact ep⟩
          | succ z => rw [hjz] at f1; simp at f1
    · rintro H4 ⟨sm, ts, hD4, hts, hj⟩
      have ef4 := sm _ _ ef
      have nDf : D ≠ fo := (ne_of_none ef hD).symm
      refine ⟨ef4, k D _ n M0 eb ?_ (fun b o e => ?_) ⟨ts, by rw [upd_ne nDf]; exact hD4, by rw [hts, hE.1], fun j t u f1 f2 => ?_⟩⟩
      · refine s12.free (s3.free ?_)
        cases hz : H3 D with
        | none => rfl
        | some z => rw [kx D z nDf hz] at hD; cases hD
      · have nb : b ≠ fo := ne_of_none (s12 _ _ e) hfo
        rw [upd_ne nb]
        exact sm _ _ (kx _ _ nb (s03 _ _ e))
      · obtain ⟨n1, q, n2, g1, g2⟩ := hj j t u f1 f2
        exact ⟨q, by rw [upd_ne (ne_of g1 ef4 (by intro z; cases z))]; exact g1, by rw [upd_ne (ne_of g2 ef4 (by intro z; cases z))]; exact g2⟩
end
end K1
set_option Elab.async false
set_option linter.all false
set_option maxRecDepth 100000
namespace K1
open PySem L2 LamX
theorem PlainAt.same {H H' : Hp} {p : Addr} {ws : List Str} {rs : List (List Int)} {ss : List Str} {st : Int} (h : PlainAt H p ws rs ss st) (s : Same H H') : PlainAt H' p ws rs ss st := by
  obtain ⟨t, r, l, as, h1, h2, h3, h4, h5⟩ := h.ex
  exact ⟨t, r, l, as, s _ _ h1, h2.same s, s _ _ h3, s _ _ h4, h5.same s⟩
theorem len_word {z : Str} (h : wordB (.str z) = true) : z.length ≤ 12 := by
  have h' : wordL z.cps.toList = true := h
  rw [len_tl]
  cases e : z.cps.toList with
  | nil => simp
  | cons c r =>
    rw [e] at h'
    unfold wordL at h'
    exact of_decide_eq_true (Bool.and_eq_true_iff.mp h').1
theorem Wd.word {z : Str} (h : Wd z) : wordB (.str z) = true := by
  obtain ⟨c, r, e, h1, h2, h3⟩ := h
  show wordL z.cps.toList = true
  rw [e]
  unfold wordL
  simp only [Bool.and_eq_true, decide_eq_true_eq, List.all_eq_true]
  refine ⟨by simp; omega, h1, fun x hx => ?_⟩
  rcases List.mem_cons.mp hx with rfl | h
  · exact LE_AL h1
  · exact h2 x h
theorem Wd.short {z : Str} (h : Wd z) : z.length ≤ 1000 := by have := len_word h.word; omega
theorem made_same {H G : Hp} {x dx C : Addr} (hx : H x = none) (hd : H dx = none) (k : Kept x (upd (upd H dx (.own x)) x (.ins C dx [])) G) : Same H G := fun b o e => by
  have n1 : b ≠ x := ne_of_none e hx
  have n2 : b ≠ dx := ne_of_none e hd
  exact k b o (by rw [upd_ne n1, upd_ne n2]; exact e) n1
theorem made_pre {H : Hp} {x dx C : Addr} (hx : H x = none) (hd : H dx = none) : Same H (upd (upd H dx (.own x)) x (.ins C dx [])) := fun b o e => by
  rw [upd_ne (ne_of_none e hx), upd_ne (ne_of_none e hd)]; exact e
end K1
set_option Elab.async false
set_option linter.all false
set_option maxRecDepth 100000
/-! marks and lots made -/
namespace K1
open PySem L2 LamX
abbrev sKInit : Stmt := inClass (top 28) 0
abbrev sLInit : Stmt := inClass (top 29) 0
abbrev sLGet : Stmt := inClass (top 29) 4
abbrev sLAfter : Stmt := inClass (top 29) 5
abbrev sLLook : Stmt := inClass (top 29) 6
abbrev sLRead : Stmt := inClass (top 29) 7
abbrev sChkV : Stmt := top 30
/-- a mark's parts: a machine over the deeds, a rule -/
structure Pm where
  rs : List (List Int)
  ss : List Str
  st : Int
  ru : Str
def rules : List Str := ["kept", "cleared"]
structure PmOk (ws : List Str) (m : Pm) : Prop where
  pt : Parts ws m.rs m.ss m.st
  ru : m.ru ∈ rules
def kf (x : Addr) (ru : Str) : List (Str × V) := putF "rule" (.str ru) (putF "machine" (.ref x) [])
def lf (q b : Addr) : List (Str × V) := putF "begin" (.ref b) (putF "marks" (.ref q) [])
theorem kf_m (x : Addr) (ru : Str) : (kf x ru).lookup ("machine" : Str) = some (.ref x) := by
  unfold kf; rw [lookup_putF, if_neg (by decide +kernel), lookup_putF, if_pos rfl]
theorem kf_r (x : Addr) (ru : Str) : (kf x ru).lookup ("rule" : Str) = some (.str ru) := by
  unfold kf; rw [lookup_putF, if_pos rfl]
theorem lf_m (q b : Addr) : (lf q b).lookup ("marks" : Str) = some (.ref q) := by
  unfold lf; rw [lookup_putF, if_neg (by decide +kernel), lookup_putF, if_pos rfl]
theorem lf_b (q b : Addr) : (lf q b).lookup ("begin" : Str) = some (.ref b) := by
  unfold lf; rw [lookup_putF, if_pos rfl]
theorem lf_no (q b : Addr) {f : Str} (h1 : f ≠ "begin") (h2 : f ≠ "marks") : (lf q b).lookup f = none := by
  unfold lf; rw [lookup_putF, if_neg h1, lookup_putF, if_neg h2]; rfl
/-- what the classes bring -/
structure Tk (K : PySem.W.Frag) (mg : Str → Option Value) (C : Addr) : Prop where
  cl : Cls K C
  nM : NoAttr K C "machine"
  nR : NoAttr K C "rule"
  mgC : mg "Mark" = some (.ref C)
structure Tl2 (K : PySem.W.Frag) (mg : Str → Option Value) (C : Addr) : Prop where
  cl : Cls K C
  nM : NoAttr K C "marks"
  nB : NoAttr K C "begin"
  mgC : mg "Lot" = some (.ref C)
def MarkAt (K : PySem.W.Frag) (C CM : Addr) (H : Hp) (a : Addr) (ws : List Str) (m : Pm) : Prop := ∃ dx x, H a = some (.ins CM dx (kf x m.ru)) ∧ MachAt K C H x ws m.rs m.ss m.st
theorem MarkAt.same {K : PySem.W.Frag} {C CM : Addr} {H H' : Hp} {a : Addr} {ws : List Str} {m : Pm} (h : MarkAt K C CM H a ws m) (s : Same H H') : MarkAt K C CM H' a ws m := by
  obtain ⟨dx, x, h1, h2⟩ := h
  exact ⟨dx, x, s _ _ h1, h2.same s⟩
/-- kept but for x, an instance without fields: nothing of a machine is lost -/
theorem MachAt.kept {K : PySem.W.Frag} {C z Cz dz : Addr} {H H' : Hp} {x : Addr} {ws : List Str} {rs : List (List Int)} {ss : List Str} {st : Int} {fs : List (Str × V)} (h : MachAt K C H x ws rs ss st) (hz : H z = some (.ins Cz dz fs)) (hf : fs.lookup ("deeds" : Str) = none) (k : Kept z H H') : MachAt K C H' x ws rs ss st := by
  obtain ⟨dx, t, r, l, as, h1, h2, h3, h4, h5⟩ := h
  refine ⟨dx, t, r, l, as, k _ _ h1 (fun e => ?_), k.seqF hz (fun o ys e => by cases e) h2, k _ _ h3 (ne_of h3 hz (by intro z; cases z)), ⟨h4.1, fun i a r e1 e2 => k _ _ (h4.2 i a r e1 e2) (ne_of (h4.2 i a r e1 e2) hz (by intro z; cases z))⟩, k _ _ h5 (ne_of h5 hz (by intro z; cases z))⟩
  rw [e, hz] at h1
  cases h1
  rw [mf_deeds] at hf
  cases hf
theorem MarkAt.kept {K : PySem.W.Frag} {C CM z Cz dz : Addr} {H H' : Hp} {a : Addr} {ws : List Str} {m : Pm} {fs : List (Str × V)} (h : MarkAt K C CM H a ws m) (hz : H z = some (.ins Cz dz fs)) (hf : fs.lookup ("deeds" : Str) = none) (hf2 : fs.lookup ("rule" : Str) = none) (k : Kept z H H') : MarkAt K C CM H' a ws m := by
  obtain ⟨dx, x, h1, h2⟩ := h
  refine ⟨dx, x, k _ _ h1 (fun e => ?_), h2.kept hz hf k⟩
  rw [e, hz] at h1
  cases h1
  rw [kf_r] at hf2
  cases hf2
def MarksAt (K : PySem.W.Frag) (C CM : Addr) (H : Hp) (as : List Addr) (ws : List Str) (ms : List Pm) : Prop := as.length = ms.length ∧ ∀ (i : Nat) (a : Addr) (m : Pm), as[i]? = some a → ms[i]? = some m → MarkAt K C CM H a ws m
theorem MarksAt.same {K : PySem.W.Frag} {C CM : Addr} {H H' : Hp} {as : List Addr} {ws : List Str} {ms : List Pm} (h : MarksAt K C CM H as ws ms) (s : Same H H') : MarksAt K C CM H' as ws ms := ⟨h.1, fun i a m e1 e2 => (h.2 i a m e1 e2).same s⟩
theorem MarksAt.kept {K : PySem.W.Frag} {C CM z Cz dz : Addr} {H H' : Hp} {as : List Addr} {ws : List Str} {ms : List Pm} {fs : List (Str × V)} (h : MarksAt K C CM H as ws ms) (hz : H z = some (.ins Cz dz fs)) (hf : fs.lookup ("deeds" : Str) = none) (hf2 : fs.lookup ("rule" : Str) = none) (k : Kept z H H') : MarksAt K C CM H' as ws ms :=
  ⟨h.1, fun i a m e1 e2 => (h.2 i a m e1 e2).kept hz hf hf2 k⟩
theorem MarksAt.get {K : PySem.W.Frag} {C CM : Addr} {H : Hp} {as : List Addr} {ws : List Str} {ms : List Pm} (h : MarksAt K C CM H as ws ms) {i : Nat} (hi : i < ms.length) : ∃ a, as[i]? = some a ∧ ms[i]? = some ms[i] ∧ MarkAt K C CM H a ws ms[i] := by
  have hi' : i < as.length := by rw [h.1]; exact hi
  exact ⟨as[i], List.getElem?_eq_getElem hi', List.getElem?_eq_getElem hi, h.2 i _ _ (List.getElem?_eq_getElem hi') (List.getElem?_eq_getElem hi)⟩
def LotAt (K : PySem.W.Frag) (C CM CL : Addr) (H : Hp) (x : Addr) (ws : List Str) (ms : List Pm) : Prop := ∃ dx q b as, H x = some (.ins CL dx (lf q b)) ∧ H q = some (.tup (as.map V.ref)) ∧ SqT K H b ((ms.map Pm.st).map V.int) ∧ MarksAt K C CM H as ws ms
theorem LotAt.same {K : PySem.W.Frag} {C CM CL : Addr} {H H' : Hp} {x : Addr} {ws : List Str} {ms : List Pm} (h : LotAt K C CM CL H x ws ms) (s : Same H H') : LotAt K C CM CL H' x ws ms := by
  obtain ⟨dx, q, b, as, h1, h2, h3, h4⟩ := h
  exact ⟨dx, q, b, as, s _ _ h1, s _ _ h2, h3.ext s, h4.same s⟩
def spKInit (K : PySem.W.Frag) (CM : Addr) : Sp := fun vs H Q _ => ∃ (a dx x : Addr) (ru : Str), vs = [.ref a, .ref x, .str ru] ∧ H a = some (.ins CM dx []) ∧ ru ∈ rules ∧ ∀ H', H' a = some (.ins CM dx (kf x ru)) → Kept a H H' → Q .non H'
def spLInit (K : PySem.W.Frag) (C CM CL : Addr) : Sp := fun vs H Q _ => ∃ (x dx l : Addr) (as : List Addr) (ws : List Str) (ms : List Pm), vs = [.ref x, .ref l] ∧ H x = some (.ins CL dx []) ∧ SqL K H l (as.map V.ref) ∧ MarksAt K C CM H as ws ms ∧ ms.length ≤ 6 ∧ OkS ws ∧ ∀ H', LotAt K C CM CL H' x ws ms → Kept x H H' → Q .non H'
theorem rules_sh : SeqAt.shaped (.tuple (rules.map PyData.str)) = true := shaped_strs (fun z hz => (by decide +kernel : ∀ z ∈ rules, PyData.strOk z = true) z hz)
theorem rule_ok {z : Str} (h : z ∈ rules) : PyData.strOk z = true := (by decide +kernel : ∀ z ∈ rules, PyData.strOk z = true) z h
section
variable {P : Program} {w : World} {K : PySem.W.Frag} {mg : Str → Option Value} {base : Heap}
/-- the module's own constants -/
structure Bk (K : PySem.W.Frag) (mg : Str → Option Value) : Prop where
  RU : ∃ p, mg "RULES" = some (.ref p) ∧ ∀ H : Hp, SqT K H p (rules.map V.str)
  MM : ∃ t, mg "MOST_MARKS" = some (.int 6 t)
abbrev pKI : List Str := ["self", "machine", "rule"]
theorem scKI : FnScope pKI pKI (defScope sKInit) := ⟨rfl, rfl, rfl, by decide +kernel, rfl, by decide +kernel, by decide +kernel⟩
theorem ok_kinit {CM f : Addr} {fd : FuncData} (F : Fun K "__init__" "Mark.__init__" sKInit f fd) (M : Tk K mg CM) (B : Bk K mg) : FnOk P w K mg base CX0 1 f fd pKI (spKInit K CM) := by
  refine F.ok scKI (fun vs H Q E h => ?_) (fun cdv A outer s H vs Q E hr h => ?_)
  · obtain ⟨a, dx, x, ru, rfl, _⟩ := h
    rfl
  · obtain ⟨a, dx, x, ru, rfl, ha, hru, k⟩ := h
    obtain ⟨pR, gR, qR⟩ := B.RU
    refine ⟨_, pss_cons (ps_if (pt_cmpR (op_notInT (room65 hr)) (pv 2) (pe_glob (v := .ref pR) rfl gR rfl) (by rfl)) pss_never pss_nil)
      (pss_cons (ps_fld (pv 0) (pv 1) rfl) (pss_one (ps_fld (pv 0) (pv 2) rfl))), ?_⟩
    refine ⟨_, rfl, .str ru, _, .str _, .tup (qR H) (dp_strs rules), shaped_of (by rw [PyData.canLay0]; exact rule_ok hru) (Nat.zero_le _), rules_sh, _, rfl, ?_⟩
    have e1 : ((rules.map PyData.str).any fun q => PyData.eqv q (.str ru)) = true := by
      rw [List.any_eq_true]
      exact ⟨_, List.mem_map_of_mem hru, by rw [eqv_str]; simp⟩
    rw [if_pos rfl, e1]
    refine iteF ?_
    refine ⟨_, rfl, _, rfl, a, CM, dx, _, rfl, ha, M.cl, M.nM, by simp, ?_⟩
    refine ⟨_, rfl, _, rfl, a, CM, dx, _, rfl, upd_same, M.cl, M.nR, (by show 1 < 1000; decide), ?_⟩
    refine k _ upd_same fun b u e n => ?_
    rw [upd_ne n, upd_ne n]; exact e
def argOf : Expr → Expr
  | .Call _ (a :: _) _ _ => a
  | e => e
abbrev eLI : Expr := argOf (valOf (stOf sLInit 3))
abbrev scLo : Scope := compScope eLI
abbrev pLI : List Str := ["self", "marks"]
abbrev nLI : List Str := ["self", "marks", "mark"]
theorem scLI : FnScope nLI pLI (defScope sLInit) := ⟨rfl, rfl, rfl, by decide +kernel, rfl, by decide +kernel, by decide +kernel⟩
theorem ok_linit {C CM CL f : Addr} {fd : FuncData} (F : Fun K "__init__" "Lot.__init__" sLInit f fd) (M : Tm K mg C) (MK : Tk K mg CM) (ML : Tl2 K mg CL) (T : Bt2 mg) (B : Bk K mg) : FnOk P w K mg base CX0 1 f fd pLI (spLInit K C CM CL) := by
  refine F.ok scLI (fun vs H Q E h => ?_) (fun cdv A outer s H vs Q E hr h => ?_)
  · obtain ⟨x, dx, l, as, ws, ms, rfl, _⟩ := h
    rfl
  · obtain ⟨x, dx, l, as, ws, ms, rfl, hx, hl, hM, h6, ok, k⟩ := h
    obtain ⟨tM, gM⟩ := B.MM
    have hin : ∀ (s' : Shared) (H' : Hp) (C' : Addr) (cl' : List (Str × Addr)) (fp' : List Addr), PE (Cx.blk (cxOf CX0 P w K mg base nLI "Lot.__init__" (defScope sLInit) f cdv A outer s H E) s' H' scLo (compEnvC scLo cl' C' (cxOf CX0 P w K mg base nLI "Lot.__init__" (defScope sLInit) f cdv A outer s H E).env) fp')
        (eltOf eLI) (tFld K (tFld K (tVar 2) "machine") "start") := fun s' H' C' cl' fp' => pe_fld (pe_fld (pv 2) rfl) rfl
    refine ⟨_, pss_cons (ps_if (pt_cmpR op_gt (pe_callB call_len (by rfl) T.len PySem.boot_len (pa_cons (pv 1) pa_nil)) (pe_glob (v := .int 6) rfl gM ⟨_, rfl⟩) (nomark _)) pss_never pss_nil)
      (pss_cons (ps_for PassesOwn.never rfl (pi_list (pv 1)) (pg_name (i := 2) scLI.nd rfl (Or.inl rfl))
        (pss_one (ps_if (pt_cmpR (op_neD hr.units) (pe_fld (pe_fld (pv 2) rfl) rfl) (pe_fld (pe_fld (pe_ix ix_list (pv 1) pe_int (fun _ _ => rfl)) rfl) rfl) (nomark _)) pss_never pss_nil)))
      (pss_cons (ps_fld (pv 0) (pe_callTy (r := rTu K) call_tuple_of (by rfl) T.tuple PyProof.Rows.boot_tuple (pa_cons (pv 1) pa_nil)) rfl)
      (pss_one (ps_fld (pv 0) (pe_callTy (r := rTu K) call_tuple_of (by rfl) T.tuple PyProof.Rows.boot_tuple (pa_cons (pe_lc (own := [("mark", 2)]) (g := gName 2) (by rfl) scLI.nd (pi_list (pv 1))
          (blkOk_by (own := [("mark", 2)]) (N := nLI) (sc := defScope sLInit) (by decide +kernel)) (fun _ _ _ _ _ => pg_name (i := 2) scLI.nd rfl (Or.inl rfl)) (fun _ _ _ _ _ => pts_nil)
          hin) pa_nil)) rfl)))), ?_⟩
    have hln : (as.map V.ref).length = ms.length := by rw [List.length_map, hM.1]
    refine ⟨_, rfl, _, ms.length, rfl, .inl ⟨_, hl, hln.symm⟩, _, _, rfl, rfl, _, rfl, ?_⟩
    refine ite2 (fun h => absurd (of_decide_eq_true h) (by omega)) (fun _ => ?_)
    refine ⟨_, rfl, l, rfl, ⟨_, hl⟩, for_list (K := K) (a := l) (xs := as.map V.ref) (fun i σ H' => H' = H ∧ ∃ v2, σ = [some (.ref x), some (.ref l), v2]) ⟨rfl, none, rfl⟩ (fun i σ H' _ p => by rw [p.1]; exact hl) ?_ ?_⟩
    · rintro i y σ H1 hi ⟨rfl, v2, rfl⟩
      rw [List.getElem?_map] at hi
      obtain ⟨a, ea, rfl⟩ := Option.map_eq_some_iff.mp hi
      have hil : i < ms.length := by rw [← hM.1]; exact (List.getElem?_eq_some_iff.mp ea).1
      obtain ⟨a', ea', em, dk, xk, hk, mk⟩ := hM.get hil
      rw [ea] at ea'; cases ea'
      obtain ⟨a0, ea0, em0, dk0, xk0, hk0, mk0⟩ := hM.get (i := 0) (by omega)
      obtain ⟨dm, t, r, lt, bs, hm, htm, _⟩ := id mk
      obtain ⟨dm0, t0, r0, lt0, bs0, hm0, htm0, _⟩ := id mk0
      refine ⟨_, rfl, a, CM, dk, _, _, rfl, hk, MK.cl, MK.nM, kf_m _ _, xk, C, dm, _, _, rfl, hm, M.cl, M.nD, mf_deeds _ _ _ _, ?_⟩
      refine ⟨_, rfl, l, _, 0, _, rfl, rfl, hl, ?_, a0, CM, dk0, _, _, rfl, hk0, MK.cl, MK.nM, kf_m _ _, xk0, C, dm0, _, _, rfl, hm0, M.cl, M.nD, mf_deeds _ _ _ _, _, _, .tup htm.sq (dp_strs ws), .tup htm0.sq (dp_strs ws), shaped_strs ok, shaped_strs ok, _, rfl, ?_⟩
      · refine atI_nat (j := 0) ?_
        rw [List.getElem?_map, ea0]; rfl
      rw [PyData.eqv, eqv_strs]
      refine ite2 (fun h => absurd h (by simp)) (fun _ => ?_)
      exact ⟨rfl, _, rfl⟩
    · rintro σ H1 ⟨rfl, v2, rfl⟩
      refine ⟨_, rfl, l, _, rfl, .inl ⟨hl, fun q hq => ?_⟩⟩
      have s1 := same_upd (o := .tup (as.map V.ref)) hq
      have hx1 := s1 _ _ hx
      refine ⟨_, rfl, x, CL, dx, _, rfl, hx1, ML.cl, ML.nM, by simp, ?_⟩
      have nxq : q ≠ x := (ne_of_none hx hq).symm
      have k2 : Kept x H1 (upd (upd H1 q (.tup (as.map V.ref))) x (.ins CL dx (putF "marks" (.ref q) []))) := fun b u e n => by rw [upd_ne n]; exact s1 _ _ e
      have hx2 : upd (upd H1 q (.tup (as.map V.ref))) x (.ins CL dx (putF "marks" (.ref q) [])) x = some (.ins CL dx (putF "marks" (.ref q) [])) := upd_same
      have hq2 : upd (upd H1 q (.tup (as.map V.ref))) x (.ins CL dx (putF "marks" (.ref q) [])) q = some (.tup (as.map V.ref)) := by rw [upd_ne nxq]; exact upd_same
      have hM2 := hM.kept hx rfl rfl k2
      have hl2 : SqL K (upd (upd H1 q (.tup (as.map V.ref))) x (.ins CL dx (putF "marks" (.ref q) []))) l (as.map V.ref) := k2.seqI hx hl
      generalize upd (upd H1 q (.tup (as.map V.ref))) x (.ins CL dx (putF "marks" (.ref q) [])) = H2 at k2 hx2 hq2 hM2 hl2 ⊢
      refine ⟨_, rfl, l, rfl, ⟨_, hl2⟩, fun D hD => ?_⟩
      refine lc_list (K := K) (a := l) (xs := as.map V.ref) (fun i H' => Same H2 H' ∧ H' D = some (.lst ((ms.take i).map Pm.st |>.map V.int))) ?_ ?_ ?_ ?_
      · exact ⟨same_upd hD, upd_same⟩
      · exact fun i H' _ p => p.1.seq hl2
      · rintro i y H3 hi ⟨s3, hD3⟩
        rw [List.getElem?_map] at hi
        obtain ⟨a, ea, rfl⟩ := Option.map_eq_some_iff.mp hi
        have hil : i < ms.length := by rw [← hM.1]; exact (List.getElem?_eq_some_iff.mp ea).1
        obtain ⟨a', ea', em, dk, xk, hk, mk⟩ := (hM2.same s3).get hil
        rw [ea] at ea'; cases ea'
        obtain ⟨dm, t, r, lt, bs, hm, htm, _⟩ := id mk
        refine ⟨rfl, _, rfl, a, CM, dk, _, _, rfl, hk, MK.cl, MK.nM, kf_m _ _, xk, C, dm, _, _, rfl, hm, M.cl, M.nS, mf_start _ _ _ _, _, hD3, ?_, ?_, ?_⟩
        · rw [List.length_map, List.length_map, List.length_take]; exact small1000 (by omega)
        · exact fun b u e => by rw [upd_ne (ne_of_none e hD)]; exact s3 b u e
        · have e : ms.take (i + 1) = ms.take i ++ [ms[i]] := by rw [List.take_add_one, em]; rfl
          rw [upd_same, e, List.map_append, List.map_append]; rfl
      · rintro H3 ⟨s3, hD3⟩
        rw [List.length_map, hM.1, List.take_length] at hD3
        refine ⟨D, _, rfl, .inl ⟨SqL.of hD3, fun b hb => ?_⟩⟩
        have s4 := s3.trans (same_upd (o := .tup ((ms.map Pm.st).map V.int)) hb)
        have hx4 := s4 _ _ hx2
        refine ⟨_, rfl, x, CL, dx, _, rfl, hx4, ML.cl, ML.nB, (by show 1 < 1000; decide), ?_⟩
        have nxb : b ≠ x := (ne_of_none (s3 _ _ hx2) hb).symm
        have k5 : Kept x (upd H3 b (.tup ((ms.map Pm.st).map V.int))) (upd (upd H3 b (.tup ((ms.map Pm.st).map V.int))) x (.ins CL dx (lf q b))) := Kept.self
        refine k _ ⟨dx, q, b, as, upd_same, k5 _ _ (s4 _ _ hq2) nxq, SqT.of (by rw [upd_ne nxb]; exact upd_same), (hM2.same s4).kept hx4 rfl rfl k5⟩ ((k2.trans (Kept.same s4)).trans k5)
end
end K1
set_option Elab.async false
set_option linter.all false
set_option maxRecDepth 100000
/-! lots: an item -/
namespace K1
open PySem L2 LamX
/-- values of a lot's marks -/
def VOk (ms : List Pm) (vals : List Int) : Prop := vals.length = ms.length ∧ ∀ (i : Nat) (m : Pm) (v : Int), ms[i]? = some m → vals[i]? = some v → 0 ≤ v ∧ v < (m.rs.length : Int)
def ledL (ms : List Pm) (ks vals : List Int) : List Int := List.zipWith (fun m v => led m.rs ks v) ms vals
def seenL (ms : List Pm) (vals : List Int) : List Str := List.zipWith (fun m v => m.ss.getD v.toNat "") ms vals
def leftL (ms : List Pm) (vals : List Int) : List Int := List.zipWith (fun m v => if m.ru = ("cleared" : Str) then m.st else v) ms vals
theorem zw_get {α β γ : Type} {f : α → β → γ} {xs : List α} {ys : List β} {i : Nat} {x : α} {y : β} (h1 : xs[i]? = some x) (h2 : ys[i]? = some y) : (List.zipWith f xs ys)[i]? = some (f x y) := by
  rw [List.getElem?_zipWith, h1, h2]
theorem zw_inv {α β γ : Type} {f : α → β → γ} {xs : List α} {ys : List β} {i : Nat} {z : γ} (h : (List.zipWith f xs ys)[i]? = some z) : ∃ x y, xs[i]? = some x ∧ ys[i]? = some y ∧ z = f x y := by
  rw [List.getElem?_zipWith] at h
  cases hx : xs[i]? with
  | none => rw [hx] at h; simp at h
  | some x =>
    cases hy : ys[i]? with
    | none => rw [hx, hy] at h; simp at h
    | some y => rw [hx, hy] at h; exact ⟨x, y, rfl, rfl, by simpa using h.symm⟩
theorem VOk.len {ms : List Pm} {vals : List Int} (h : VOk ms vals) {γ : Type} (f : Pm → Int → γ) : (List.zipWith f ms vals).length = ms.length := by rw [List.length_zipWith, h.1]; simp
theorem VOk.led {ws : List Str} {ms : List Pm} {vals ks : List Int} (h : VOk ms vals) (ok : ∀ m ∈ ms, PmOk ws m) (ix : Ix ws.length ks) : VOk ms (ledL ms ks vals) := by
  refine ⟨h.len _, fun i m v em ev => ?_⟩
  obtain ⟨m', v', e1, e2, rfl⟩ := zw_inv ev
  rw [em] at e1; cases e1
  have hv := h.2 i m v' em e2
  exact (ok m (List.mem_of_getElem? em)).pt.led ix hv.1 hv.2
theorem VOk.left {ws : List Str} {ms : List Pm} {vals : List Int} (h : VOk ms vals) (ok : ∀ m ∈ ms, PmOk ws m) : VOk ms (leftL ms vals) := by
  refine ⟨h.len _, fun i m v em ev => ?_⟩
  obtain ⟨m', v', e1, e2, rfl⟩ := zw_inv ev
  rw [em] at e1; cases e1
  have hv := h.2 i m v' em e2
  have hs := (ok m (List.mem_of_getElem? em)).pt.st
  by_cases hc : m.ru = ("cleared" : Str)
  · rw [if_pos hc]; exact hs
  · rw [if_neg hc]; exact hv
theorem VOk.begin {ws : List Str} {ms : List Pm} (ok : ∀ m ∈ ms, PmOk ws m) : VOk ms (ms.map Pm.st) := by
  refine ⟨List.length_map _, fun i m v em ev => ?_⟩
  rw [List.getElem?_map, em] at ev
  cases ev
  exact (ok m (List.mem_of_getElem? em)).pt.st
def spLGet (K : PySem.W.Frag) (C CM CL : Addr) : Sp := fun vs H Q _ => ∃ (x : Addr) (i : Int) (j : Nat) (ws : List Str) (ms : List Pm) (m : Pm), vs = [.ref x, .int i] ∧ LotAt K C CM CL H x ws ms ∧ ixN ms.length i = some j ∧ ms[j]? = some m ∧ ∀ a, MarkAt K C CM H a ws m → Q (.ref a) H
section
variable {P : Program} {w : World} {K : PySem.W.Frag} {mg : Str → Option Value} {base : Heap}
theorem scLGet : FnScope ["self", "at"] ["self", "at"] (defScope sLGet) := ⟨rfl, rfl, rfl, by decide +kernel, rfl, by decide +kernel, by decide +kernel⟩
theorem ok_lget {C CM CL f : Addr} {fd : FuncData} (F : Fun K "__getitem__" "Lot.__getitem__" sLGet f fd) (ML : Tl2 K mg CL) : FnOk P w K mg base CX0 1 f fd ["self", "at"] (spLGet K C CM CL) := by
  refine F.ok scLGet (fun vs H Q E h => ?_) (fun cdv A outer s H vs Q E hr h => ?_)
  · obtain ⟨x, i, j, ws, ms, m, rfl, _⟩ := h
    rfl
  · obtain ⟨x, i, j, ws, ms, m, rfl, ⟨dx, q, b, as, hx, hq, hb, hM⟩, hij, em, k⟩ := h
    have hi : j < ms.length := (List.getElem?_eq_some_iff.mp em).1
    obtain ⟨a, ea, em', mk⟩ := hM.get hi
    rw [em] at em'; cases em'
    refine ⟨_, pss_one (ps_ret (pe_ix ix_tup (pe_fld (pv 0) rfl) (pv 1) (fun _ _ => rfl))), ?_⟩
    refine ⟨_, rfl, x, CL, dx, _, _, rfl, hx, ML.cl, ML.nM, lf_m _ _, _, rfl, q, _, i, .ref a, rfl, rfl, SqT.of hq, ?_, k a mk⟩
    unfold atI
    rw [List.length_map, hM.1, hij]
    show (as.map V.ref)[j]? = _
    rw [List.getElem?_map, ea]; rfl
end
end K1
set_option Elab.async false
set_option linter.all false
set_option maxRecDepth 100000
/-! own objects walked by an __iter__ that gives iter(self.x); own [] -/
namespace OwnT
open PySem PySem.Spec PyProof.Rows L2 ItX
/-- a tuple's iterator, not yet drawn from -/
def ItT (t it : Addr) : HO := .ext fun h => h.IsTupleIter it t 0
def rIterT (K : PySem.W.Frag) (n : Nat) : List V → Hp → VK → Prop := fun vs H Q => ∃ t zs, vs = [.ref t] ∧ SqT K H t zs ∧ ∀ it, H it = none → n ≤ it → Q (.ref it) (L2.upd H it (ItT t it))
section
variable {X : Cx}
theorem call_iterT : CallR X (.builtin "iter") (rIterT X.K X.s_0.heap.objs.size) := by
  intro pins s σ H vs us Q I r ⟨t, zs, ev, ht, k⟩
  subst ev
  obtain rfl := Vals.ref1 r
  obtain ⟨its, rv, p, _⟩ := I.tuple ht
  refine Calls.call_function_entry (by decide +kernel) (by decide +kernel) PySem.W.kdk_entry_iter (PySem.W.kdk_args_iter _) ?_
  unfold Builtin.«iter»
  refine wpAny_bind (m := someArgs "iter" 1 2 _) (wpAny_of_eq (a := [Value.ref t]) (by first | rfl | kernel_rfl!) ?_)
  refine wpAny_bind (wpAny_pyIter_tuple p ?_)
  have new : ∀ h' : Heap, h'.get? s.heap.objs.size = some { cls := .type "tuple_iterator", data := .fields #[.ref t, .int 0 0] } → ObjOk X.prog X.w (L2.upd H s.heap.objs.size (ItT t s.heap.objs.size)) h' s.heap.objs.size (ItT t s.heap.objs.size) := fun h' e =>
    ⟨⟨_, e, rfl, rfl⟩, ⟨_, e⟩, fun h1 h2 q1 keep => q1.at keep⟩
  exact wpAny_pure ⟨_, rfl, .ref s.heap.objs.size, _, I.laid (t' := s.toks) (fun b o e => Heap.get?_push_of_some _ e) (Nat.le_refl _) (new _ (Heap.get?_push_size _ rfl)), rfl, k _ (I.hok.fresh (Nat.le_refl _)) I.sz⟩
/-- for .. in o, where o's class says: def __iter__(self): return iter(self.F) -/
def iOwnT (K : PySem.W.Frag) (C : Addr) (F : Str) (te : TE) : TI := fun σ H R => te σ H fun x H1 => ∃ a dx fs t xs, x = .ref a ∧ H1 a = some (.ins C dx fs) ∧ fs.lookup F = some (.ref t) ∧ SqT K H1 t xs ∧ R (Itt K t) H1
/-- the class's own __iter__, its body read once for all -/
structure OwnI (P : Program) (w : World) (K : PySem.W.Frag) (mg : Str → Option Value) (base : Heap) (C f : Addr) (F qual : Str) (st : Stmt) (fd : FuncData) : Prop where
  it : PySem.W.findIn K (.ref C) "__iter__" = some (some (.ref f))
  fn : PySem.W.isFn K (.ref f) = true
  df : L2.Fun K "__iter__" qual st f fd
  bi : Binds K fd ["self"] []
  sc : FnScope ["self"] ["self"] (defScope st)
  bd : ∀ (cdv : Value) (A : Around) (outer : List Env) (s : Shared) (H : Hp), ∃ t, PSs (cxOf CX0 P w K mg base ["self"] qual (defScope st) f cdv A outer s H E0) (defBody st) t ∧
    ∀ (a dx t0 : Addr) (xs : List V) (fs : List (Str × V)) (Q : VK), H a = some (.ins C dx fs) → fs.lookup F = some (.ref t0) → SqT K H t0 xs → (∀ it, H it = none → s.heap.objs.size ≤ it → Q (.ref it) (L2.upd H it (ItT t0 it))) → t { nx := fun _ H' => Q .non H', rt := Q } (L2.start ["self"] [.ref a]) H
theorem pi_ownT {C f : Addr} {F qual : Str} {st : Stmt} {fd : FuncData} {e tg : Expr} {te : TE} (he : PE X e te) (O : OwnI X.prog X.w X.K X.mg X.base C f F qual st fd) (hr : Room 1 X.A) : PI X tg e (iOwnT X.K C F te) := by
  obtain ⟨oc, od', kV, doc, pm, an, cdv, ct, osl, rfl, lk, cg⟩ := O.df.ex
  refine ⟨fun pins s σ H R I h => thn (he.run pins s σ H _ I h) ?_⟩
  rintro u s1 ⟨x, H1, I1, rx, a, dx, fs, t0, xs, rfl, ha, hl, ht, q⟩
  obtain rfl : u = Value.ref a := rx
  obtain ⟨mA, J0, _⟩ := ins_get I1.hok ha
  obtain ⟨od, J, _⟩ := J0.look
  obtain ⟨m0, hF⟩ := I1.fr
  refine PySem.W.owit_iter hF I1.ok.mod.kin J O.it O.fn ?_
  have bnd : BindsTo s1 (PySem.W.fnOf "__iter__" qual (defArgs st) (defBody st) (defScope st) .none kV doc pm an cdv ct) ⟨[.ref a], []⟩ ((["self"] : List Str).zip [Value.ref a]) := by
    have := O.bi s1 [.ref a] I1.kIn rfl
    simpa using this
  have ran : codeAny (model X.prog X.w) X.A (.call (.ref f) ⟨[.ref a], []⟩) (CR CX0 X.stack X.prog X.w H1 s1 (fun v H' => ∃ it, v = .ref it ∧ H1 it = none ∧ s1.heap.objs.size ≤ it ∧ H' = L2.upd H1 it (ItT t0 it)) E0) s1 :=
    LamX.run_ofS (N := ["self"]) (ps := ["self"]) (vs := [.ref a]) lk cg O.sc hr I1.env0 bnd (.cons rfl .nil) rfl fun _ => by
      obtain ⟨t, ht', hq'⟩ := O.bd cdv X.A X.stack s1 H1
      exact ⟨t, ht', hq' a dx t0 xs fs (fun v H' => ∃ it, v = .ref it ∧ H1 it = none ∧ s1.heap.objs.size ≤ it ∧ H' = L2.upd H1 it (ItT t0 it)) ha hl ht fun it hn hs => ⟨it, rfl, hn, hs, rfl⟩⟩
  refine wpAny_call (codeAny_mono ran fun r s2 hq => ?_)
  match r, hq with
  | .ok (.ret u), hq =>
    obtain ⟨v, H', I2, rv, it, rfl, hn, hs, rfl⟩ := I1.after hq
    cases rv
    have hit : s2.heap.IsTupleIter it t0 0 := (I2.hok it _ upd_same).1
    show PySem.W.OwitIt _ _ _ _ _ _
    unfold PySem.W.OwitIt
    refine wpAny_specialOf hit.typeIs PySem.F.slot_tuple_iterator_next.lookup ?_
    have I3 := inv_drop I2 (a := it) upd_same
    have fp := inv_fp I2 (a := it) upd_same (Nat.le_trans I1.sz hs)
    rw [dropH_upd hn] at I3 fp
    refine ⟨it, [it], _, _, H1, rfl, I3, turn_tuple t0 it, hit, fun b hb => ?_, q⟩
    obtain rfl : b = it := by simpa using hb
    exact fp
/-- o[i] by the class's own __getitem__ -/
def rIxOwn (C : Addr) (sp : Sp) (E : XK) : R2 := fun x y H Q => ∃ a dx fs, x = .ref a ∧ H a = some (.ins C dx fs) ∧ sp [.ref a, y] H Q E
theorem pe_ixOwn {CX : CXT} {n : Nat} {C f : Addr} {fd : FuncData} {ps : List Str} {sp : Sp} {E : XK} {o k : Expr} {to tk : TE} {pos : Pos} (ho : PE X o to) (hk : PE X k tk) (gi : PySem.W.findIn X.K (.ref C) "__getitem__" = some (some (.ref f))) (fi : PySem.W.fnIn X.K f = true) (fn : PySem.W.isFn X.K (.ref f) = true)
    (F : FnOk X.prog X.w X.K X.mg X.base CX n f fd ps sp) (hr : Room (n + 1) X.A) (hb : Binds X.K fd ps []) (hx : Passes CX X E)
    (hs : ∀ x i, subscripted k true (.ref x) i = runValue (.builtin "lifetime.subscript" ⟨[.ref x, i], []⟩) := by intros; with_unfolding_all rfl) : PE X (.Subscript o k pos) (tOp (rIxOwn C sp E) to tk) := by
  refine ⟨fun pins s σ H Q I h => Subscript_ (binT ho hk I h ?_)⟩
  rintro v u s2 x y H2 I2 rx ry ⟨a, dx, fs, rfl, ha, q⟩
  obtain rfl : v = Value.ref a := rx
  obtain ⟨mA, J0, _⟩ := ins_get I2.hok ha
  obtain ⟨od, J, _⟩ := J0.look
  obtain ⟨m0, hF⟩ := I2.fr
  exact PySem.W.sub_K hF I2.ok.mod.kin J gi fi fn (wpAny_mono (own_call (vs := [.ref a, y]) F hb hx hr.in1 rfl I2 (.cons rfl (.cons ry .nil)) q) (fun w s' z => let ⟨v', H', I', r', q'⟩ := z; ⟨v', H', I', r', q'⟩) fun _ _ z => z) (hs _ _)
end
end OwnT
set_option Elab.async false
set_option linter.all false
set_option maxRecDepth 100000
/-! the law's lots -/
namespace K1
open PySem L2 LamX OwnT
abbrev sLot : Stmt := top 55
abbrev sLotM : Stmt := top 56
theorem PlainAt.pen {H H' : Hp} {d p : Addr} {kv : List (Key × V)} {ws : List Str} {rs : List (List Int)} {ss : List Str} {st : Int} (h : PlainAt H p ws rs ss st) (hd : H d = some (.dK kv)) (n : p ≠ d) (k : Kept d H H') : PlainAt H' p ws rs ss st := by
  obtain ⟨t, r, l, as, h1, h2, h3, h4, h5⟩ := h
  have ne : ∀ {a : Addr} {xs : List V}, H a = some (.lst xs) → a ≠ d := fun e => ne_of e hd (by intro z; cases z)
  exact ⟨t, r, l, as, k _ _ h1 n, k.seqF hd (fun o ys e => by cases e) h2, k _ _ h3 (ne h3), k _ _ h4 (ne h4), ⟨h5.1, fun i a q e1 e2 => k _ _ (h5.2 i a q e1 e2) (ne (h5.2 i a q e1 e2))⟩⟩
/-- pairs of a plain machine and a rule -/
def LotE (d : Addr) (H : Hp) (ts : List Addr) (ws : List Str) (ms : List Pm) : Prop := ts.length = ms.length ∧ ∀ (i : Nat) (t : Addr) (m : Pm), ts[i]? = some t → ms[i]? = some m → ∃ p, p ≠ d ∧ H t = some (.tup [.ref p, .str m.ru]) ∧ PlainAt H p ws m.rs m.ss m.st
theorem LotE.same {d : Addr} {H H' : Hp} {ts : List Addr} {ws : List Str} {ms : List Pm} (h : LotE d H ts ws ms) (s : Same H H') : LotE d H' ts ws ms := ⟨h.1, fun i t m e1 e2 => by
  obtain ⟨p, n, h1, h2⟩ := h.2 i t m e1 e2
  exact ⟨p, n, s _ _ h1, h2.same s⟩⟩
theorem LotE.pen {d : Addr} {H H' : Hp} {kv : List (Key × V)} {ts : List Addr} {ws : List Str} {ms : List Pm} (h : LotE d H ts ws ms) (hd : H d = some (.dK kv)) (k : Kept d H H') : LotE d H' ts ws ms := ⟨h.1, fun i t m e1 e2 => by
  obtain ⟨p, n, h1, h2⟩ := h.2 i t m e1 e2
  exact ⟨p, n, k _ _ h1 (ne_of h1 hd (by intro z; cases z)), h2.pen hd n k⟩⟩
theorem LotE.get {d : Addr} {H : Hp} {ts : List Addr} {ws : List Str} {ms : List Pm} (h : LotE d H ts ws ms) {i : Nat} (hi : i < ms.length) : ∃ t p, ts[i]? = some t ∧ ms[i]? = some ms[i] ∧ p ≠ d ∧ H t = some (.tup [.ref p, .str ms[i].ru]) ∧ PlainAt H p ws ms[i].rs ms[i].ss ms[i].st := by
  have hi' : i < ts.length := by rw [h.1]; exact hi
  obtain ⟨p, n, h1, h2⟩ := h.2 i _ _ (List.getElem?_eq_getElem hi') (List.getElem?_eq_getElem hi)
  exact ⟨ts[i], p, List.getElem?_eq_getElem hi', List.getElem?_eq_getElem hi, n, h1, h2⟩
theorem LotE.snoc {d : Addr} {H : Hp} {ts : List Addr} {ws : List Str} {ms : List Pm} {t p : Addr} {m : Pm} (h : LotE d H ts ws ms) (n : p ≠ d) (e : H t = some (.tup [.ref p, .str m.ru])) (hp : PlainAt H p ws m.rs m.ss m.st) : LotE d H (ts ++ [t]) ws (ms ++ [m]) := by
  refine ⟨by simp [h.1], fun i b q e1 e2 => ?_⟩
  by_cases hi : i < ts.length
  · rw [List.getElem?_append_left hi] at e1
    rw [List.getElem?_append_left (by rw [← h.1]; exact hi)] at e2
    exact h.2 i b q e1 e2
  · rw [List.getElem?_append_right (by omega)] at e1
    rw [List.getElem?_append_right (by rw [← h.1]; omega), ← h.1] at e2
    cases hj : i - ts.length with
    | zero =>
      rw [hj] at e1 e2
      simp at e1 e2
      subst e1; subst e2
      exact ⟨p, n, e, hp⟩
    | succ j => rw [hj] at e1; simp at e1
def LotP (d : Addr) (H : Hp) (l : Addr) (ws : List Str) (ms : List Pm) : Prop := ∃ ts : List Addr, H l = some (.lst (ts.map V.ref)) ∧ LotE d H ts ws ms
theorem LotP.same {d : Addr} {H H' : Hp} {l : Addr} {ws : List Str} {ms : List Pm} (h : LotP d H l ws ms) (s : Same H H') : LotP d H' l ws ms := by
  obtain ⟨ts, h1, h2⟩ := h
  exact ⟨ts, s _ _ h1, h2.same s⟩
theorem LotP.pen {d : Addr} {H H' : Hp} {kv : List (Key × V)} {l : Addr} {ws : List Str} {ms : List Pm} (h : LotP d H l ws ms) (hd : H d = some (.dK kv)) (k : Kept d H H') : LotP d H' l ws ms := by
  obtain ⟨ts, h1, h2⟩ := h
  exact ⟨ts, k _ _ h1 (ne_of h1 hd (by intro z; cases z)), h2.pen hd k⟩
theorem PenAt.dk {H : Hp} {d c : Addr} {n : Nat} (h : PenAt H d c n) : ∃ kv, H d = some (.dK kv) := by
  obtain ⟨_, _, _, hd, _⟩ := h
  exact ⟨_, hd⟩
def spLot (K : PySem.W.Frag) : Sp := fun vs H Q _ => ∃ (d c dl tl : Addr) (n M : Nat) (mo : Int) (ws ts : List Str), vs = [.ref d, .ref dl, .int (M : Int), .int mo, .ref tl] ∧ PenAt H d c n ∧ n ≤ 790000 ∧ SqL K H dl (ws.map V.str) ∧ dl ≠ d ∧ ws.length ≤ 26 ∧
  SqL K H tl (ts.map V.str) ∧ tl ≠ d ∧ 0 < ts.length ∧ ts.length ≤ 10 ∧ 1 ≤ mo ∧ mo ≤ 12 ∧ M ≤ 6 ∧
  ∀ (l : Addr) (ms : List Pm) (H' : Hp), H l = none → LotP d H' l ws ms → ms.length = M → (∀ m ∈ ms, GoodP ws m.rs m.ss m.st ts ∧ m.ru ∈ rules) → PenAt H' d c (n + 401 * M) → Kept d H H' → Q (.ref l) H'
section
variable {P : Program} {w : World} {K : PySem.W.Frag} {mg : Str → Option Value} {base : Heap}
abbrev pLot : List Str := ["_law_pen_here", "_law_deeds", "_law_many", "_law_most", "_law_tells"]
abbrev nLot : List Str := ["_law_pen_here", "_law_deeds", "_law_many", "_law_most", "_law_tells", "_law_k"]
theorem scLot : FnScope nLot pLot (defScope sLot) := ⟨rfl, rfl, rfl, by decide +kernel, rfl, by decide +kernel, by decide +kernel⟩
theorem ok_lot {f fP fK : Addr} {fd fdP fdK : FuncData} (D : Df K mg "_law_lot" sLot pLot f fd) (DP : Df K mg "_law_plain" sPlain pPlain fP fdP) (DK : Df K mg "_law_pick" sPick pPick fK fdK) (GP : FnOk P w K mg base CX0 3 fP fdP pPlain (spPlain K)) (GK : FnOk P w K mg base CX0 2 fK fdK pPick (spPickL K)) (T : Bt mg) : FnOk P w K mg base CX0 4 f fd pLot (spLot K) := by
  refine D.F.ok scLot (fun vs H Q E h => ?_) (fun cdv A outer s H vs Q E hr h => ?_)
  · obtain ⟨d, c, dl, tl, n, M, mo, ws, ts, rfl, _⟩ := h
    rfl
  · obtain ⟨d, c, dl, tl, n, M, mo, ws, ts, rfl, hp, hn, hdl, ndl, hws, htl, ntl, ht0, ht1, hm0, hm1, hM, k⟩ := h
    have hr2 : Room 2 _ := hr.mono (by decide)
    refine ⟨_, pss_one (ps_ret (pe_lc (own := [("_law_k", 5)]) (g := gName 5) (by rfl) scLot.nd (pi_range1 rfl T.range (pa_cons (pv 2) pa_nil))
        (blkOk_by (own := [("_law_k", 5)]) (N := nLot) (sc := defScope sLot) (by decide +kernel)) (fun _ _ _ _ _ => pg_name (i := 5) scLot.nd rfl (Or.inl rfl)) (fun _ _ _ _ _ => pts_nil)
        (fun _ _ _ _ _ => pe_tup (pa_cons (pe_call GP hr rfl DP.g DP.F.kp DP.b .nil pass0 (pa_cons (pv 0) (pa_cons (pv 1) (pa_cons (pv 3) (pa_cons (pv 4) pa_nil)))))
          (pa_cons (pe_call GK hr2 rfl DK.g DK.F.kp DK.b .nil pass0 (pa_cons (pv 0) (pa_cons (pe_lst (pa_cons pe_str (pa_cons pe_str pa_nil))) pa_nil))) pa_nil))))), ?_⟩
    refine ⟨_, rfl, (M : Int), rfl, by omega, by omega, fun D1 hD1 => ?_⟩
    rw [Int.toNat_natCast]
    obtain ⟨n1d, n1c⟩ := hp.ne hD1
    refine lc_range (lo := 0) (n := M) (fun i H' => ∃ (qs : List Addr) (ms : List Pm), ms.length = i ∧ H' D1 = some (.lst (qs.map V.ref)) ∧ (∀ G, (∀ b o, H b = none → b ≠ D1 → H' b = some o → G b = some o) → LotE d G qs ws ms) ∧ (∀ m ∈ ms, GoodP ws m.rs m.ss m.st ts ∧ m.ru ∈ rules) ∧ PenAt H' d c (n + 401 * i) ∧ Kept d H H') ?_ ?_ ?_
    · exact ⟨[], [], rfl, upd_same, fun G _ => ⟨rfl, fun i a r e => by simp at e⟩, by simp, hp.upd n1d n1c, (Kept.refl d H).upd hD1⟩
    · rintro i H1 hi ⟨qs, ms, hms, hD, hL, hg, hp1, k1⟩
      refine ⟨rfl, _, rfl, _, rfl, _, rfl, _, rfl, d, c, dl, tl, _, mo, ws, ts, rfl, hp1, by omega, k1.seq ndl hdl, ndl, hws, k1.seq ntl htl, ntl, ht0, ht1, hm0, hm1, fun p rs ss st H2 hp0 pl plk gp hp2 k2 => ?_⟩
      obtain ⟨npd, npc⟩ := hp1.ne hp0
      refine ⟨_, rfl, Nat.le_of_ble_eq_true rfl, fun lm hlm => ?_⟩
      have s3 := same_upd (o := .lst [V.str "kept", V.str "cleared"]) hlm
      refine ⟨d, c, lm, _, rules.map V.str, rfl, hp2.same s3, by omega, (hp2.ne hlm).1, SqL.of upd_same, by decide, by decide, fun x H4 hx hp4 k4 => ?_⟩
      obtain ⟨ru, hru, rfl⟩ := List.mem_map.mp hx
      refine ⟨Nat.le_of_ble_eq_true rfl, fun t ht => ?_⟩
      have s5 := same_upd (o := .tup [V.ref p, V.str ru]) ht
      have k25 : Kept d H2 (upd H4 t (.tup [V.ref p, V.str ru])) := ((Kept.same s3).trans k4).trans (.same s5)
      have k15 := k2.trans k25
      have k05 := k1.trans k15
      have hD5 := k15 _ _ hD n1d
      have et5 : upd H4 t (.tup [V.ref p, V.str ru]) t = some (.tup [V.ref p, V.str ru]) := upd_same
      have hp5 := hp4.same s5
      have zt1 : H1 t = none := by
        cases e : H1 t with
        | none => rfl
        | some o =>
          have nt : t ≠ d := (hp4.ne ht).1
          have := ((k2.trans (Kept.same s3)).trans k4) _ _ e nt
          rw [ht] at this; cases this
      generalize upd H4 t (.tup [V.ref p, V.str ru]) = H5 at k25 k15 k05 hD5 et5 hp5
      have ntD : t ≠ D1 := ne_of et5 hD5 (by intro z; cases z)
      obtain ⟨kv, hd0⟩ := hp.dk
      obtain ⟨kv1, hd1⟩ := hp1.dk
      have old : ∀ b, H1 b = none → H b = none := fun b e => by
        cases e0 : H b with
        | none => rfl
        | some o =>
          by_cases hb : b = d
          · rw [hb, hd1] at e; cases e
          · rw [k1 _ _ e0 hb] at e; cases e
      refine ⟨_, hD5, ?_, qs ++ [t], ms ++ [⟨rs, ss, st, ru⟩], by simp [hms], ?_, fun G hG => ?_, fun m hm => ?_, (hp5.upd n1d n1c).mono (by omega), k05.upd hD1⟩
      · rw [List.length_map, (hL H1 fun _ _ _ _ e => e).1]; exact small1000 (by omega)
      · rw [upd_same, List.map_append]; rfl
      · have g5 : ∀ b o, H b = none → b ≠ D1 → H5 b = some o → G b = some o := fun b o z n e => hG b o z n (by rw [upd_ne n]; exact e)
        have nd : ∀ b, H b = none → b ≠ d := fun b z e => by rw [e, hd0] at z; cases z
        refine (hL G fun b o z n e => g5 b o z n (k15 _ _ e (nd b z))).snoc npd (g5 _ _ (old _ zt1) ntD et5) (plk G fun b o z e => ?_)
        have zb := old b z
        exact g5 b o zb (fun e => by rw [e, hD] at z; cases z) (k25 _ _ e (nd b zb))
      · rcases List.mem_append.mp hm with h | h
        · exact hg m h
        · rw [List.mem_singleton.mp h]; exact ⟨gp, hru⟩
    · rintro H1 ⟨qs, ms, hms, hD, hL, hg, hp1, k1⟩
      exact k D1 ms H1 hD1 ⟨qs, hD, hL H1 fun _ _ _ _ e => e⟩ hms hg (hp1.mono (by omega)) k1
end
end K1
set_option Elab.async false
set_option linter.all false
set_option maxRecDepth 100000
/-! the law's lots made; what is seen; what is left; begin -/
namespace K1
open PySem L2 LamX OwnT
abbrev sBegin : Stmt := top 57
theorem MachAt.upL {K : PySem.W.Frag} {C D : Addr} {H : Hp} {x : Addr} {ws : List Str} {rs : List (List Int)} {ss : List Str} {st : Int} {xs ys : List V} (h : MachAt K C H x ws rs ss st) (hD : H D = some (.lst xs)) : MachAt K C (upd H D (.lst ys)) x ws rs ss st := by
  obtain ⟨dx, t, r, l, as, h1, h2, h3, h4, h5⟩ := h
  have ne : ∀ {a : Addr} {u : HO}, H a = some u → (∀ z, u ≠ .lst z) → upd H D (.lst ys) a = some u := fun e n => by rw [upd_ne (ne_of e hD (n xs))]; exact e
  exact ⟨dx, t, r, l, as, ne h1 (fun z e => by cases e), (Kept.self (x := D)).seqF hD (fun o ys e => by cases e) h2, ne h3 (fun z e => by cases e), ⟨h4.1, fun i a q e1 e2 => ne (h4.2 i a q e1 e2) (fun z e => by cases e)⟩, ne h5 (fun z e => by cases e)⟩
theorem MarksAt.upL {K : PySem.W.Frag} {C CM D : Addr} {H : Hp} {as : List Addr} {ws : List Str} {ms : List Pm} {xs ys : List V} (h : MarksAt K C CM H as ws ms) (hD : H D = some (.lst xs)) : MarksAt K C CM (upd H D (.lst ys)) as ws ms :=
  ⟨h.1, fun i a m e1 e2 => by
    obtain ⟨dx, x, h1, h2⟩ := h.2 i a m e1 e2
    exact ⟨dx, x, by rw [upd_ne (ne_of h1 hD (fun e => by cases e))]; exact h1, h2.upL hD⟩⟩
theorem MarksAt.snoc {K : PySem.W.Frag} {C CM : Addr} {H : Hp} {as : List Addr} {ws : List Str} {ms : List Pm} {a : Addr} {m : Pm} (h : MarksAt K C CM H as ws ms) (e : MarkAt K C CM H a ws m) : MarksAt K C CM H (as ++ [a]) ws (ms ++ [m]) := by
  refine ⟨by simp [h.1], fun i b q e1 e2 => ?_⟩
  by_cases hi : i < as.length
  · rw [List.getElem?_append_left hi] at e1
    rw [List.getElem?_append_left (by rw [← h.1]; exact hi)] at e2
    exact h.2 i b q e1 e2
  · rw [List.getElem?_append_right (by omega)] at e1
    rw [List.getElem?_append_right (by rw [← h.1]; omega), ← h.1] at e2
    cases hj : i - as.length with
    | zero =>
      rw [hj] at e1 e2
      simp at e1 e2
      subst e1; subst e2
      exact e
    | succ j => rw [hj] at e1; simp at e1
def spLotM (K : PySem.W.Frag) (C CM CL : Addr) : Sp := fun vs H Q _ => ∃ (d l : Addr) (ws : List Str) (ms : List Pm), vs = [.ref l] ∧ LotP d H l ws ms ∧ ms.length ≤ 6 ∧ OkS ws ∧ (∀ m ∈ ms, PmOk ws m) ∧
  ∀ (x : Addr) (H' : Hp), H x = none → Same H H' → LotAt K C CM CL H' x ws ms → Q (.ref x) H'
def spBegin : Sp := fun vs H Q _ => ∃ (d l : Addr) (ws : List Str) (ms : List Pm), vs = [.ref l] ∧ LotP d H l ws ms ∧ ms.length ≤ 6 ∧
  ∀ (p : Addr) (H' : Hp), H p = none → Same H H' → H' p = some (.tup ((ms.map Pm.st).map V.int)) → Q (.ref p) H'
section
variable {P : Program} {w : World} {K : PySem.W.Frag} {mg : Str → Option Value} {base : Heap}
abbrev nLotM : List Str := ["_law_lot_here", "_law_plain_here", "_law_rule"]
theorem scLotM : FnScope nLotM ["_law_lot_here"] (defScope sLotM) := ⟨rfl, rfl, rfl, by decide +kernel, rfl, by decide +kernel, by decide +kernel⟩
theorem ok_lotm {C CM CL f fM fKI fLI : Addr} {fd fdM fdKI fdLI : FuncData} (D : Df K mg "_law_lot_made" sLotM ["_law_lot_here"] f fd) (DM : Df K mg "_law_made" sMade ["_law_plain_here"] fM fdM) (GM : FnOk P w K mg base CX0 7 fM fdM ["_law_plain_here"] (spMade K C)) (MK : Tk K mg CM) (ML : Tl2 K mg CL) 
    (MkK : Mk K CM fKI) (bK : Binds K fdKI pKI []) (GK : FnOk P w K mg base CX0 1 fKI fdKI pKI (spKInit K CM)) (MkL : Mk K CL fLI) (bL : Binds K fdLI pLI []) (GL : FnOk P w K mg base CX0 1 fLI fdLI pLI (spLInit K C CM CL)) : FnOk P w K mg base CX0 8 f fd ["_law_lot_here"] (spLotM K C CM CL) := by
  refine D.F.ok scLotM (fun vs H Q E h => ?_) (fun cdv A outer s H vs Q E hr h => ?_)
  · obtain ⟨d, l, ws, ms, rfl, _⟩ := h
    rfl
  · obtain ⟨d, l, ws, ms, rfl, ⟨qs, hl, hL⟩, h6, hws, hp, k⟩ := h
    have hr2 : Room 2 _ := hr.mono (by decide)
    refine ⟨_, pss_one (ps_ret (pe_make MkL GL hr2 rfl ML.mgC bL .nil pass0 (pa_cons (pe_lc (own := [("_law_plain_here", 1), ("_law_rule", 2)]) (g := gTup K 2 (gCons (gName 1) (gCons (gName 2) gNil))) (by rfl) scLotM.nd (pi_list (pv 0))
        (blkOk_by (own := [("_law_plain_here", 1), ("_law_rule", 2)]) (N := nLotM) (sc := defScope sLotM) (by decide +kernel)) (fun _ _ _ _ _ => pg_tup (by rfl) (pgs_cons (pg_name (i := 1) scLotM.nd rfl (Or.inl rfl)) (pgs_cons (pg_name (i := 2) scLotM.nd rfl (Or.inl rfl)) pgs_nil))) (fun _ _ _ _ _ => pts_nil)
        (fun _ _ _ _ _ => pe_make MkK GK hr2 rfl MK.mgC bK .nil pass0 (pa_cons (pe_call GM hr rfl DM.g DM.F.kp DM.b .nil pass0 (pa_cons (pv 1) pa_nil)) (pa_cons (pv 2) pa_nil)))) pa_nil))), ?_⟩
    have hln : (qs.map V.ref).length = ms.length := by rw [List.length_map, hL.1]
    refine ⟨_, rfl, l, rfl, ⟨_, SqL.of hl⟩, fun D1 hD1 => ?_⟩
    refine lc_list (K := K) (a := l) (xs := qs.map V.ref) (fun i H' => ∃ as : List Addr, Same H H' ∧ H' D1 = some (.lst (as.map V.ref)) ∧ MarksAt K C CM H' as ws (ms.take i)) ?_ ?_ ?_ ?_
    · exact ⟨[], same_upd hD1, upd_same, ⟨rfl, fun i a r e => by simp at e⟩⟩
    · rintro i H' _ ⟨as, sm, _⟩
      exact SqL.of (sm _ _ hl)
    · rintro i y H1 hi ⟨as, sm, hD, hM⟩
      rw [List.getElem?_map] at hi
      obtain ⟨t, et, rfl⟩ := Option.map_eq_some_iff.mp hi
      have hil : i < ms.length := by rw [← hL.1]; exact (List.getElem?_eq_some_iff.mp et).1
      obtain ⟨t', p, et', em, npd, e1, e2⟩ := hL.get hil
      rw [et] at et'; cases et'
      have pm := hp _ (List.getElem_mem hil)
      refine ⟨t, _, rfl, SqT.of (sm _ _ e1), rfl, _, _, rfl, _, _, rfl, rfl, rfl, ⟨_, rfl, p, ws, _, _, _, rfl, e2.same sm, pm.pt, fun x H2 hx mac s2 => ?_⟩⟩
      refine ⟨_, rfl, fun a da ha hda nda => ?_⟩
      have pre := made_pre (C := CM) ha hda
      refine ⟨a, da, x, _, rfl, upd_same, pm.ru, fun H3 e3 k3 => ⟨rfl, ?_⟩⟩
      have s3 := made_same ha hda k3
      have s13 := s2.trans s3
      have hD3 := s13 _ _ hD
      refine ⟨_, hD3, ?_, as ++ [a], ?_, ?_, ?_⟩
      · rw [List.length_map, hM.1, List.length_take]; exact small1000 (by omega)
      · exact fun b u e => by rw [upd_ne (ne_of_none e hD1)]; exact s13 _ _ (sm b u e)
      · rw [upd_same, List.map_append]; rfl
      · have e : ms.take (i + 1) = ms.take i ++ [ms[i]] := by rw [List.take_add_one, em]; rfl
        rw [e]
        exact ((hM.same s13).snoc ⟨da, x, e3, mac.same s3⟩).upL hD3
    · rintro H1 ⟨as, sm, hD, hM⟩
      rw [List.length_map, hL.1, List.take_length] at hM
      intro x dx hx hdx ndx
      have pre := made_pre (C := CL) hx hdx
      exact ⟨x, dx, D1, as, ws, ms, rfl, upd_same, SqL.of (pre _ _ hD), hM.same pre, h6, hws, fun G hG kG => ⟨rfl, k x G (sm.free hx) (sm.trans (made_same hx hdx kG)) hG⟩⟩
abbrev nBegin : List Str := ["_law_lot_here", "_law_plain_here", "_law_rule"]
theorem scBegin : FnScope nBegin ["_law_lot_here"] (defScope sBegin) := ⟨rfl, rfl, rfl, by decide +kernel, rfl, by decide +kernel, by decide +kernel⟩
theorem ok_begin {f : Addr} {fd : FuncData} (D : Df K mg "_law_begin" sBegin ["_law_lot_here"] f fd) (T : Bt mg) : FnOk P w K mg base CX0 1 f fd ["_law_lot_here"] spBegin := by
  refine D.F.ok scBegin (fun vs H Q E h => ?_) (fun cdv A outer s H vs Q E hr h => ?_)
  · obtain ⟨d, l, ws, ms, rfl, _⟩ := h
    rfl
  · obtain ⟨d, l, ws, ms, rfl, ⟨qs, hl, hL⟩, h6, k⟩ := h
    have hu := hu_of hr
    refine ⟨_, pss_one (ps_ret (pe_callTy (r := rTu K) call_tuple_of (by rfl) T.tuple PyProof.Rows.boot_tuple (pa_cons (pe_lc (own := [("_law_plain_here", 1), ("_law_rule", 2)]) (g := gTup K 2 (gCons (gName 1) (gCons (gName 2) gNil))) (by rfl) scBegin.nd (pi_list (pv 0))
        (blkOk_by (own := [("_law_plain_here", 1), ("_law_rule", 2)]) (N := nBegin) (sc := defScope sBegin) (by decide +kernel)) (fun _ _ _ _ _ => pg_tup (by rfl) (pgs_cons (pg_name (i := 1) scBegin.nd rfl (Or.inl rfl)) (pgs_cons (pg_name (i := 2) scBegin.nd rfl (Or.inl rfl)) pgs_nil))) (fun _ _ _ _ _ => pts_nil)
        (fun _ _ _ _ _ => pe_dget hu (pv 1) pe_str (fun _ _ => rfl))) pa_nil))), ?_⟩
    refine ⟨_, rfl, l, rfl, ⟨_, SqL.of hl⟩, fun D1 hD1 => ?_⟩
    refine lc_list (K := K) (a := l) (xs := qs.map V.ref) (fun i H' => Same H H' ∧ H' D1 = some (.lst ((ms.take i).map Pm.st |>.map V.int))) ?_ ?_ ?_ ?_
    · exact ⟨same_upd hD1, upd_same⟩
    · exact fun i H' _ p => SqL.of (p.1 _ _ hl)
    · rintro i y H1 hi ⟨sm, hD⟩
      rw [List.getElem?_map] at hi
      obtain ⟨t, et, rfl⟩ := Option.map_eq_some_iff.mp hi
      have hil : i < ms.length := by rw [← hL.1]; exact (List.getElem?_eq_some_iff.mp et).1
      obtain ⟨t', p, et', em, npd, e1, e2⟩ := hL.get hil
      rw [et] at et'; cases et'
      obtain ⟨t2, r2, l2, as2, f1, f2, f3, f4, f5⟩ := (e2.same sm).ex
      refine ⟨t, _, rfl, SqT.of (sm _ _ e1), rfl, _, _, rfl, _, _, rfl, rfl, rfl, _, rfl, p, _, rfl, gStart f1, _, hD, ?_, ?_, ?_⟩
      · rw [List.length_map, List.length_map, List.length_take]; exact small1000 (by omega)
      · exact fun b u e => by rw [upd_ne (ne_of_none e hD1)]; exact sm b u e
      · have e : ms.take (i + 1) = ms.take i ++ [ms[i]] := by rw [List.take_add_one, em]; rfl
        rw [upd_same, e, List.map_append, List.map_append]; rfl
    · rintro H1 ⟨sm, hD⟩
      rw [List.length_map, hL.1, List.take_length] at hD
      refine ⟨D1, _, rfl, .inl ⟨SqL.of hD, fun p hp' => ?_⟩⟩
      exact k p _ (sm.free hp') (sm.trans (same_upd hp')) upd_same
end
end K1
set_option Elab.async false
set_option linter.all false
set_option maxRecDepth 100000
/-! _law_is_machine (PenK behind frz.py) -/
namespace K1
open PySem L2
abbrev sIsM : Stmt := top 54
def spIsM (K : PySem.W.Frag) (C : Addr) : Sp := fun vs H Q _ => ∃ (x p : Addr) (ws : List Str) (rs : List (List Int)) (ss : List Str) (st : Int), vs = [.ref x, .ref p] ∧ MachAt K C H x ws rs ss st ∧ PlainAt H p ws rs ss st ∧ OkS ws ∧ OkS ss ∧ rs.length ≤ 60 ∧
  ∀ H', Same H H' → Q (.bl true) H'
section
variable {P : Program} {w : World} {K : PySem.W.Frag} {mg : Str → Option Value} {base : Heap}
abbrev pIsM : List Str := ["_law_machine", "_law_plain_here"]
abbrev nIsM : List Str := ["_law_machine", "_law_plain_here", "_law_row"]
theorem scIsM : FnScope nIsM pIsM (defScope sIsM) := ⟨rfl, rfl, rfl, by decide +kernel, rfl, by decide +kernel, by decide +kernel⟩
theorem ok_ism {C f fL : Addr} {fd fdL : FuncData} (D : Df K mg "_law_is_machine" sIsM pIsM f fd) (M : Tm K mg C) (T : Bt2 mg) (FL : Fun K "__len__" "Machine.__len__" sMLen fL fdL) (bL : Binds K fdL ["self"] []) (OL : OwnL K C fL) : FnOk P w K mg base CX0 3 f fd pIsM (spIsM K C) := by
  have GL : FnOk P w K mg base CX0 1 fL fdL ["self"] (spMLen K C) := ok_mlen FL M T
  refine D.F.ok scIsM (fun vs H Q E h => ?_) (fun cdv A outer s H vs Q E hr h => ?_)
  · obtain ⟨x, p, ws, rs, ss, st, rfl, _⟩ := h
    rfl
  · obtain ⟨x, p, ws, rs, ss, st, rfl, mx, ⟨t, r, l, as, hp, ht, hr', hl, hR⟩, ow, os, h60, k⟩ := h
    obtain ⟨dx, tx, rx, lx, bs0, hx, htx, hrx, hRx, hlx⟩ := id mx
    have hu := hu_of hr
    refine ⟨_, pss_cons (ps_if (PW.pt (pw_or (pt_cmpR (op_neD hr.units) (pe_fld (pv 0) rfl) (pe_dget hu (pv 1) pe_str (fun _ _ => rfl)) (nomark _))
          (pw_or (pt_cmpR op_ne (pe_fld (pv 0) rfl) (pe_dget hu (pv 1) pe_str (fun _ _ => rfl)) (nomark _))
          (pw_or1 (pt_cmpR op_ne (pe_callB (call_lenOwn OL GL hr bL pass0) (by rfl) T.len PySem.boot_len (pa_cons (pv 0) pa_nil)) (pe_callB call_len (by rfl) T.len PySem.boot_len (pa_cons (pe_dget hu (pv 1) pe_str (fun _ _ => rfl)) pa_nil)) (nomark _)))))) (pss_one (ps_ret pe_bl)) pss_nil)
      (pss_one (ps_ret (pe_and (pe_cmpR (op_eqD hr.units) (pe_fld (pv 0) rfl) (pe_callTy call_tuple_of (by rfl) T.tuple PyProof.Rows.boot_tuple (pa_cons (pe_lc (own := [("_law_row", 2)]) (g := gName 2) (by rfl) scIsM.nd (pi_list (pe_dget hu (pv 1) pe_str (fun _ _ => rfl)))
            (blkOk_by (own := [("_law_row", 2)]) (N := nIsM) (sc := defScope sIsM) (by decide +kernel)) (fun _ _ _ _ _ => pg_name (i := 2) scIsM.nd rfl (Or.inl rfl)) (fun _ _ _ _ _ => pts_nil)
            (fun _ _ _ _ _ => pe_callTy (r := rTu K) call_tuple_of (by rfl) T.tuple PyProof.Rows.boot_tuple (pa_cons (pv 2) pa_nil))) pa_nil)) (nomark _))
          (pe_one (pe_cmpR (op_eqD hr.units) (pe_fld (pv 0) rfl) (pe_callTy call_tuple_of (by rfl) T.tuple PyProof.Rows.boot_tuple (pa_cons (pe_dget hu (pv 1) pe_str (fun _ _ => rfl)) pa_nil)) (nomark _)))))), ?_⟩
    refine ⟨_, rfl, x, C, dx, _, _, rfl, hx, M.cl, M.nD, mf_deeds _ _ _ _, _, rfl, p, _, rfl, gDeeds hp, _, _, .tup htx.sq (dp_strs ws), .tup ht.sq (dp_strs ws), shaped_strs ow, shaped_strs ow, _, rfl, ?_⟩
    rw [PyData.eqv, eqv_strs]
    refine ite2 (fun h => by simp at h) (fun _ => ?_)
    refine ⟨_, rfl, x, C, dx, _, _, rfl, hx, M.cl, M.nS, mf_start _ _ _ _, _, rfl, p, _, rfl, gStart hp, rfl, _, rfl, ?_⟩
    refine ite2 (fun h => by simp at h) (fun _ => ?_)
    refine ⟨_, rfl, x, dx, _, rfl, hx, x, ws, rs, ss, st, rfl, mx, rs.length, rfl, Nat.le_trans h60 (by decide), ?_⟩
    refine ⟨_, rfl, p, _, rfl, gRows hp, _, rs.length, rfl, .inl ⟨_, SqL.of hr', by rw [List.length_map, hR.1]⟩, rfl, _, rfl, ?_⟩
    refine ite2 (fun h => by simp at h) (fun _ => ?_)
    -- machine.rows == tuple([..])
    refine ⟨_, rfl, x, C, dx, _, _, rfl, hx, M.cl, M.nR, mf_rows _ _ _ _, _, rfl, p, _, rfl, gRows hp, r, rfl, ⟨_, SqL.of hr'⟩, fun D1 hD => ?_⟩
    refine lc_list (K := K) (a := r) (xs := as.map V.ref) (fun i H' => Same H H' ∧ ∃ bs : List Addr, bs.length = i ∧ H' D1 = some (.lst (bs.map V.ref)) ∧ RowsT H' bs (rs.take i) ∧ ∀ q ∈ bs, q ≠ D1) ?_ ?_ ?_ ?_
    · exact ⟨same_upd hD, [], rfl, upd_same, ⟨by simp, fun i a r e => by simp at e⟩, by simp⟩
    · exact fun i H' _ q => SqL.of (q.1 _ _ hr')
    · rintro i y H6 hi ⟨sm6, bs, hbs, hD6, hR6, hnD⟩
      rw [List.getElem?_map] at hi
      obtain ⟨ai, eai, rfl⟩ := Option.map_eq_some_iff.mp hi
      have hir : i < rs.length := by rw [← hR.1]; exact (List.getElem?_eq_some_iff.mp eai).1
      have eri : rs[i]? = some rs[i] := List.getElem?_eq_getElem hir
      have ha6 := sm6 _ _ (hR.2 i ai _ eai eri)
      refine ⟨rfl, _, rfl, ai, _, rfl, .inl ⟨SqL.of ha6, fun q hq => ?_⟩⟩
      have nDq : D1 ≠ q := ne_of_none hD6 hq
      refine ⟨_, (by rw [upd_ne nDq]; exact hD6), ?_, ?_, bs ++ [q], by simp [hbs], by rw [upd_same]; simp, ?_, ?_⟩
      · rw [List.length_map]; exact small1000 (by omega)
      · exact fun c o e => by rw [upd_ne (ne_of_none e hD), upd_ne (ne_of_none (sm6 _ _ e) hq)]; exact sm6 _ _ e
      · have e7 : RowsT (upd H6 q (.tup ((rs[i]).map V.int))) (bs ++ [q]) (rs.take i ++ [rs[i]]) := (hR6.same (same_upd hq)).snoc upd_same
        rw [List.take_add_one, eri]
        refine ⟨e7.1, fun j c r e1 e2 => ?_⟩
        have hm := List.mem_of_getElem? e1
        have : c ≠ D1 := by
          rcases List.mem_append.mp hm with h | h
          · exact hnD c h
          · rw [List.mem_singleton.mp h]; exact nDq.symm
        rw [upd_ne this]
        exact e7.2 j c r e1 e2
      · intro c hc
        rcases List.mem_append.mp hc with h | h
        · exact hnD c h
        · rw [List.mem_singleton.mp h]; exact nDq.symm
    · rintro H6 ⟨sm6, bs, hbs, hD6, hR6, hnD⟩
      have etk : rs.take (as.map V.ref).length = rs := by rw [List.length_map, hR.1, List.take_length]
      rw [etk] at hR6
      refine ⟨D1, _, rfl, .inl ⟨SqL.of hD6, fun q hq => ?_⟩⟩
      have sq := same_upd (o := .tup (bs.map V.ref)) hq
      have s7 := sm6.trans sq
      refine ⟨_, _, .tup (SqT.of (s7 _ _ hrx)) (dp_rows (hRx.same s7)), .tup (SqT.of upd_same) (dp_rows (hR6.same sq)), shaped_rows rs, shaped_rows rs, ?_⟩
      rw [PyData.eqv, eqv_rows, decide_eq_true rfl]
      refine ⟨true, rfl, ?_⟩
      refine iteT ?_
      refine ⟨_, rfl, x, C, dx, _, _, rfl, s7 _ _ hx, M.cl, M.nT, mf_tells _ _ _ _, _, rfl, p, _, rfl, gTells (s7 _ _ hp), l, _, rfl, .inl ⟨SqL.of (s7 _ _ hl), fun q2 hq2 => ?_⟩⟩
      have sq2 := same_upd (o := .tup (ss.map V.str)) hq2
      refine ⟨_, _, .tup (SqT.of (sq2 _ _ (s7 _ _ hlx))) (dp_strs ss), .tup (SqT.of upd_same) (dp_strs ss), shaped_strs os, shaped_strs os, ?_⟩
      rw [PyData.eqv, eqv_strs, decide_eq_true rfl]
      exact k _ (s7.trans sq2)
end
end K1
set_option Elab.async false
set_option linter.all false
set_option maxRecDepth 100000
/-! rows of numbers, told -/
namespace K1
open PySem L2 LamX
/-- tuple + tuple: some tuple -/
theorem catA_any {K : PySem.W.Frag} {H : Hp} {Q : VK} {a b : Addr} {xs ys : List V} (ha : SqT K H a xs) (hb : SqT K H b ys) (hz : xs.length + ys.length ≤ 1000) (k : ∀ p H', SqT K H' p (xs ++ ys) → Same H H' → Q (.ref p) H') : rCatA K (.ref a) (.ref b) H Q := by
  refine ⟨a, b, xs, ys, rfl, rfl, ha, hb, Nat.le_of_lt (small1000 hz), fun e => ?_, fun _ e => ?_, fun _ _ p hp => k p _ (SqT.of upd_same) (same_upd hp)⟩
  · exact k b H (by rw [e, List.nil_append]; exact hb) (Same.refl H)
  · exact k a H (by rw [e, List.append_nil]; exact ha) (Same.refl H)
theorem small2 {n : Nat} (h : n ≤ 900) : n ≤ sizeLine := Nat.le_of_lt (small1000 (by omega))
def toI (u : List Nat) : List Int := u.map fun (k : Nat) => (k : Int)
theorem toI_snoc (u : List Nat) (k : Nat) : toI (u ++ [k]) = toI u ++ [(k : Int)] := by simp [toI]
def RowsQ (K : PySem.W.Frag) (H : Hp) (as : List Addr) (us : List (List Nat)) : Prop := as.length = us.length ∧ ∀ (i : Nat) (a : Addr) (u : List Nat), as[i]? = some a → us[i]? = some u → SqT K H a ((toI u).map V.int)
theorem RowsQ.same {K : PySem.W.Frag} {H H' : Hp} {as : List Addr} {us : List (List Nat)} (h : RowsQ K H as us) (s : Same H H') : RowsQ K H' as us := ⟨h.1, fun i a u e1 e2 => (h.2 i a u e1 e2).ext s⟩
theorem RowsQ.updL {K : PySem.W.Frag} {H : Hp} {as : List Addr} {us : List (List Nat)} {D : Addr} {xs ys : List V} (h : RowsQ K H as us) (hD : H D = some (.lst xs)) : RowsQ K (upd H D (.lst ys)) as us := ⟨h.1, fun i a u e1 e2 => by
  rcases h.2 i a u e1 e2 with (z | ⟨o, z⟩) | z
  · exact .inl (.inl (by rw [upd_ne (ne_of z hD (by intro q; cases q))]; exact z))
  · exact .inl (.inr ⟨o, by rw [upd_ne (ne_of z hD (by intro q; cases q))]; exact z⟩)
  · exact .inr z⟩
theorem RowsQ.app {K : PySem.W.Frag} {H : Hp} {as bs : List Addr} {us vs : List (List Nat)} (h : RowsQ K H as us) (e : RowsQ K H bs vs) : RowsQ K H (as ++ bs) (us ++ vs) := by
  refine ⟨by simp [h.1, e.1], fun i b q e1 e2 => ?_⟩
  by_cases hi : i < as.length
  · rw [List.getElem?_append_left hi] at e1
    rw [List.getElem?_append_left (by rw [← h.1]; exact hi)] at e2
    exact h.2 i b q e1 e2
  · rw [List.getElem?_append_right (by omega)] at e1
    rw [List.getElem?_append_right (by rw [← h.1]; omega), ← h.1] at e2
    exact e.2 _ b q e1 e2
theorem RowsQ.one {K : PySem.W.Frag} {H : Hp} {a : Addr} {u : List Nat} (h : SqT K H a ((toI u).map V.int)) : RowsQ K H [a] [u] := ⟨rfl, fun i b q e1 e2 => by
  match i, e1, e2 with
  | 0, e1, e2 => cases e1; cases e2; exact h
  | _ + 1, e1, _ => simp at e1⟩
theorem ix_toI {w : Nat} {u : List Nat} (h : ∀ k ∈ u, k < w) : Ix w (toI u) := fun j hj => by
  obtain ⟨k, hk, rfl⟩ := List.mem_map.mp hj
  have := h k hk
  omega
theorem nm_toI (ws : List Str) (u : List Nat) : (nm ws (toI u)).map V.str = names ws u := by
  simp [nm, toI, names]
section
variable (w : Nat) (rs : List (List Int)) (ss : List Str)
def ld (v : List Nat) (x : Int) : Int := led rs (toI v) x
variable {w rs ss}
theorem ld_app (u v : List Nat) (x : Int) : ld rs (u ++ v) x = ld rs v (ld rs u x) := by
  unfold ld led toI
  rw [List.map_append, List.foldl_append]
end
theorem run_led1 (rs : List (List Int)) (a : Int) (u : List Nat) : runT [rs] [a] u = [ld rs u a] := by
  show u.foldl (fun s k => stepT [rs] k s) [a] = [led rs (toI u) a]
  induction u generalizing a with
  | nil => rfl
  | cons k u ih =>
    show u.foldl _ (stepT [rs] k [a]) = [led rs (toI u) (stp rs a (k : Int))]
    rw [← ih]; rfl
end K1
set_option Elab.async false
set_option linter.all false
set_option maxRecDepth 100000
set_option maxHeartbeats 1000000
/-! _law_first_rows -/
namespace K1
open PySem L2 LamX
abbrev sFirst : Stmt := top 53
def entQ (xs : List Int) (as : List Addr) : List (Key × V) := (xs.zip as).map fun p => (Sum.inl p.1, V.ref p.2)
theorem entQ_len {xs : List Int} {as : List Addr} (h : xs.length = as.length) : (entQ xs as).length = xs.length := by unfold entQ; rw [List.length_map, List.length_zip]; omega
theorem entQ_keys {xs : List Int} {as : List Addr} (h : xs.length = as.length) : (entQ xs as).map (·.1) = xs.map (fun z => (Sum.inl z : Key)) := by
  unfold entQ
  rw [List.map_map]
  have : ((fun p => p.1) ∘ fun p : Int × Addr => ((Sum.inl p.1 : Key), V.ref p.2)) = (fun z => (Sum.inl z : Key)) ∘ Prod.fst := rfl
  rw [this, ← List.map_map, List.map_fst_zip (by omega)]
theorem entQ_no {xs : List Int} {as : List Addr} (h : xs.length = as.length) {z : Int} (hz : z ∉ xs) : valV (entQ xs as) (Sum.inl z) = none := by
  refine valV_no fun hm => hz ?_
  rw [entQ_keys h] at hm
  obtain ⟨y, hy, e⟩ := List.mem_map.mp hm
  exact Sum.inl.inj e ▸ hy
theorem entQ_get {xs : List Int} {as : List Addr} (h : xs.length = as.length) (nd : xs.Nodup) {i : Nat} {z : Int} {a : Addr} (h1 : xs[i]? = some z) (h2 : as[i]? = some a) : valV (entQ xs as) (Sum.inl z) = some (.ref a) := by
  refine valV_mem ?_ ?_
  · rw [entQ_keys h]
    exact List.pairwise_map.mpr (nd.imp fun hne e => hne (Sum.inl.inj e))
  · refine List.mem_map.mpr ⟨(z, a), List.mem_of_getElem? (i := i) (List.getElem?_zip_eq_some.mpr ⟨h1, h2⟩), rfl⟩
theorem entQ_snoc {xs : List Int} {as : List Addr} (h : xs.length = as.length) (z : Int) (a : Addr) : entQ (xs ++ [z]) (as ++ [a]) = entQ xs as ++ [(Sum.inl z, V.ref a)] := by
  unfold entQ
  rw [List.zip_append h, List.map_append]; rfl
theorem RowsQ.updD {K : PySem.W.Frag} {H : Hp} {as : List Addr} {us : List (List Nat)} {D : Addr} {kv : List (Key × V)} {o : HO} (h : RowsQ K H as us) (hD : H D = some (.dK kv)) : RowsQ K (upd H D o) as us := by
  refine ⟨h.1, fun i a u e1 e2 => ?_⟩
  rcases h.2 i a u e1 e2 with (h1 | ⟨o', h1⟩) | h1
  · exact .inl (.inl (by rw [upd_ne (ne_of h1 hD (by intro z; cases z))]; exact h1))
  · exact .inl (.inr ⟨o', by rw [upd_ne (ne_of h1 hD (by intro z; cases z))]; exact h1⟩)
  · exact .inr h1
/-- the states of words -/
def stW (rs : List (List Int)) (st : Int) (M : List (List Nat)) : List Int := M.map fun u => ld rs u st
theorem stW_r (rs : List (List Int)) (st : Int) (M : List (List Nat)) : M.map (runT [rs] [st]) = (stW rs st M).map fun s => [s] := by
  unfold stW
  rw [List.map_map]
  exact List.map_congr_left fun u _ => run_led1 rs st u
theorem stW_mem {rs : List (List Int)} {st : Int} {M : List (List Nat)} {v : List Nat} : runT [rs] [st] v ∈ M.map (runT [rs] [st]) ↔ ld rs v st ∈ stW rs st M := by
  rw [stW_r, run_led1, List.mem_map]
  constructor
  · rintro ⟨x, hx, e⟩; cases e; exact hx
  · intro hx; exact ⟨_, hx, rfl⟩
theorem stW_nd {rs : List (List Int)} {st : Int} {M : List (List Nat)} (h : (M.map (runT [rs] [st])).Nodup) : (stW rs st M).Nodup := by
  rw [stW_r] at h
  exact (List.pairwise_map.mp h).imp fun h e => h (by rw [e])
theorem ld_snoc (rs : List (List Int)) (u : List Nat) (k : Nat) (s : Int) : ld rs (u ++ [k]) s = (rs.getD (ld rs u s).toNat []).getD k 0 := by rw [ld_app]; rfl
/-- the rows told with their states -/
def FirstAt (K : PySem.W.Frag) (H : Hp) (as : List Addr) (rs : List (List Int)) (st : Int) (M : List (List Nat)) : Prop :=
  as.length = M.length ∧ ∀ (i : Nat) (a : Addr) (u : List Nat), as[i]? = some a → M[i]? = some u → ∃ t, H a = some (.tup [.int (ld rs u st), .ref t]) ∧ SqT K H t ((toI u).map V.int)
theorem FirstAt.same {K : PySem.W.Frag} {H H' : Hp} {as : List Addr} {rs : List (List Int)} {st : Int} {M : List (List Nat)} (h : FirstAt K H as rs st M) (s : Same H H') : FirstAt K H' as rs st M :=
  ⟨h.1, fun i a u e1 e2 => by
    obtain ⟨t, h1, h2⟩ := h.2 i a u e1 e2
    exact ⟨t, s _ _ h1, h2.ext s⟩⟩
def spFirst (K : PySem.W.Frag) : Sp := fun vs H Q _ => ∃ (p : Addr) (ws : List Str) (rs : List (List Int)) (ss : List Str) (st : Int), vs = [.ref p] ∧ PlainAt H p ws rs ss st ∧ Parts ws rs ss st ∧
  ∀ (l : Addr) (as : List Addr) (M : List (List Nat)) (n : Nat) (H' : Hp), bfs (runT [rs] [st]) ws.length n = (M, []) → H l = none → Same H H' → H' l = some (.lst (as.map V.ref)) → FirstAt K H' as rs st M → Q (.ref l) H'
/-- the search's two lists -/
structure QuAt (K : PySem.W.Frag) (H : Hp) (f q : Addr) (as : List Addr) (rs : List (List Int)) (st : Int) (M : List (List Nat)) : Prop where
  la : as.length = M.length
  hf : H f = some (.dK (entQ (stW rs st M) as))
  hq : H q = some (.lst ((stW rs st M).map V.int))
  rq : RowsQ K H as M
theorem QuAt.same {K : PySem.W.Frag} {H H' : Hp} {f q : Addr} {as : List Addr} {rs : List (List Int)} {st : Int} {M : List (List Nat)} (h : QuAt K H f q as rs st M) (s : Same H H') : QuAt K H' f q as rs st M :=
  ⟨h.la, s _ _ h.hf, s _ _ h.hq, h.rq.same s⟩
theorem QuAt.more {K : PySem.W.Frag} {H : Hp} {f q a : Addr} {as : List Addr} {rs : List (List Int)} {st : Int} {M : List (List Nat)} {v : List Nat} (h : QuAt K H f q as rs st M) (hn : ld rs v st ∉ stW rs st M) (ha : SqT K H a ((toI v).map V.int)) :
    QuAt K (upd (upd H f (.dK (putK (entQ (stW rs st M) as) (Sum.inl (ld rs v st)) (.ref a)))) q (.lst ((stW rs st M).map V.int ++ [.int (ld rs v st)]))) f q (as ++ [a]) rs st (M ++ [v]) := by
  have nfq : f ≠ q := ne_of h.hf h.hq (by intro z; cases z)
  have hl : (stW rs st M).length = as.length := by unfold stW; rw [List.length_map, h.la]
  have es : stW rs st (M ++ [v]) = stW rs st M ++ [ld rs v st] := by unfold stW; rw [List.map_append]; rfl
  have hq1 : upd H f (.dK (putK (entQ (stW rs st M) as) (Sum.inl (ld rs v st)) (.ref a))) q = some (.lst ((stW rs st M).map V.int)) := by rw [upd_ne nfq.symm]; exact h.hq
  refine ⟨by simp [h.la], ?_, ?_, ?_⟩
  · rw [upd_ne nfq, upd_same, putK_new _ (entQ_no hl hn), es, entQ_snoc hl]
  · rw [upd_same, es, List.map_append]; rfl
  · exact ((h.rq.app (RowsQ.one ha)).updD h.hf).updL hq1
section
variable {P : Program} {w : World} {K : PySem.W.Frag} {mg : Str → Option Value} {base : Heap}
abbrev nFirst : List Str := ["_law_plain_here", "_law_found", "_law_queue", "_law_turn", "_law_k", "_law_other", "_law_spot"]
theorem scFirst : FnScope nFirst ["_law_plain_here"] (defScope sFirst) := ⟨rfl, rfl, rfl, by decide +kernel, rfl, by decide +kernel, by decide +kernel⟩
theorem ok_first {f : Addr} {fd : FuncData} (D : Df K mg "_law_first_rows" sFirst ["_law_plain_here"] f fd) (T : Bt mg) : FnOk P w K mg base CX0 1 f fd ["_law_plain_here"] (spFirst K) := by
  refine D.F.ok scFirst (fun vs H Q E h => ?_) (fun cdv A outer s H vs Q E hr h => ?_)
  · obtain ⟨p, ws, rs, ss, st, rfl, _⟩ := h
    rfl
  · obtain ⟨p, ws, rs, ss, st, rfl, hp, pt, k⟩ := h
    have hu := hu_of hr
    refine ⟨_, pss_cons (ps_asg (pe_tup (pa_cons (pe_disp (pps_cons (pe_dget hu (pv 0) pe_str (fun _ _ => rfl)) (pe_tup pa_nil) pps_nil) (by rfl) (by rfl) (fun z => by cases z) (by decide))
          (pa_cons (pe_lst (pa_cons (pe_dget hu (pv 0) pe_str (fun _ _ => rfl)) pa_nil)) pa_nil)))
          (pg_tup (by rfl) (pgs_cons (pg_name (i := 1) scFirst.nd rfl (Or.inr rfl)) (pgs_cons (pg_name (i := 2) scFirst.nd rfl (Or.inl rfl)) pgs_nil))))
      (pss_cons (ps_for PassesOwn.never rfl (pi_range1 rfl T.range (pa_cons (pe_callB call_len (by rfl) T.len PySem.boot_len (pa_cons (pe_dget hu (pv 0) pe_str (fun _ _ => rfl)) pa_nil)) pa_nil)) (pg_name (i := 3) scFirst.nd rfl (Or.inl rfl))
        (pss_one (ps_if (pt_cmpR op_lt (pv 3) (pe_callB call_len (by rfl) T.len PySem.boot_len (pa_cons (pv 2) pa_nil)) (nomark _))
          (pss_one (ps_for PassesOwn.never rfl (pi_range1 rfl T.range (pa_cons (pe_callB call_len (by rfl) T.len PySem.boot_len (pa_cons (pe_dget hu (pv 0) pe_str (fun _ _ => rfl)) pa_nil)) pa_nil)) (pg_name (i := 4) scFirst.nd rfl (Or.inl rfl))
            (pss_cons (ps_set (i := 5) scFirst.nd rfl (Or.inl rfl) (pe_ix ix_list (pe_ix ix_list (pe_dget hu (pv 0) pe_str (fun _ _ => rfl)) (pe_ix ix_list (pv 2) (pv 3) (fun _ _ => rfl)) (fun _ _ => rfl)) (pv 4) (fun _ _ => rfl)))
            (pss_one (ps_if (pt_cmp (pc_dnotin hu (pv 5) (pv 1)))
              (pss_cons (ps_dput hu (pv 1) (pv 5) (pe_op (r := rCatA K) op_catA (pe_dget hu (pv 1) (pe_ix ix_list (pv 2) (pv 3) (fun _ _ => rfl)) (fun _ _ => rfl)) (pe_tup (pa_cons (pv 4) pa_nil))) rfl)
              (pss_one (ps_expr (pe_bm PySem.F.plainAttrs_list PySem.F.slot_list_append PySem.F.type_list_append mt_append (pv 2) (pa_cons (pv 5) pa_nil))))) pss_nil))))) pss_nil)))
      (pss_one (ps_ret (pe_lc (own := [("_law_spot", 6)]) (g := gName 6) (by rfl) scFirst.nd (pi_list (pv 2))
          (blkOk_by (own := [("_law_spot", 6)]) (N := nFirst) (sc := defScope sFirst) (by decide +kernel)) (fun _ _ _ _ _ => pg_name (i := 6) scFirst.nd rfl (Or.inl rfl)) (fun _ _ _ _ _ => pts_nil)
          (fun _ _ _ _ _ => pe_tup (pa_cons (pv 6) (pa_cons (pe_dget hu (pv 1) (pv 6) (fun _ _ => rfl)) pa_nil))))))), ?_⟩
    obtain ⟨t, r, l, rl, ep, et, er, el, hR⟩ := id hp
    obtain ⟨st0, st1⟩ := pt.st
    have n60 := pt.many.2
    have w6 := pt.gd.len.2
    have hs0 : StOk [rs] [st] := ⟨rfl, fun i t v e1 e2 => by
      match i, e1, e2 with
      | 0, e1, e2 => cases e1; cases e2; exact pt.st
      | _ + 1, e1, _ => simp at e1⟩
    have htab : ∀ t ∈ [rs], TabOk ws.length t := fun t ht => by rw [List.mem_singleton.mp ht]; exact pt.tab
    have hml : ∀ {M : List (List Nat)}, (M.map (runT [rs] [st])).Nodup → (∀ u ∈ M, ∀ k ∈ u, k < ws.length) → M.length ≤ rs.length := fun nd lt => by
      have := met_len hs0 htab nd lt
      have : prodN [rs] = rs.length := Nat.mul_one _
      omega
    -- found, queue
    intro f hf
    have s1 := same_upd (o := .dK []) hf
    have ef1 : upd H f (.dK []) f = some (.dK []) := upd_same
    generalize upd H f (.dK []) = H1 at s1 ef1 ⊢
    refine ⟨_, rfl, p, _, rfl, gStart (s1 _ _ ep), Nat.le_of_ble_eq_true rfl, fun e0 he0 => ?_⟩
    have s2 := same_upd (o := .tup []) he0
    have ee2 : upd H1 e0 (.tup []) e0 = some (.tup []) := upd_same
    have ef2 := s2 _ _ ef1
    generalize upd H1 e0 (.tup []) = H2 at s2 ee2 ef2 ⊢
    refine ⟨ef2, [(Sum.inl st, .ref e0)], rfl, Nat.le_of_ble_eq_true rfl, ?_⟩
    have s02 := s1.trans s2
    have k3 : ∀ b o, H b = some o → upd H2 f (.dK (mergeK [] [(Sum.inl st, .ref e0)])) b = some o := fun b o e => by rw [upd_ne (ne_of_none e hf)]; exact s02 b o e
    have ef3 : upd H2 f (.dK (mergeK [] [(Sum.inl st, .ref e0)])) f = some (.dK (entQ [st] [e0])) := upd_same
    have ee3 : upd H2 f (.dK (mergeK [] [(Sum.inl st, .ref e0)])) e0 = some (.tup []) := by rw [upd_ne (ne_of ee2 ef2 (by intro z; cases z))]; exact ee2
    generalize upd H2 f (.dK (mergeK [] [(Sum.inl st, .ref e0)])) = H3 at k3 ef3 ee3 ⊢
    refine ⟨_, rfl, p, _, rfl, gStart (k3 _ _ ep), Nat.le_of_ble_eq_true rfl, fun q hq => ⟨Nat.le_of_ble_eq_true rfl, fun tp htp => ?_⟩⟩
    have s4 := same_upd (o := .lst [V.int st]) hq
    have eq4 : upd H3 q (.lst [V.int st]) q = some (.lst [V.int st]) := upd_same
    generalize upd H3 q (.lst [V.int st]) = H4 at s4 eq4 htp ⊢
    have s5 := same_upd (o := .tup [V.ref f, V.ref q]) htp
    have ep5 : upd H4 tp (.tup [V.ref f, V.ref q]) tp = some (.tup [V.ref f, V.ref q]) := upd_same
    generalize upd H4 tp (.tup [V.ref f, V.ref q]) = H5 at s5 ep5 ⊢
    refine ⟨tp, _, rfl, SqT.of ep5, rfl, _, _, rfl, _, _, rfl, rfl, ?_⟩
    dsimp only
    have s05 : Same H H5 := fun b o e => s5 _ _ (s4 _ _ (k3 b o e))
    have zq : H q = none := by
      cases z : H q with
      | none => rfl
      | some o => have := k3 _ _ z; rw [hq] at this; cases this
    have qa5 : QuAt K H5 f q [e0] rs st [[]] := ⟨rfl, s5 _ _ (s4 _ _ ef3), s5 _ _ eq4, RowsQ.one (SqT.of (s5 _ _ (s4 _ _ ee3)))⟩
    refine ⟨_, rfl, p, _, rfl, gRows (s05 _ _ ep), _, rs.length, rfl, .inl ⟨_, SqL.of (s05 _ _ er), by rw [List.length_map, hR.1]⟩, (rs.length : Int), rfl, by omega, by omega, ?_⟩
    rw [Int.toNat_natCast]
    refine for_range (lo := 0) (n := rs.length) (fun i σ H' => ∃ (v3 v4 v5 : Option V) (M : List (List Nat)) (as : List Addr), σ = [some (.ref p), some (.ref f), some (.ref q), v3, v4, v5, none] ∧ Same H H' ∧ Qu (runT [rs] [st]) ws.length M i 0 ∧ QuAt K H' f q as rs st M ∧ ∀ u ∈ M, u.length ≤ i) ?_ ?_ ?_
    · exact ⟨_, _, _, [[]], [e0], rfl, s05, Qu.init, qa5, fun u hu => by rw [List.mem_singleton.mp hu]; exact Nat.le_refl _⟩
    · rintro i σ H6 hi ⟨v3, v4, v5, M, as, rfl, s6, qu, qa, hle⟩
      have hM := hml qu.nd qu.lt
      have lst : (stW rs st M).length = M.length := List.length_map _
      refine ⟨_, rfl, _, rfl, _, M.length, rfl, .inl ⟨_, SqL.of qa.hq, by rw [List.length_map, lst]⟩, _, _, rfl, rfl, _, rfl, ?_⟩
      refine ite2 (fun hlt => ?_) (fun hge => ?_)
      · have hlt' : i < M.length := by simpa using hlt
        refine ⟨_, rfl, p, _, rfl, gDeeds (s6 _ _ ep), _, ws.length, rfl, .inr ⟨_, (et.same s6).sq, (List.length_map _).symm⟩, (ws.length : Int), rfl, by omega, by omega, ?_⟩
        rw [Int.toNat_natCast]
        refine for_range (lo := 0) (n := ws.length) (fun j σ H' => ∃ (v4 v5 : Option V) (M : List (List Nat)) (as : List Addr), σ = [some (.ref p), some (.ref f), some (.ref q), some (.int (0 + (i : Int))), v4, v5, none] ∧ Same H H' ∧ Qu (runT [rs] [st]) ws.length M i j ∧ QuAt K H' f q as rs st M ∧ i < M.length ∧ (∀ u ∈ M, u.length ≤ i + 1) ∧ (M.getD i []).length ≤ i) ?_ ?_ ?_
        · exact ⟨_, _, M, as, rfl, s6, qu, qa, hlt', fun u hu => Nat.le_succ_of_le (hle u hu), hle _ (List.mem_of_getElem? (getD_get ([] : List Nat) hlt'))⟩
        · rintro j σ H7 hj ⟨v4, v5, M, as, rfl, s7, qu, qa, hlt, hle, hli⟩
          have lst : (stW rs st M).length = M.length := List.length_map _
          have hM := hml qu.nd qu.lt
          have egi : M[i]? = some (M.getD i []) := getD_get ([] : List Nat) hlt
          have hun := qu.lt _ (List.mem_of_getElem? egi)
          have hld : 0 ≤ ld rs (M.getD i []) st ∧ ld rs (M.getD i []) st < (rs.length : Int) := pt.led (ix_toI hun) st0 st1
          have eqi : atI ((stW rs st M).map V.int) (0 + (i : Int)) = some (.int (ld rs (M.getD i []) st)) := by
            rw [Int.zero_add]
            exact atI_nat (by rw [List.getElem?_map, stW, List.getElem?_map, egi]; rfl)
          have hsn : (ld rs (M.getD i []) st).toNat < rs.length := by omega
          have erow : rs[(ld rs (M.getD i []) st).toNat]? = some (rs.getD (ld rs (M.getD i []) st).toNat []) := getD_get ([] : List Int) hsn
          have hrow := pt.row _ (List.mem_of_getElem? erow)
          obtain ⟨ra, era, ata⟩ := at_ref (as := rl) hld.1 (by rw [hR.1]; exact hld.2)
          have hra := s7 _ _ (hR.2 _ ra _ era erow)
          refine ⟨_, rfl, p, _, rfl, gRows (s7 _ _ ep), _, rfl, _, rfl, q, _, _, _, rfl, rfl, SqL.of qa.hq, eqi, r, _, _, _, rfl, rfl, SqL.of (s7 _ _ er), ata, _, rfl, ra, _, _, _, rfl, rfl, SqL.of hra, at_int (k := 0 + (j : Int)) (by omega) (by rw [hrow.1]; omega), ?_⟩
          have ez : (rs.getD (ld rs (M.getD i []) st).toNat []).getD (0 + (j : Int)).toNat 0 = ld rs (M.getD i [] ++ [j]) st := by
            rw [ld_snoc, Int.zero_add, Int.toNat_natCast]
          rw [ez]
          have hdd : dd (runT [rs] [st]) M [M.getD i [] ++ [j]] = if ld rs (M.getD i [] ++ [j]) st ∈ stW rs st M then M else M ++ [M.getD i [] ++ [j]] := by
            rw [dd_cons, dd_nil]
            by_cases h : ld rs (M.getD i [] ++ [j]) st ∈ stW rs st M
            · rw [if_pos h, if_pos (stW_mem.mpr h)]
            · rw [if_neg h, if_neg (fun z => h (stW_mem.mp z))]
          obtain ⟨qs, qt⟩ := qu.step hlt hj
          rw [hdd] at qs qt
          have hla : (stW rs st M).length = as.length := by rw [lst, qa.la]
          have hnd := stW_nd qu.nd
          have lenE := entQ_len hla
          refine ⟨_, rfl, _, rfl, f, _, rfl, DGet.k (k := Sum.inl (ld rs (M.getD i [] ++ [j]) st)) qa.hf, ?_⟩
          by_cases hz : ld rs (M.getD i [] ++ [j]) st ∈ stW rs st M
          · rw [if_pos hz] at qs qt
            obtain ⟨m, hm⟩ := List.getElem?_of_mem hz
            have hml := (List.getElem?_eq_some_iff.mp hm).1
            have eam : as[m]? = some as[m] := List.getElem?_eq_getElem (by omega)
            rw [entQ_get hla hnd hm eam]
            refine ⟨false, rfl, iteF ?_⟩
            exact ⟨_, _, M, as, rfl, s7, qs, qa, hlt, hle, hli⟩
          · rw [if_neg hz] at qs qt
            rw [entQ_no hla hz]
            refine ⟨true, rfl, iteT ?_⟩
            have eai : as[i]? = some as[i] := List.getElem?_eq_getElem (by rw [qa.la]; exact hlt)
            have eget : valV (entQ (stW rs st M) as) (Sum.inl (ld rs (M.getD i []) st)) = some (.ref as[i]) := entQ_get hla hnd (by rw [stW, List.getElem?_map, egi]; rfl) eai
            have hti := qa.rq.2 i _ _ eai egi
            refine ⟨_, rfl, _, rfl, _, rfl, q, _, _, _, rfl, rfl, SqL.of qa.hq, eqi, f, V.ref as[i], rfl, by rw [← eget]; exact DGet.k (k := Sum.inl (ld rs (M.getD i []) st)) qa.hf, _, rfl, Nat.le_of_ble_eq_true rfl, fun tk htk => ?_⟩
            have s8 := same_upd (o := .tup [V.int (0 + (j : Int))]) htk
            have ek8 : upd H7 tk (.tup [V.int (0 + (j : Int))]) tk = some (.tup [V.int (j : Int)]) := by rw [upd_same, Int.zero_add]
            generalize upd H7 tk (.tup [V.int (0 + (j : Int))]) = H8 at s8 ek8 ⊢
            refine catA_any (hti.ext s8) (SqT.of ek8) (by rw [List.length_map, toI, List.length_map]; show (M.getD i []).length + 1 ≤ 1000; omega) fun tn H9 htn s9 => ?_
            have qa9 := (qa.same s8).same s9
            have s79 := (s7.trans s8).trans s9
            have htn' : SqT K H9 tn ((toI (M.getD i [] ++ [j])).map V.int) := by rw [toI_snoc, List.map_append]; exact htn
            refine ⟨_, rfl, _, rfl, f, _, rfl, DPut.k (k := Sum.inl (ld rs (M.getD i [] ++ [j]) st)) qa9.hf (by rw [lenE, sizeLine_eq]; omega), ?_⟩
            have nfq : q ≠ f := ne_of qa9.hq qa9.hf (by intro z; cases z)
            refine ⟨_, rfl, .inl ⟨rfl, _, SqL.of (by rw [upd_ne nfq]; exact qa9.hq)⟩, _, rfl, q, _, _, rfl, rfl, by rw [upd_ne nfq]; exact qa9.hq, by rw [List.length_map, lst, sizeLine_eq]; omega, ?_⟩
            have em : M ++ [M.getD i [] ++ [j]] = M ++ [M.getD i [] ++ [j]] := rfl
            refine ⟨_, _, M ++ [M.getD i [] ++ [j]], as ++ [tn], rfl, fun b o e => ?_, qs, qa9.more hz htn', by rw [List.length_append]; omega, fun u hu => ?_, ?_⟩
            · rw [upd_ne (ne_of_none e zq), upd_ne (ne_of_none e hf)]; exact s79 b o e
            · rcases List.mem_append.mp hu with h | h
              · exact hle u h
              · rw [List.mem_singleton.mp h, List.length_append, List.length_singleton]; omega
            · rw [List.getD_eq_getElem?_getD, List.getElem?_append_left hlt, ← List.getD_eq_getElem?_getD]; exact hli
        · rintro σ H7 ⟨v4, v5, M, as, rfl, s7, qu, qa, hlt, hle, hli⟩
          exact ⟨_, _, _, M, as, rfl, s7, qu.next hlt, qa, hle⟩
      · have hge' : M.length ≤ i := by simpa using hge
        exact ⟨_, _, _, M, as, rfl, s6, qu.skip hge', qa, fun u hu => Nat.le_succ_of_le (hle u hu)⟩
    · rintro σ H6 ⟨v3, v4, v5, M, as, rfl, s6, qu, qa, hle⟩
      have hM := hml qu.nd qu.lt
      have lst : (stW rs st M).length = M.length := List.length_map _
      have hla : (stW rs st M).length = as.length := by rw [lst, qa.la]
      have hnd := stW_nd qu.nd
      obtain ⟨n, eb⟩ := queue_bfs (runT_c [rs] [st]) (qu.fin hM) qu.lt
      refine ⟨_, rfl, q, rfl, ⟨_, SqL.of qa.hq⟩, fun D hD => ?_⟩
      refine lc_list (K := K) (a := q) (xs := (stW rs st M).map V.int) (fun i H' => Same H6 H' ∧ ∃ bs : List Addr, H' D = some (.lst (bs.map V.ref)) ∧ FirstAt K H' bs rs st (M.take i) ∧ ∀ b ∈ bs, b ≠ D) ?_ ?_ ?_ ?_
      · exact ⟨same_upd hD, [], upd_same, ⟨by simp, fun i a u e => by simp at e⟩, by simp⟩
      · exact fun i H' _ z => SqL.of (z.1 _ _ qa.hq)
      · rintro i y H7 hi ⟨s7, bs, hD7, fa, hne⟩
        rw [List.getElem?_map] at hi
        obtain ⟨z, ez, rfl⟩ := Option.map_eq_some_iff.mp hi
        have hil : i < M.length := by rw [← lst]; exact (List.getElem?_eq_some_iff.mp ez).1
        have eu : M[i]? = some (M.getD i []) := getD_get ([] : List Nat) hil
        have ezu : z = ld rs (M.getD i []) st := by
          rw [stW, List.getElem?_map, eu] at ez
          exact (Option.some.inj ez).symm
        have eai : as[i]? = some as[i] := List.getElem?_eq_getElem (by rw [qa.la]; exact hil)
        have eget := entQ_get hla hnd ez eai
        have lbs := fa.1
        rw [List.length_take] at lbs
        refine ⟨rfl, _, rfl, _, rfl, _, rfl, f, V.ref as[i], rfl, by rw [← eget]; exact DGet.k (k := Sum.inl z) (s7 _ _ qa.hf), Nat.le_of_ble_eq_true rfl, fun b hb => ?_⟩
        have nbD : b ≠ D := (ne_of_none hD7 hb).symm
        have s8 := same_upd (o := .tup [V.int z, V.ref as[i]]) hb
        refine ⟨_, s8 _ _ hD7, ?_, fun x o e => ?_, bs ++ [b], by rw [upd_same]; simp, ?_, ?_⟩
        · rw [List.length_map, sizeLine_eq]; omega
        · rw [upd_ne (ne_of_none e hD)]; exact s8 _ _ (s7 x o e)
        · have e1 : M.take (i + 1) = M.take i ++ [M.getD i []] := by rw [List.take_add_one, eu]; rfl
          rw [e1]
          refine ⟨by simp [fa.1], fun m a u g1 g2 => ?_⟩
          by_cases hm : m < bs.length
          · rw [List.getElem?_append_left hm] at g1
            rw [List.getElem?_append_left (by rw [← fa.1]; exact hm)] at g2
            obtain ⟨t', h1, h2⟩ := fa.2 m a u g1 g2
            have n1 : a ≠ D := hne a (List.mem_of_getElem? g1)
            refine ⟨t', by rw [upd_ne n1]; exact s8 _ _ h1, ?_⟩
            have h3 := h2.ext s8
            have hD8 : upd H7 b (.tup [V.int z, V.ref as[i]]) D = some (.lst (bs.map V.ref)) := s8 _ _ hD7
            exact (RowsQ.updL (as := [t']) (us := [u]) (RowsQ.one h3) hD8).2 0 t' u rfl rfl
          · have hm2 : m = bs.length := by
              have := (List.getElem?_eq_some_iff.mp g1).1
              rw [List.length_append, List.length_singleton] at this; omega
            subst hm2
            rw [List.getElem?_append_right (Nat.le_refl _), Nat.sub_self] at g1
            rw [List.getElem?_append_right (by rw [← fa.1]; exact Nat.le_refl _), ← fa.1, Nat.sub_self] at g2
            obtain rfl := Option.some.inj g1
            obtain rfl := Option.some.inj g2
            refine ⟨as[i], by rw [upd_ne nbD, upd_same, ezu], ?_⟩
            have h3 := ((qa.rq.2 i _ _ eai eu).ext s7).ext s8
            have hD8 : upd H7 b (.tup [V.int z, V.ref as[i]]) D = some (.lst (bs.map V.ref)) := s8 _ _ hD7
            exact (RowsQ.updL (as := [as[i]]) (us := [M.getD i []]) (RowsQ.one h3) hD8).2 0 _ _ rfl rfl
        · intro x hx
          rcases List.mem_append.mp hx with h | h
          · exact hne x h
          · rw [List.mem_singleton.mp h]; exact nbD
      · rintro H7 ⟨s7, bs, hD7, fa, hne⟩
        rw [List.length_map, lst, List.take_length] at fa
        exact k D bs M n H7 eb (s6.free hD) (s6.trans s7) hD7 fa
end
end K1
set_option Elab.async false
set_option linter.all false
set_option maxRecDepth 100000
/-! == of two tuples whose items have an own ==, that answers True or False -/
namespace GQ
open PySem PySem.SeqAt
open AutoSeq1 (wpAny_loadPart')
open MeetsSeq MeetsSeq2 MeetsSeq3 SeqRoads2
section
variable {prog : Program} {w : World} {A : Around} {R : Result → Shared → Prop}
theorem tuple_eqH (l b : Addr) (items items2 : Array Value) (n n2 : Nat) (dd dd2 : Option Addr) (sl sl2 : Array (Option Value)) (e : Nat → Bool) (I : Shared → Prop)
    (turn : ∀ i (h1 : i < items.size) (h2 : i < items2.size) s, I s → wpAny (model prog w) A.in1 (eqBool items[i] items2[i]) (fun r s' => r = e i ∧ I s') (fun e s' => R (.error e) s') s)
    (fin : ∀ s, I s → R (.ok (.ret (.bool ((List.range (min items.size items2.size)).all e && items.size == items2.size)))) s) {s : Shared} (hl1 : s.heap.get? l = some { cls := .type "tuple", dict := dd, data := .seq items n, slots := sl }) (hb1 : s.heap.get? b = some { cls := .type "tuple", dict := dd2, data := .seq items2 n2, slots := sl2 }) (h : I s) :
    wpAny (model prog w) A.in1 (Builtin.«tuple.__eq__» ⟨[.ref l, .ref b], []⟩) (FinOf prog w A R) (fun e s' => R (.error e) s') s := by
  have f2 := AutoSeq1.sub_tuple_tuple
  have hZ : (items.toList.zip items2.toList).length = min items.size items2.size := by simp
  have h0 := h
  obtain ⟨hp, g, d, tk, os⟩ := s
  wp_walk using wpAny_loadPart' hl1, wpAny_loadPart' hb1, wpAny_forIn_list _ (fun rest b s' => b.1 = none ∧ ∃ i, rest = (items.toList.zip items2.toList).drop i ∧ i ≤ min items.size items2.size ∧ (∀ j, j < i → e j = true) ∧ I s') _
  case turn =>
    rintro ⟨y, x⟩ rest b s' ⟨hb', i, hz, hi, hall, hI⟩
    have hlt : i < (items.toList.zip items2.toList).length := by
      rcases Nat.lt_or_ge i (items.toList.zip items2.toList).length with h' | h'
      · exact h'
      · rw [List.drop_of_length_le h'] at hz; cases hz
    have hm : i < min items.size items2.size := hZ ▸ hlt
    have h1 : i < items.size := Nat.lt_of_lt_of_le hm (Nat.min_le_left _ _)
    have h2 : i < items2.size := Nat.lt_of_lt_of_le hm (Nat.min_le_right _ _)
    rw [List.drop_eq_getElem_cons hlt] at hz
    injection hz with hyx hrest
    have hy : y = items[i] := by have := congrArg Prod.fst hyx; simpa using this
    have hx : x = items2[i] := by have := congrArg Prod.snd hyx; simpa using this
    subst hy hx
    refine wpAny_bind (wpAny_mono (turn i h1 h2 s' hI) (fun r s2 q2 => ?_) fun _ _ x => x)
    obtain ⟨hr, q2⟩ := q2
    subst hr
    cases hy : e i with
    | true =>
      wp_walk
      refine ⟨rfl, i + 1, hrest, hm, fun j hj => ?_, q2⟩
      by_cases hji : j = i
      · rw [hji]; exact hy
      · exact hall j (by omega)
    | false =>
      have hR := fin s2 q2
      have : (List.range (min items.size items2.size)).all e = false := List.all_eq_false.mpr ⟨i, List.mem_range.mpr hm, by rw [hy]; simp⟩
      rw [this] at hR
      wp_walk
      simpa using hR
  case fin =>
    rintro ⟨b1, b2⟩ s' ⟨hb', i, hz, hi, hall, hI⟩
    simp only at hb'
    subst hb'
    have hge : min items.size items2.size ≤ i := by
      rcases Nat.lt_or_ge i (items.toList.zip items2.toList).length with h' | h'
      · rw [List.drop_eq_getElem_cons h'] at hz; cases hz
      · exact hZ ▸ h'
    have hR := fin s' hI
    have : (List.range (min items.size items2.size)).all e = true := List.all_eq_true.mpr fun j hj => hall j (Nat.lt_of_lt_of_le (List.mem_range.mp hj) hge)
    rw [this] at hR
    wp_walk
    simpa [Builtin.Tuple.tupleCompareSizes] using hR
  case h =>
    exact ⟨rfl, 0, rfl, Nat.zero_le _, fun j hj => absurd hj (Nat.not_lt_zero _), h0⟩
end
section
variable {prog : Program} {w : World} {A : Around} {E : Value → Shared → Prop} {s : Shared}
theorem rc_tupH {l b : Addr} {items items2 : Array Value} {Q : Value → Shared → Prop} (e : Nat → Bool) (hu : A.units < cLine) (I : Shared → Prop)
    (hl : s.heap.IsTuple l items) (hb : s.heap.IsTuple b items2)
    (turn : ∀ i (h1 : i < items.size) (h2 : i < items2.size) s, I s → wpAny (model prog w) A.in1 (eqBool items[i] items2[i]) (fun r s' => r = e i ∧ I s') E s)
    (fin : ∀ s, I s → Q (.bool ((List.range (min items.size items2.size)).all e && items.size == items2.size)) s) (h : I s) : wpAny (model prog w) A (richCompare .Eq (.ref l) (.ref b)) Q E s := by
  obtain ⟨⟨cls, dd, data, sl⟩, ho, hc, n, hd⟩ := id hl
  obtain ⟨⟨cls2, dd2, data2, sl2⟩, ho2, hc2, n2, hd2⟩ := id hb
  simp only at hc hd hc2 hd2
  subst hc hd hc2 hd2
  refine wpAny_richCompare_same_room (op := .Eq) ⟨_, ho, rfl⟩ ⟨_, ho2, rfl⟩ F.slot_tuple_eq (call_here F.slot_tuple_eq ⟨_, ho, rfl⟩ F.entry_tuple_eq (F.args_tuple_eq_2 _ _) ?_) hu
  exact tuple_eqH (R := wants (fun v s' => v ≠ .notImplemented ∧ Q v s') E) l b items items2 n n2 dd dd2 sl sl2 e I turn (fun s' q => ⟨(fun x => nomatch x), fin s' q⟩) ho ho2 h
end
end GQ
namespace L2
open PySem PySem.Spec PyProof.Rows
abbrev EqvB := V → V → Bool → Hp → Prop
def MonB (D : EqvB) : Prop := ∀ x y c H H', Ext H H' → D x y c H → D x y c H'
def EqB (X : Cx) (n : Nat) (D : EqvB) : Prop :=
  ∀ (A : Around) (pins : List (Addr × Obj)) (s : Shared) (σ : St) (H : Hp) (x y : V) (u v : Value) (c : Bool), Sub X n A → Inv X pins σ H s → RelV x u → RelV y v → D x y c H →
    wpAny (model X.prog X.w) A (eqBool u v) (fun r s' => r = c ∧ ∃ H', Inv X pins σ H' s' ∧ Ext H H') X.xe s
def RcB (X : Cx) (n : Nat) (D : EqvB) : Prop :=
  ∀ (A : Around) (pins : List (Addr × Obj)) (s : Shared) (σ : St) (H : Hp) (x y : V) (u v : Value) (c : Bool), Sub X n A → Inv X pins σ H s → RelV x u → RelV y v → D x y c H →
    wpAny (model X.prog X.w) A (richCompare .Eq u v) (fun r s' => r = .bool c ∧ ∃ H', Inv X pins σ H' s' ∧ Ext H H') X.xe s
section
variable {X : Cx} {n : Nat} {D : EqvB}
theorem RcB.eqB (h : RcB X n D) (hr : ∀ x y c H, D x y c H → ∃ a b, x = .ref a ∧ y = .ref b ∧ (a = b → c = true)) : EqB X n D := by
  intro A pins s σ H x y u v c sb I rx ry d
  obtain ⟨a, b, rfl, rfl, same⟩ := hr _ _ _ _ d
  cases rx
  cases ry
  by_cases hab : a = b
  · rw [same hab]
    subst hab
    exact SeqAt.EqAt.same (A := A) (s := s) (.ref a) X.prog X.w X.xe _ ⟨rfl, H, I, Ext.rfl'⟩
  · refine GQ.eqBool_refG hab (wpAny_mono (h A pins s σ H (.ref a) (.ref b) _ _ c sb I rfl rfl d) (fun r s' q => ?_) fun _ _ x => x)
    obtain ⟨hr', q⟩ := q
    exact ⟨c, hr', rfl, q⟩
/-- two tuples: e i tells the i-th items -/
def DTupB (K : PySem.W.Frag) (D : EqvB) : EqvB := fun x y c H => ∃ (a b : Addr) (xs ys : List V) (e : Nat → Bool), x = .ref a ∧ y = .ref b ∧ SqT K H a xs ∧ SqT K H b ys ∧ (∀ (i : Nat) x y, xs[i]? = some x → ys[i]? = some y → D x y (e i) H) ∧
  c = ((List.range (min xs.length ys.length)).all e && xs.length == ys.length)
theorem rcB_tup (hD : MonB D) (h : EqB X n D) : RcB X (n + 1) (DTupB X.K D) := by
  intro A pins s σ H x y u v c sb I rx ry d
  obtain ⟨a, b, xs, ys, e, rfl, rfl, ha, hb, p, rfl⟩ := d
  cases rx
  cases ry
  obtain ⟨its, r, e1, z⟩ := I.tuple ha
  obtain ⟨its2, r2, e2, z2⟩ := I.tuple hb
  have l1 : its.toArray.size = xs.length := by rw [List.size_toArray, ← r.length]
  have l2 : its2.toArray.size = ys.length := by rw [List.size_toArray, ← r2.length]
  refine GQ.rc_tupH e sb.room.units0 (fun s' => LoopI X pins σ H s') e1 e2 (fun i h1 h2 s' l => ?_) (fun s' q => ⟨by rw [l1, l2], q⟩) ⟨H, I, Ext.rfl'⟩
  obtain ⟨H1, I1, x1⟩ := l
  have g1 : its[i]? = some its.toArray[i] := by
    have h1' : i < its.length := by simpa using h1
    rw [List.getElem?_eq_getElem h1'] <;> simp
  have g2 : its2[i]? = some its2.toArray[i] := by
    have h2' : i < its2.length := by simpa using h2
    rw [List.getElem?_eq_getElem h2'] <;> simp
  have k1 : i < xs.length := by rw [← l1]; exact h1
  have k2 : i < ys.length := by rw [← l2]; exact h2
  obtain ⟨u, hu, ru⟩ := r.get (List.getElem?_eq_getElem k1)
  obtain ⟨v, hv, rv⟩ := r2.get (List.getElem?_eq_getElem k2)
  rw [g1] at hu
  rw [g2] at hv
  rw [Option.some.inj hu, Option.some.inj hv]
  refine wpAny_mono (h A.in1 pins s' σ H1 _ _ u v (e i) sb.in1 I1 ru rv (hD _ _ _ _ _ x1 (p i _ _ (List.getElem?_eq_getElem k1) (List.getElem?_eq_getElem k2)))) (fun r s2 q => ?_) fun _ _ x => x
  obtain ⟨hr, H2, I2, x2⟩ := q
  exact ⟨hr, H2, I2, x1.trans x2⟩
/-- instances of the class at C with the text's own == -/
def DInsB (C : Addr) (R : Addr → Addr → Bool → Hp → Prop) : EqvB := fun x y c H => ∃ a b dx dy fs gs, x = .ref a ∧ y = .ref b ∧ H a = some (.ins C dx fs) ∧ H b = some (.ins C dy gs) ∧ R a b c H
theorem monB_ins {C : Addr} {R : Addr → Addr → Bool → Hp → Prop} (hR : ∀ a b c H H', Ext H H' → R a b c H → R a b c H') : MonB (DInsB C R) := fun x y c H H' e d => by
  obtain ⟨a, b, dx, dy, fs, gs, hx, hy, h1, h2, r⟩ := d
  exact ⟨a, b, dx, dy, fs, gs, hx, hy, e _ _ h1, e _ _ h2, hR a b c H H' e r⟩
def spEqB (R : Addr → Addr → Bool → Hp → Prop) : Sp := fun vs H Q _ => ∃ a b c, vs = [.ref a, .ref b] ∧ R a b c H ∧ ∀ H', Ext H H' → Q (.bl c) H'
theorem rcB_ins {CX : CXT} {C f : Addr} {fd : FuncData} {ps : List Str} {R : Addr → Addr → Bool → Hp → Prop} {E : XK} (F : FnOk X.prog X.w X.K X.mg X.base CX n f fd ps (spEqB R))
    (hs : PySem.W.findIn X.K (.ref C) "__eq__" = some (some (.ref f))) (hf : PySem.W.isFn X.K (.ref f) = true) (hb : Binds X.K fd ps []) (hx : Passes CX X E) : RcB X n (DInsB C R) := by
  intro A pins s σ H x y u v c sb I rx ry d
  obtain ⟨a, b, dx, dy, fs, gs, rfl, rfl, ha, hb', hr⟩ := d
  cases rx
  cases ry
  obtain ⟨mA, J, _⟩ := ins_get I.hok ha
  obtain ⟨mB, J', _⟩ := ins_get I.hok hb'
  obtain ⟨od, J, _⟩ := J.look
  obtain ⟨od', J', _⟩ := J'.look
  obtain ⟨m, hF⟩ := I.fr
  refine PySem.W.cmp_K (op := .Eq) (tb := .ref C) sb.room.units0 hF I.ok.mod.kin J J'.type (by simp [PySem.W.notFirst]) hs hf ?_
  have hsp : spEqB R [.ref a, .ref b] H (fun v H' => v = .bl c ∧ Ext H H') E := ⟨a, b, c, rfl, hr, fun H' e => ⟨rfl, e⟩⟩
  have e0 : Env0 X.prog X.w X.K X.mg X.base A X.stack s H := by
    have e := I.env0
    exact ⟨by rw [sb.fr]; exact e.frames, e.mod, e.bs, e.bsz, e.funs, e.frf, e.hok, e.bare⟩
  have hl := F.len _ _ _ _ hsp
  have r2 : Vals [V.ref a, V.ref b] [Value.ref a, Value.ref b] := .cons rfl (.cons rfl .nil)
  refine wpAny_call (codeAny_mono (F.run A X.stack s H ⟨[.ref a, .ref b], []⟩ [.ref a, .ref b] [.ref a, .ref b] _ E sb.room e0 (by
    have := hb s [.ref a, .ref b] I.kIn (by simpa using hl)
    simpa using this) r2 hsp) fun r s' hq => ?_)
  cases r with
  | error e => exact hx pins σ H s e s' I hq
  | ok fl =>
    cases fl with
    | ret w =>
      obtain ⟨z, H', I', rz, ez, ex⟩ := I.after hq
      subst ez
      cases rz
      exact ⟨rfl, H', I', ex⟩
    | next => exact False.elim hq
    | brk => exact False.elim hq
    | cont => exact False.elim hq
/-- x == y as an expression -/
def rEqB (D : EqvB) : R2 := fun x y H Q => ∃ c, D x y c H ∧ ∀ H', Ext H H' → Q (.bl c) H'
theorem op_eqB (h : RcB X n D) (hr : Room n X.A) : OpR X (compareOp .Eq) (rEqB D) := by
  intro pins s σ H x y v u Q I rx ry hq
  obtain ⟨c, d, q⟩ := hq
  show wpAny (model X.prog X.w) X.A (richCompare .Eq v u) (EP X pins σ Q) X.xe s
  refine wpAny_mono (h X.A pins s σ H x y v u c ⟨hr, rfl⟩ I rx ry d) (fun r s' z => ?_) fun _ _ x => x
  obtain ⟨hr', H', I', e⟩ := z
  subst hr'
  exact ⟨.bl c, H', I', rfl, q H' e⟩
end
end L2
set_option Elab.async false
set_option linter.all false
set_option maxRecDepth 100000
/-! an instance and a tuple: never equal -/
namespace EO
open PySem PySem.W PySem.Spec PyProof.Rows L2
open SeqAt
open AutoSeq1 (wpAny_loadPart')
section
variable {prog : Program} {w : World} {A : Around} {E : Value → Shared → Prop} {s : Shared} {K : Frag} {x C : Addr} {ox : Obj} {od : Option Obj}
theorem tuple_declines_ins {l : Addr} {items : Array Value} {R : Result → Shared → Prop} (hl : s.heap.IsTuple l items) (X : K.In s.heap) (I : InstAt s.heap x ox C od) (hm : mroIn K C (.type "tuple") = some false) (h : R (.ok (.ret .notImplemented)) s) :
    wpAny (model prog w) A.in1 (Builtin.«tuple.__eq__» ⟨[.ref l, .ref x], []⟩) (fun fin s' => match fin with | .done f => R (.ok f) s' | .again c' => c'.quiet = true ∧ codeAny (model prog w) A c' R s') (fun e s' => R (.error e) s') s := by
  have hx := I.at_
  have hcl := I.cls
  obtain ⟨⟨cls, dd, data, sl⟩, ho, hc, n, hd⟩ := id hl
  simp only at hc hd
  subst hc hd
  obtain ⟨cls2, dd2, data2, sl2⟩ := ox
  simp only at hcl
  subst hcl
  obtain ⟨hp, g, d, tk, os⟩ := s
  wp_walk using wpAny_loadPart' ho, wpAny_loadPart' hx
  refine (looks_mroIn X hm).here ?_
  simp only [Bool.not_false, if_true]
  wp_walk
  exact h
theorem mro_tuple : fastBuiltinMro "tuple" = some [.type "tuple", .type "object"] := by decide +kernel
end
end EO
namespace L2
open PySem PySem.Spec PyProof.Rows
/-- an instance compared with a tuple: its own == says NotImplemented, the tuple's too; so False -/
def rNIT (C : Addr) (pre : List V → Hp → Prop) : R2 := fun x y H Q => ∃ a dx fs l xs, x = .ref a ∧ H a = some (.ins C dx fs) ∧ pre [x, y] H ∧ y = .ref l ∧ H l = some (.tup xs) ∧ ∀ H', Same H H' → Q (.bl false) H'
theorem op_eqNIT {X : Cx} {n : Nat} {C f : Addr} {fd : FuncData} {ps : List Str} {pre : List V → Hp → Prop} (O : OwnE X.K C f) (ml : PySem.W.mroIn X.K C (.type "tuple") = some false)
    (G : FnNI X.prog X.w X.K X.mg X.base n f fd ps pre) (hr : Room n X.A) (hb : Binds X.K fd ps []) : OpR X (compareOp .Eq) (rNIT C pre) := by
  intro pins s σ H x y u v Q I rx ry h
  obtain ⟨a, dx, fs, l, xs, rfl, ha, hp, rfl, hl', hQ⟩ := h
  cases rx
  cases ry
  obtain ⟨mA, J, _⟩ := ins_get I.hok ha
  obtain ⟨od, J, _⟩ := J.look
  show wpAny (model X.prog X.w) X.A (richCompare .Eq (.ref a) (.ref l)) (EP X pins σ Q) X.xe s
  have hl := G.len _ _ hp
  have at' : ∀ s' H', Inv X pins σ H' s' → Same H H' → ∃ od, PySem.W.InstAt s'.heap a (PySem.W.instObj C dx) C (some od) := fun s' H' I' sm => by
    obtain ⟨mA, J, _⟩ := ins_get I'.hok (sm _ _ ha)
    obtain ⟨od, J, _⟩ := J.look
    exact ⟨od, J⟩
  obtain ⟨_, its, k, ⟨c0, dd0, dt0, sl0⟩, hg, hcl, n0, hdt⟩ := I.hok l _ hl'
  simp only at hcl hdt
  subst hcl hdt
  refine EO.cmp_dec_K (tb := .type "tuple") hr.units0 I.kIn J ((PySem.W.Looks.ld (part := none) hg).andThen .now) (EO.nf EO.mro_tuple (by simp)) O.eq O.fn ?_
  refine wpAny_call (codeAny_mono (G.run X.A X.stack s H ⟨[.ref a, .ref l], []⟩ [.ref a, .ref l] [.ref a, .ref l] hr I.env0 (by
    have := hb s [.ref a, .ref l] I.kIn (by rw [List.append_nil, ← hl]; rfl)
    simpa using this) (.cons rfl (.cons rfl .nil)) hp) fun r s' hq => ?_)
  obtain ⟨rfl, hq⟩ := hq
  obtain ⟨z, H', I', rz, ez, sm⟩ := I.after hq
  refine ⟨rfl, ?_⟩
  obtain ⟨od', J'⟩ := at' s' H' I' sm
  obtain ⟨_, its', k', ⟨c1, dd1, dt1, sl1⟩, e', hcl1, n1, hdt1⟩ := I'.hok l _ (sm _ _ hl')
  simp only at hcl1 hdt1
  subst hcl1 hdt1
  have nal : a ≠ l := ne_of ha hl' (by intro z; cases z)
  refine wpAny_mono (Q := fun r s2 => r = none ∧ wpAny (model X.prog X.w) X.A (isSame (.ref a) (.ref l)) (fun k s3 => k = false ∧ Inv X pins σ H' s3) X.xe s2) (wpAny_tryCompare_declines ⟨_, e', rfl⟩ F.slot_tuple_eq (GQ.call_here F.slot_tuple_eq ⟨_, e', rfl⟩ F.entry_tuple_eq (F.args_tuple_eq_2 _ _) ?_)) (fun r s2 q => ⟨q.1, wpAny_mono q.2 (fun k s3 q => ?_) fun _ _ e => e⟩) fun _ _ e => e
  · exact EO.tuple_declines_ins (R := wants _ _) ⟨_, e', rfl, _, rfl⟩ I'.kIn J' ml ⟨rfl, rfl, wpAny_isSame_ref_other nal J'.at_ e' (by show Value.ref C ≠ Value.type "tuple"; simp) ⟨rfl, I'⟩⟩
  · obtain ⟨rfl, I3⟩ := q
    exact ⟨.bl false, H', I3, rfl, hQ H' sm⟩
end L2
set_option Elab.async false
set_option linter.all false
set_option maxRecDepth 100000
/-! == of marks and of lots; len of a lot -/
namespace K1
open PySem L2 LamX OwnT
abbrev sKEq : Stmt := inClass (top 28) 1
abbrev sKHides : Stmt := inClass (top 28) 2
abbrev sLLen : Stmt := inClass (top 29) 1
abbrev sLEq : Stmt := inClass (top 29) 3
structure PmS (ws : List Str) (m : Pm) : Prop where
  ow : OkS ws
  os : OkS m.ss
def pmEq (m m2 : Pm) : Bool := decide (m.rs = m2.rs ∧ m.ss = m2.ss ∧ m.st = m2.st ∧ m.ru = m2.ru)
theorem pmEq_self (m : Pm) : pmEq m m = true := by simp [pmEq]
/-- two marks over deeds -/
def KEqR (K : PySem.W.Frag) (C CM : Addr) (a b : Addr) (c : Bool) (H : Hp) : Prop := ∃ (ws ws2 : List Str) (m m2 : Pm), MarkAt K C CM H a ws m ∧ MarkAt K C CM H b ws2 m2 ∧ PmS ws m ∧ PmS ws2 m2 ∧ c = (decide (ws = ws2) && pmEq m m2)
theorem KEqR.ext {K : PySem.W.Frag} {C CM : Addr} {a b : Addr} {c : Bool} {H H' : Hp} (e : Ext H H') (h : KEqR K C CM a b c H) : KEqR K C CM a b c H' := by
  obtain ⟨ws, ws2, m, m2, h1, h2, h3⟩ := h
  exact ⟨ws, ws2, m, m2, h1.same e, h2.same e, h3⟩
theorem map_str_inj {a b : List Str} (h : a.map V.str = b.map V.str) : a = b := (List.map_inj_right (fun _ _ e => by injection e)).mp h
theorem map_int_inj {a b : List Int} (h : a.map V.int = b.map V.int) : a = b := (List.map_inj_right (fun _ _ e => by injection e)).mp h
theorem map_ref_inj {a b : List Addr} (h : a.map V.ref = b.map V.ref) : a = b := (List.map_inj_right (fun _ _ e => by injection e)).mp h
theorem RowsT.inj {H : Hp} {as : List Addr} {rs rs2 : List (List Int)} (h : RowsT H as rs) (h2 : RowsT H as rs2) : rs = rs2 := by
  refine List.ext_getElem (by rw [← h.1, h2.1]) fun i i1 i2 => ?_
  have hi : i < as.length := by rw [h.1]; exact i1
  have e1 := h.2 i _ _ (List.getElem?_eq_getElem hi) (List.getElem?_eq_getElem i1)
  have e2 := h2.2 i _ _ (List.getElem?_eq_getElem hi) (List.getElem?_eq_getElem i2)
  rw [e1] at e2
  injection e2 with e2
  injection e2 with e2
  exact map_int_inj e2
theorem MachAt.inj {K : PySem.W.Frag} {C : Addr} {H : Hp} {x : Addr} {ws ws2 : List Str} {rs rs2 : List (List Int)} {ss ss2 : List Str} {st st2 : Int} (h : MachAt K C H x ws rs ss st) (h2 : MachAt K C H x ws2 rs2 ss2 st2) : ws = ws2 ∧ rs = rs2 ∧ ss = ss2 ∧ st = st2 := by
  obtain ⟨dx, t, r, l, as, a1, ⟨o, a2, _⟩, a3, a4, a5⟩ := h
  obtain ⟨dx2, t2, r2, l2, as2, b1, ⟨o2, b2, _⟩, b3, b4, b5⟩ := h2
  rw [a1] at b1
  injection b1 with b1
  injection b1 with _ _ b1
  have e1 : t = t2 := by have := mf_deeds t r l st; rw [b1, mf_deeds] at this; injection this with this; injection this with this; exact this.symm
  have e2 : r = r2 := by have := mf_rows t r l st; rw [b1, mf_rows] at this; injection this with this; injection this with this; exact this.symm
  have e3 : l = l2 := by have := mf_tells t r l st; rw [b1, mf_tells] at this; injection this with this; injection this with this; exact this.symm
  have e4 : st = st2 := by have := mf_start t r l st; rw [b1, mf_start] at this; injection this with this; injection this with this; exact this.symm
  subst e1 e2 e3 e4
  rw [a2] at b2; rw [a3] at b3; rw [a5] at b5
  injection b2 with b2
  injection b2 with _ b2
  injection b2 with b2
  injection b3 with b3
  injection b3 with b3
  injection b5 with b5
  injection b5 with b5
  have e5 := map_ref_inj b3
  subst e5
  exact ⟨map_str_inj b2, a4.inj b4, map_str_inj b5, rfl⟩
theorem MarkAt.inj {K : PySem.W.Frag} {C CM : Addr} {H : Hp} {a : Addr} {ws ws2 : List Str} {m m2 : Pm} (h : MarkAt K C CM H a ws m) (h2 : MarkAt K C CM H a ws2 m2) : ws = ws2 ∧ pmEq m m2 = true := by
  obtain ⟨dk, x, a1, a2⟩ := h
  obtain ⟨dk2, x2, b1, b2⟩ := h2
  rw [a1] at b1
  injection b1 with b1
  injection b1 with _ _ b1
  have e1 : x = x2 := by have := kf_m x m.ru; rw [b1, kf_m] at this; injection this with this; injection this with this; exact this.symm
  have e2 : m.ru = m2.ru := by have := kf_r x m.ru; rw [b1, kf_r] at this; injection this with this; injection this with this; exact this.symm
  subst e1
  obtain ⟨f1, f2, f3, f4⟩ := a2.inj b2
  exact ⟨f1, by simp [pmEq, f2, f3, f4, e2]⟩
theorem KEqR.self {K : PySem.W.Frag} {C CM : Addr} {a : Addr} {c : Bool} {H : Hp} (h : KEqR K C CM a a c H) : c = true := by
  obtain ⟨ws, ws2, m, m2, h1, h2, _, _, rfl⟩ := h
  obtain ⟨rfl, e⟩ := h1.inj h2
  rw [e]; simp
/-- two lots -/
def lotEq (ms ms2 : List Pm) : Bool := (List.range (min ms.length ms2.length)).all (fun i => match ms[i]?, ms2[i]? with | some a, some b => pmEq a b | _, _ => true) && ms.length == ms2.length
def LEqR (K : PySem.W.Frag) (C CM CL : Addr) (a b : Addr) (c : Bool) (H : Hp) : Prop := ∃ (ws : List Str) (ms ms2 : List Pm), LotAt K C CM CL H a ws ms ∧ LotAt K C CM CL H b ws ms2 ∧ (∀ m ∈ ms, PmS ws m) ∧ (∀ m ∈ ms2, PmS ws m) ∧ c = lotEq ms ms2
def spLLen (K : PySem.W.Frag) (C CM CL : Addr) : Sp := fun vs H Q _ => ∃ (x : Addr) (ws : List Str) (ms : List Pm), vs = [.ref x] ∧ LotAt K C CM CL H x ws ms ∧ Q (.int (ms.length : Int)) H
/-- the other one is a tuple -/
def preNT (C : Addr) : List V → Hp → Prop := fun vs H => ∃ (x dx : Addr) (fs : List (Str × V)) (l : Addr) (xs : List V), vs = [.ref x, .ref l] ∧ H x = some (.ins C dx fs) ∧ H l = some (.tup xs)
/-- the class as isinstance sees it -/
structure Ti3 (K : PySem.W.Frag) (C : Addr) : Prop extends Ti K C where
  ci : (PySem.W.clsIn K C).isSome = true
  ty : PySem.W.typeIn K (.ref C) = some (.type "type")
theorem kit_noT {K : PySem.W.Frag} {C : Addr} (I : Ti3 K C) {T : String} {l : List Value} (h : fastBuiltinMro T = some l) (hc : l.contains (.ref C) = false) : PySem.W.kitOne K (.type T) (.ref C) = some false := by
  unfold PySem.W.kitOne PySem.W.kitCls PySem.W.subIn
  simp only [I.ci, I.ty, h, Option.map_some, hc]
  simp
section
variable {P : Program} {w : World} {K : PySem.W.Frag} {mg : Str → Option Value} {base : Heap}
theorem scKEq : FnScope pEq pEq (defScope sKEq) := ⟨rfl, rfl, rfl, by decide +kernel, rfl, by decide +kernel, by decide +kernel⟩
theorem ok_keq {C CM f fE : Addr} {fd fdE : FuncData} (F : Fun K "__eq__" "Mark.__eq__" sKEq f fd) (MK : Tk K mg CM) (I : Ti K CM) (T : Bt2 mg) (OE : OwnE K C fE) (bE : Binds K fdE pEq []) (GE : FnOk P w K mg base CX0 1 fE fdE pEq (spMEq K C)) : FnOk P w K mg base CX0 2 f fd pEq (spEqB (KEqR K C CM)) := by
  refine F.ok scKEq (fun vs H Q E h => ?_) (fun cdv A outer s H vs Q E hr h => ?_)
  · obtain ⟨a, b, c, rfl, _⟩ := h
    rfl
  · obtain ⟨a, b, c, rfl, ⟨ws, ws2, m, m2, ⟨dk, x, ha, mx⟩, ⟨dk2, y, hb, my⟩, ⟨o1, o2⟩, ⟨o3, o4⟩, rfl⟩, k⟩ := h
    obtain ⟨dm, t, r, l, as, hx, _⟩ := id mx
    obtain ⟨dm2, t2, r2, l2, as2, hy, _⟩ := id my
    refine ⟨_, pss_cons (ps_if (pt_not (pt_val (pe_callB call_isi (by rfl) T.isinstance PyProof.Rows.boot_isinstance (pa_cons (pv 1) (pa_cons (pe_glob (v := .ref CM) rfl MK.mgC rfl) pa_nil))))) pss_never pss_nil)
      (pss_one (ps_ret (pe_and (pe_cmpR (op_eqOwn OE GE hr bE pass0) (pe_fld (pv 0) rfl) (pe_fld (pv 1) rfl) (nomark _)) (pe_one (pe_cmpR op_eq (pe_fld (pv 0) rfl) (pe_fld (pv 1) rfl) (nomark _)))))), ?_⟩
    refine ⟨_, rfl, _, _, .ref CM, .ref CM, true, rfl, .own CM, .base (.ins hb MK.cl I.ca I.cs I.ct I.cm), by simp [PySem.W.kitOne], true, rfl, ?_⟩
    refine iteF ?_
    refine ⟨_, rfl, a, CM, dk, _, _, rfl, ha, MK.cl, MK.nM, kf_m _ _, _, rfl, b, CM, dk2, _, _, rfl, hb, MK.cl, MK.nM, kf_m _ _, x, y, dm, dm2, _, _, rfl, rfl, hx, hy, x, y, ws, ws2, m.rs, m2.rs, m.ss, m2.ss, m.st, m2.st, rfl, mx, my, o1, o3, o2, o4, _, rfl, _, rfl, ?_⟩
    refine ite2 (fun h => ?_) (fun h => ?_)
    · have e := of_decide_eq_true h
      refine ⟨_, rfl, a, CM, dk, _, _, rfl, ha, MK.cl, MK.nR, kf_r _ _, _, rfl, b, CM, dk2, _, _, rfl, hb, MK.cl, MK.nR, kf_r _ _, rfl, ?_⟩
      have : (decide (ws = ws2) && pmEq m m2) = decide (V.str m.ru = V.str m2.ru) := by simp [pmEq, e.1, e.2.1, e.2.2.1, e.2.2.2]
      rw [this] at k
      exact k H Ext.rfl'
    · have hne := of_decide_eq_false (Bool.eq_false_iff.mpr h)
      have : (decide (ws = ws2) && pmEq m m2) = false := by
        cases h1 : (decide (ws = ws2) && pmEq m m2) with
        | false => rfl
        | true =>
          exfalso
          simp [pmEq] at h1
          exact hne ⟨h1.1, h1.2.1, h1.2.2.1, h1.2.2.2.1⟩
      rw [this] at k
      exact k H Ext.rfl'
theorem scLLen : FnScope ["self"] ["self"] (defScope sLLen) := ⟨rfl, rfl, rfl, by decide +kernel, rfl, by decide +kernel, by decide +kernel⟩
theorem ok_llen {C CM CL f : Addr} {fd : FuncData} (F : Fun K "__len__" "Lot.__len__" sLLen f fd) (ML : Tl2 K mg CL) (T : Bt2 mg) : FnOk P w K mg base CX0 1 f fd ["self"] (spLLen K C CM CL) := by
  refine F.ok scLLen (fun vs H Q E h => ?_) (fun cdv A outer s H vs Q E hr h => ?_)
  · obtain ⟨x, ws, ms, rfl, _⟩ := h
    rfl
  · obtain ⟨x, ws, ms, rfl, ⟨dx, q, b, as, hx, hq, hb, hM⟩, k⟩ := h
    refine ⟨_, pss_one (ps_ret (pe_callB call_len (by rfl) T.len PySem.boot_len (pa_cons (pe_fld (pv 0) rfl) pa_nil))), ?_⟩
    exact ⟨_, rfl, x, CL, dx, _, _, rfl, hx, ML.cl, ML.nM, lf_m _ _, _, ms.length, rfl, .inr ⟨_, SqT.of hq, by rw [List.length_map, hM.1]⟩, k⟩
theorem scLEq : FnScope pEq pEq (defScope sLEq) := ⟨rfl, rfl, rfl, by decide +kernel, rfl, by decide +kernel, by decide +kernel⟩
theorem ok_leq {C CM CL f fE : Addr} {fd fdE : FuncData} (F : Fun K "__eq__" "Lot.__eq__" sLEq f fd) (ML : Tl2 K mg CL) (I : Ti K CL) (T : Bt2 mg) (OE : OwnE K CM fE) (bE : Binds K fdE pEq []) (GE : FnOk P w K mg base CX0 2 fE fdE pEq (spEqB (KEqR K C CM))) : FnOk P w K mg base CX0 4 f fd pEq (spEqB (LEqR K C CM CL)) := by
  refine F.ok scLEq (fun vs H Q E h => ?_) (fun cdv A outer s H vs Q E hr h => ?_)
  · obtain ⟨a, b, c, rfl, _⟩ := h
    rfl
  · obtain ⟨a, b, c, rfl, ⟨ws, ms, ms2, ⟨dx, q, b1, as, hx, hq, hb1, hM⟩, ⟨dy, q2, b2, bs, hy, hq2, hb2, hM2⟩, hs, hs2, rfl⟩, k⟩ := h
    have eqM : EqB (cxOf CX0 P w K mg base pEq "Lot.__eq__" (defScope sLEq) f cdv A outer s H E).nox 2 (DInsB CM (KEqR K C CM)) := (rcB_ins GE OE.eq OE.fn bE pass0).eqB fun x y c H d => by
      obtain ⟨a, b, _, _, _, _, rfl, rfl, _, _, r⟩ := d
      exact ⟨a, b, rfl, rfl, fun e => by subst e; exact r.self⟩
    have rcT := rcB_tup (monB_ins fun a b c H H' e h => h.ext e) eqM
    refine ⟨_, pss_cons (ps_if (pt_not (pt_val (pe_callB call_isi (by rfl) T.isinstance PyProof.Rows.boot_isinstance (pa_cons (pv 1) (pa_cons (pe_glob (v := .ref CL) rfl ML.mgC rfl) pa_nil))))) pss_never pss_nil)
      (pss_one (ps_ret (pe_cmpR (op_eqB rcT hr) (pe_fld (pv 0) rfl) (pe_fld (pv 1) rfl) (nomark _)))), ?_⟩
    refine ⟨_, rfl, _, _, .ref CL, .ref CL, true, rfl, .own CL, .base (.ins hy ML.cl I.ca I.cs I.ct I.cm), by simp [PySem.W.kitOne], true, rfl, ?_⟩
    refine iteF ?_
    refine ⟨_, rfl, a, CL, dx, _, _, rfl, hx, ML.cl, ML.nM, lf_m _ _, _, rfl, b, CL, dy, _, _, rfl, hy, ML.cl, ML.nM, lf_m _ _, lotEq ms ms2, ?_, k⟩
    refine ⟨q, q2, _, _, fun i => match ms[i]?, ms2[i]? with | some a, some b => pmEq a b | _, _ => true, rfl, rfl, SqT.of hq, SqT.of hq2, fun i x y e1 e2 => ?_, ?_⟩
    · rw [List.getElem?_map] at e1 e2
      obtain ⟨a1, ea, rfl⟩ := Option.map_eq_some_iff.mp e1
      obtain ⟨a2, eb, rfl⟩ := Option.map_eq_some_iff.mp e2
      have h1 : i < ms.length := by rw [← hM.1]; exact (List.getElem?_eq_some_iff.mp ea).1
      have h2 : i < ms2.length := by rw [← hM2.1]; exact (List.getElem?_eq_some_iff.mp eb).1
      obtain ⟨a1', ea', em, mk⟩ := hM.get h1
      obtain ⟨a2', eb', em2, mk2⟩ := hM2.get h2
      rw [ea] at ea'; cases ea'
      rw [eb] at eb'; cases eb'
      obtain ⟨dk, xk, hk, _⟩ := id mk
      obtain ⟨dk2, xk2, hk2, _⟩ := id mk2
      refine ⟨a1, a2, dk, dk2, _, _, rfl, rfl, hk, hk2, ws, ws, ms[i], ms2[i], mk, mk2, hs _ (List.getElem_mem h1), hs2 _ (List.getElem_mem h2), ?_⟩
      dsimp only
      rw [em, em2]
      simp
    · unfold lotEq
      rw [List.length_map, List.length_map, hM.1, hM2.1]
theorem ok_lni {CL f : Addr} {fd : FuncData} (F : Fun K "__eq__" "Lot.__eq__" sLEq f fd) (ML : Tl2 K mg CL) (I : Ti3 K CL) (T : Bt2 mg) (hn : mg "NotImplemented" = none) : FnNI P w K mg base 1 f fd pEq (preNT CL) := by
  obtain ⟨oc, od, kV, doc, pm, an, cdv, ct, osl, rfl, lk, hcd⟩ := F.ex
  refine fn_NI (N := pEq) lk hcd scLEq (fun vs H h => ?_) rfl rfl hn (by decide +kernel) (fun A outer s H vs hr h => ?_)
  · obtain ⟨x, dx, fs, l, xs, rfl, _⟩ := h
    rfl
  · obtain ⟨x, dx, fs, l, xs, rfl, hx, hl⟩ := h
    refine ⟨_, pt_not (pt_val (pe_callB call_isi (by rfl) T.isinstance PyProof.Rows.boot_isinstance (pa_cons (pv 1) (pa_cons (pe_glob (v := .ref CL) rfl ML.mgC rfl) pa_nil)))), ?_⟩
    exact ⟨_, rfl, _, _, .type "tuple", .ref CL, false, rfl, .own CL, .base (.tup hl), kit_noT I EO.mro_tuple (by simp), false, rfl, rfl, Same.refl H⟩
end
end K1
set_option Elab.async false
set_option linter.all false
set_option maxRecDepth 100000
/-! len(set(l)) of a list of texts, any of them twice: how many different ones (along the library's way with numbers) -/
namespace SetK
open PySem PySem.Spec PyProof.Rows
/-- the different ones among the first i -/
def met (xs : List Str) : Nat → List Str
  | 0 => []
  | i + 1 => if xs.getD i Str.empty ∈ met xs i then met xs i else met xs i ++ [xs.getD i Str.empty]
theorem met_len (xs : List Str) : ∀ i, (met xs i).length ≤ i
  | 0 => Nat.le_refl _
  | i + 1 => by
    have := met_len xs i
    unfold met
    split
    · omega
    · rw [List.length_append, List.length_singleton]; omega
theorem any_mem (l : List Str) (k : Str) : l.any (· == k) = decide (k ∈ l) := by
  induction l with
  | nil => simp
  | cons a l ih =>
    rw [List.any_cons, ih]
    by_cases e : a = k
    · subst e; simp
    · have : (a == k) = false := by simpa [beq_iff_eq] using e
      have e' : ¬ k = a := fun h => e h.symm
      simp [this, e']
theorem met_any (xs : List Str) (i : Nat) (k : Str) : (met xs (i + 1)).any (· == k) = ((met xs i).any (· == k) || decide (k = xs.getD i Str.empty)) := by
  rw [any_mem, any_mem]
  show decide (k ∈ if xs.getD i Str.empty ∈ met xs i then met xs i else met xs i ++ [xs.getD i Str.empty]) = _
  by_cases h : xs.getD i Str.empty ∈ met xs i
  · rw [if_pos h]
    by_cases e : k = xs.getD i Str.empty
    · subst e
      rw [decide_eq_true h]; rfl
    · rw [decide_eq_false e, Bool.or_false]
  · rw [if_neg h]
    simp only [List.mem_append, List.mem_singleton, Bool.decide_or]
theorem met_size (xs : List Str) (i : Nat) : (met xs (i + 1)).length = if (met xs i).any (· == xs.getD i Str.empty) then (met xs i).length else (met xs i).length + 1 := by
  rw [any_mem]
  show (if xs.getD i Str.empty ∈ met xs i then met xs i else met xs i ++ [xs.getD i Str.empty]).length = _
  by_cases h : xs.getD i Str.empty ∈ met xs i
  · rw [if_pos h, decide_eq_true h]; rfl
  · rw [if_neg h, decide_eq_false h]; simp
section
variable {prog : Program} {w : World} {A : Around} {R : Result → Shared → Prop} {I : Addr} {fp wr : List Addr} {G : Array GenState → Array GenState → Prop} {n : Nat} {P : Nat → Value → Prop} {St : Nat → Shared → Prop}
theorem loop (W : WalksS prog w A.in1 I fp wr G n P St) (S : Addr) (hSf : S ∉ fp) (xs : List Str) (hn : n + 1 < scanBound) (hval : ∀ i v, P i v → ∃ t, v = .str (xs.getD i Str.empty) t) :
    ∀ (k i : Nat) (s : Shared), n - i = k → i ≤ n → St i s → s.heap.SetOf (PySem.strKind prog w) S (fun k' => (met xs i).any (· == k')) (met xs i).length →
      (∀ s', Moved (S :: wr) G s s' → s'.heap.SetOf (PySem.strKind prog w) S (fun k' => (met xs n).any (· == k')) (met xs n).length → R (.ok (.ret .none)) s') →
      codeAny (model prog w) A (.builtin "set.update.loop" ⟨[.ref S, .ref I], []⟩) R s := by
  have hSw : S ∉ wr := fun h => hSf (W.sub _ h)
  have hsub : ∀ b ∈ wr, b ∈ S :: wr := fun b hb => List.mem_cons_of_mem _ hb
  have carry : ∀ {s s' : Shared} {i : Nat}, Moved wr G s s' → s.heap.SetOf (PySem.strKind prog w) S (fun k' => (met xs i).any (· == k')) (met xs i).length → s'.heap.SetOf (PySem.strKind prog w) S (fun k' => (met xs i).any (· == k')) (met xs i).length := fun hm h => by
    obtain ⟨o, es, ep, tb, ho, rest⟩ := h
    exact ⟨o, es, ep, tb, hm.heap S _ hSw ho, rest⟩
  intro k
  induction k with
  | zero =>
    intro i s hk hi hst hS hR
    obtain rfl : i = n := by omega
    refine codeAny_builtin F.entry_set_update_loop ?_
    rw [Around.under_plainId F.plain_set_update_loop _]
    show wpAny _ A.in1 (pyNext (.ref I) >>= _) _ _ s
    refine wpAny_bind (W.done s _ _ hst fun s' hm => ?_)
    exact wpAny_pure (hR s' (hm.mono hsub) (carry hm hS))
  | succ k ih =>
    intro i s hk hi hst hS hR
    have hlt : i < n := by omega
    refine codeAny_builtin F.entry_set_update_loop ?_
    rw [Around.under_plainId F.plain_set_update_loop _]
    show wpAny _ A.in1 (pyNext (.ref I) >>= _) _ _ s
    refine wpAny_bind (W.item i s _ _ hlt hst fun v s' hP hst' hm => ?_)
    obtain ⟨t, rfl⟩ := hval i v hP
    show wpAny _ A.in1 (holding [Value.str (xs.getD i Str.empty) t] (setAdd S (.str (xs.getD i Str.empty) t)) >>= _) _ _ s'
    have hS' := carry hm hS
    refine wpAny_bind (wpAny_holding ?_)
    unfold setAdd
    refine wpAny_holding (wpAny_bind ((PySem.strKind prog w).pyHash (k := xs.getD i Str.empty) (strKind_is _ _ _ _) ?_))
    have hroom : (met xs i).length + 1 < scanBound := by have := met_len xs i; omega
    refine wpAny_setAddHashed_of (knd := PySem.strKind prog w) (s := { s' with toks := s'.toks + 1 }) (strKind_is _ _ _ _) rfl hS' hroom fun h' hsb hS2 => ?_
    refine wpAny_pure ⟨plainId_quiet F.plain_set_update_loop _, ih (i + 1) _ (by omega) hlt (W.frame _ s' _ _ hst' (Nat.le_succ _) fun b hb o e => ?_) (SetOf_congr hS2 (fun k' => (met_any xs i k').symm) (met_size xs i).symm) fun s'' hm'' hS'' => ?_⟩
    · rw [hsb.2 b (fun h : b = S => hSf (by rw [← h]; exact hb))]; exact e
    · refine hR s'' (Moved.trans W.gtrans ((hm.mono hsub).then_heap (Nat.le_succ _) fun b o hb e => ?_) hm'') hS''
      rw [hsb.2 b (fun h : b = S => hb (by rw [h]; exact List.mem_cons_self))]; exact e
end
section
variable {prog : Program} {w : World} {A : Around} {E : Value → Shared → Prop} {s : Shared}
set_option maxHeartbeats 3200000 in
theorem call_set {l : Addr} {items : Array Value} {xs : List Str} {Q : Value → Shared → Prop} (hh : A.handled = none) (hl : s.heap.IsList l items) (hi : StrsAre items.toList xs) (hb : items.size + 1 < scanBound)
    (h : ∀ (h' : Heap) (tk : Nat), h'.SetOf (PySem.strKind prog w) s.heap.objs.size (fun k' => (met xs items.size).any (· == k')) (met xs items.size).length → (∀ b o, b < s.heap.objs.size → s.heap.get? b = some o → h'.get? b = some o) → Q (.ref s.heap.objs.size) { s with heap := h', toks := tk }) :
    wpAny (model prog w) A (call (.type "set") [.ref l]) Q E s := by
  obtain ⟨c, tl, hmro⟩ := PySem.F.called_set.mro
  have hmade := PySem.F.called_set.made
  have hsub := PySem.F.called_set.sub
  refine wpAny_call (codeAny_of_tree ?_)
  show wpAny _ _ (callAny (.type "set") _) _ _ _
  refine wpAny_pure ⟨Code.quiet_builtin _ (by decide +kernel), codeAny_builtin PySem.F.entry_type_call ?_⟩
  rw [Around.under_plain (weight_type_call_type "set" [.ref l] []) rfl]
  have h1 := PySem.F.called_set.notType
  have h2 := PySem.F.called_set.canCreate
  have hct := PySem.F.typeCall_set_1 (.ref l)
  repeat (any_goals (first | assumption | wp_step))
  refine codeAny_mono (code_set_new_1 (.ref l) (E := E) (Q₁ := fun obj s₁ => ∃ led : Bool, obj = .ref s.heap.objs.size ∧ s₁ = { s with heap := s.heap.push { cls := .type "set", dict := none, data := .set #[] 0 (.fresh 0 0 led) } }) fun led => ⟨led, rfl, rfl⟩) fun r s₁ hr => ?_
  match r, hr with
  | .error e, hr => exact hr
  | .ok .next, hr => exact hr.elim
  | .ok .brk, hr => exact hr.elim
  | .ok .cont, hr => exact hr.elim
  | .ok (.ret obj), hr =>
    obtain ⟨led, rfl, rfl⟩ := hr
    have hS : (s.heap.push { cls := .type "set", dict := none, data := .set #[] 0 (.fresh 0 0 led) }).get? s.heap.objs.size = some { cls := .type "set", dict := none, data := .set #[] 0 (.fresh 0 0 led) } := Heap.get?_push_size _ rfl
    have hT : Shared.TypeIs { s with heap := s.heap.push { cls := .type "set", dict := none, data := .set #[] 0 (.fresh 0 0 led) } } (.ref s.heap.objs.size) "set" := ⟨_, hS, rfl⟩
    have hli := PySem.F.called_set.init.lookup
    have hbi := PySem.F.called_set.init.bind (.ref s.heap.objs.size)
    repeat (any_goals (first | assumption | wp_step))
    refine codeAny_mono (codeAny_call_builtin (R := wants (fun r s₂ => r = .none ∧ ∃ h' tk, s₂ = { s with heap := h', toks := tk } ∧ h'.SetOf (PySem.strKind prog w) s.heap.objs.size (fun k' => (met xs items.size).any (· == k')) (met xs items.size).length ∧
        (∀ b o, b < s.heap.objs.size → s.heap.get? b = some o → h'.get? b = some o)) E) PySem.F.called_set.init.plain PySem.F.entry_set_init (check_set_init_1 hT ?_)) fun r₂ s₂ hr₂ => ?_
    · obtain ⟨⟨ocls, odict, odata, oslots⟩, hol, hcl, nl, hdl⟩ := id hl
      simp only at hcl hdl
      subst hcl; subst hdl
      have hlS : l < s.heap.objs.size := Heap.lt_size hol
      have hl1 : (s.heap.push { cls := .type "set", dict := none, data := .set #[] 0 (.fresh 0 0 led) }).IsList l items := hl.push _
      have hol' := Heap.get?_push_of_some { cls := .type "set", dict := none, data := .set #[] 0 (.fresh 0 0 led) } hol
      have hsls := PySem.F.sub_list_set
      have hslf := PySem.F.sub_list_frozenset
      have hne : (Value.type "list" == Value.type "dict") = false := by decide
      have hsz : (s.heap.push { cls := .type "set", dict := none, data := .set #[] 0 (.fresh 0 0 led) }).objs.size = s.heap.objs.size + 1 := Heap.size_push _ _
      unfold Builtin.«set.__init__» noKeywords Builtin.Frozenset.updateFrom
      generalize hPI : pyIter = PI
      wp_walk
      subst hPI
      refine wpAny_pyIter_list hl1 ?_
      refine wpAny_bind (wpAny_runValue ?_)
      have hval : ∀ (i : Nat) (v : Value), items[i]? = some v → ∃ t, v = .str (xs.getD i Str.empty) t := fun i v hv => SS.strs_at hi i v (by rw [Array.getElem?_toList]; exact hv)
      refine loop ((Walks.list (by simp [hh]) _ l (by rw [hsz]; exact Nat.ne_of_lt (Nat.lt_succ_of_lt hlS)) items).toS) s.heap.objs.size (by
          rw [hsz]; simp only [List.mem_cons, List.not_mem_nil, or_false, not_or]
          exact ⟨Nat.ne_of_lt (Nat.lt_succ_self _), Nat.ne_of_gt hlS⟩) xs hb hval (items.size - 0) 0 _ (by omega) (Nat.zero_le _) ⟨⟨_, Heap.get?_push_size _ rfl, rfl, rfl⟩, (hl1.push _)⟩ ?hS0 ?hR
      case hS0 =>
        have hget := Heap.get?_push_of_some { cls := .type "list_iterator", data := .fields #[.ref l, .int 0 0] } hS
        exact SetOf_congr ((setObjOf_fresh (knd := PySem.strKind prog w) led).setOf hget (by unfold scanBound; omega)) (fun _ => rfl) rfl
      case hR =>
        intro s' hm hS'
        obtain ⟨h', g', d', tk', os'⟩ := s'
        have eg : g' = s.gens := hm.gens
        have ed : d' = s.drawn := hm.drawn
        have eo : os' = s.os := hm.os
        subst eg; subst ed; subst eo
        show wpAny _ _ _ _ _ _
        refine wpAny_pure ?_
        show wpAny _ _ (ret Value.none) _ _ _
        refine wpAny_pure ⟨rfl, h', tk', rfl, hS', fun b o hb e => ?_⟩
        refine hm.heap b o ?_ (Heap.get?_push_of_some _ (Heap.get?_push_of_some _ e))
        rw [hsz]
        simp only [List.mem_cons, List.not_mem_nil, or_false, not_or]
        exact ⟨Nat.ne_of_lt hb, Nat.ne_of_lt (Nat.lt_succ_of_lt hb)⟩
    · match r₂, hr₂ with
      | .error e, hr₂ => exact hr₂
      | .ok .next, hr₂ => exact hr₂.elim
      | .ok .brk, hr₂ => exact hr₂.elim
      | .ok .cont, hr₂ => exact hr₂.elim
      | .ok (.ret r), hr₂ =>
        obtain ⟨rfl, h', tk, rfl, hS', hk'⟩ := hr₂
        repeat (any_goals (first | assumption | wp_step))
        exact h _ _ hS' hk'
end
end SetK
namespace L2
open PySem PySem.Spec PyProof.Rows
def tLenSetS (K : PySem.W.Frag) (ta : TE) : TE := fun σ H Q => ta σ H fun x H1 => ∃ (l : Addr) (xs : List Str), x = .ref l ∧ SqL K H1 l (xs.map V.str) ∧ xs.length ≤ 4000 ∧ Q (.int ((SetK.met xs xs.length).length : Int)) H1
theorem pe_lenSetS {X : Cx} {a : Expr} {ta : TE} {p p2 q pos : Pos} (hc : X.calm = true) (hg : Gl X "len") (hm : X.mg "len" = none) (hg2 : Gl X "set") (hm2 : X.mg "set" = none) (ha : PE X a ta)
    (na : starEach [a] X.env = (false, eval a X.env) :: starEach [] X.env := by rfl) : PE X (.Call (.Name "len" p) [.Call (.Name "set" p2) [a] [] q] [] pos) (tLenSetS X.K ta) := by
  refine ⟨fun pins s σ H Q I h => ?_⟩
  refine Call_ (ld_blt I hg hm boot_len ?_)
  refine callWith_builtin1 (args_cons ?_ rfl) rfl rfl
  refine Call_ (ld_blt I hg2 hm2 boot_set ?_)
  refine callWith_type1 (args_cons (thn (ha.run pins s σ H _ I h) fun v s1 ⟨x, H1, I1, r1, q1⟩ => args_nil ?_) na) na rfl
  obtain ⟨l, xs, rfl, hq, hl, q1⟩ := q1
  cases r1
  obtain ⟨its, r, pl, hz⟩ := I1.list hq
  have hlen : its.toArray.size = xs.length := by rw [List.size_toArray, ← r.length, List.length_map]
  refine SetK.call_set (I1.ok.hd hc) pl.isList (by simpa using strsAre_of r) (by rw [hlen]; unfold scanBound; omega) fun h' tk hS hk => ?_
  refine args_nil ?_
  rw [hlen] at hS
  have hle := SetK.met_len xs xs.length
  obtain ⟨o, es, ep, t, ho, hex, hd, _, _, _, hf, hn⟩ := hS
  have I2 : Inv X pins σ H1 { s1 with heap := h', toks := tk } := I1.kept fun b o e => hk b o (Heap.lt_size e) e
  exact call_len_set ho hex hd hf (by rw [hn]; omega) ⟨.int _, H1, I2.tok _, ⟨_, by rw [hn]⟩, q1⟩
end L2
set_option Elab.async false
set_option linter.all false
set_option maxRecDepth 100000
/-! what a mark hides -/
namespace K1
open PySem L2 LamX OwnT
abbrev sHidL : Stmt := top 58
abbrev sMkR : Stmt := top 59
/-- the tells of the states that are met -/
def shown (rs : List (List Int)) (ss : List Str) (st : Int) (M : List (List Nat)) : List Str := M.map fun u => ss.getD (ld rs u st).toNat ""
def hidB (zs : List Str) : Bool := decide ((SetK.met zs zs.length).length < zs.length)
def spHides (K : PySem.W.Frag) (C CM : Addr) : Sp := fun vs H Q _ => ∃ (a : Addr) (ws : List Str) (m : Pm), vs = [.ref a] ∧ MarkAt K C CM H a ws m ∧ PmOk ws m ∧ ∀ (H' : Hp) (n : Nat) (M : List (List Nat)), bfs (runT [m.rs] [m.st]) ws.length n = (M, []) → Same H H' → Q (.bl (hidB (shown m.rs m.ss m.st M))) H'
def spHidL (K : PySem.W.Frag) : Sp := fun vs H Q _ => ∃ (p : Addr) (ws : List Str) (rs : List (List Int)) (ss : List Str) (st : Int), vs = [.ref p] ∧ PlainAt H p ws rs ss st ∧ Parts ws rs ss st ∧ ∀ (H' : Hp) (n : Nat) (M : List (List Nat)), bfs (runT [rs] [st]) ws.length n = (M, []) → Same H H' → Q (.bl (hidB (shown rs ss st M))) H'
def spMkR (K : PySem.W.Frag) (C CM : Addr) : Sp := fun vs H Q _ => ∃ (a p : Addr) (ws : List Str) (m : Pm), vs = [.ref a, .ref p, .str m.ru] ∧ MarkAt K C CM H a ws m ∧ PmOk ws m ∧ PlainAt H p ws m.rs m.ss m.st ∧ ∀ H' : Hp, Same H H' → Q (.bl true) H'
theorem bfs_one {ws : List Str} {rs : List (List Int)} {st : Int} {n n' : Nat} {M M' : List (List Nat)} (h : bfs (runT [rs] [st]) ws.length n = (M, [])) (h' : bfs (runT [rs] [st]) ws.length n' = (M', [])) : M = M' := by
  have h2 : (bfs (runT [rs] [st]) ws.length n).2 = [] := by rw [h]
  have h2' : (bfs (runT [rs] [st]) ws.length n').2 = [] := by rw [h']
  have e := bfs_end (runT_c [rs] [st]) h2 (max n n') (Nat.le_max_left _ _)
  have e' := bfs_end (runT_c [rs] [st]) h2' (max n n') (Nat.le_max_right _ _)
  rw [e, h, h'] at e'
  exact congrArg Prod.fst e'
theorem bfs_small {ws : List Str} {rs : List (List Int)} {ss : List Str} {st : Int} {n : Nat} {M : List (List Nat)} (pt : Parts ws rs ss st) (h : bfs (runT [rs] [st]) ws.length n = (M, [])) : M.length ≤ 60 ∧ ∀ u ∈ M, 0 ≤ ld rs u st ∧ ld rs u st < (rs.length : Int) := by
  have I := bfs_ok (runT_c [rs] [st]) ws.length n
  rw [h] at I
  have hs0 : StOk [rs] [st] := ⟨rfl, fun i t v e1 e2 => by
    match i, e1, e2 with
    | 0, e1, e2 => cases e1; cases e2; exact pt.st
    | _ + 1, e1, _ => simp at e1⟩
  have htab : ∀ t ∈ [rs], TabOk ws.length t := fun t ht => by rw [List.mem_singleton.mp ht]; exact pt.tab
  have hl : M.length ≤ prodN [rs] := met_len hs0 htab I.nd I.lt
  have : prodN [rs] = rs.length := Nat.mul_one _
  have := pt.many.2
  exact ⟨by omega, fun u hu => pt.led (ix_toI (I.lt u hu)) pt.st.1 pt.st.2⟩
section
variable {P : Program} {w : World} {K : PySem.W.Frag} {mg : Str → Option Value} {base : Heap}
abbrev eHides : Expr := valOf (stOf sKHides 0)
abbrev scHo : Scope := compScope eHides
abbrev nHides : List Str := ["self", "tells", "value", "_"]
theorem scHides : FnScope nHides ["self"] (defScope sKHides) := ⟨rfl, rfl, rfl, by decide +kernel, rfl, by decide +kernel, by decide +kernel⟩
theorem ok_hides {C CM f fR : Addr} {fd fdR : FuncData} (F : Fun K "hides" "Mark.hides" sKHides f fd) (M : Tm K mg C) (MK : Tk K mg CM) (T : Bt2 mg) (hset : mg "set" = none) (MR : Meth K C "reached" fR) (bR : Binds K fdR ["self"] []) (GR : FnOk P w K mg base CX0 3 fR fdR ["self"] (spReach K C)) : FnOk P w K mg base CX0 4 f fd ["self"] (spHides K C CM) := by
  refine F.ok scHides (fun vs H Q E h => ?_) (fun cdv A outer s H vs Q E hr h => ?_)
  · obtain ⟨a, ws, m, rfl, _⟩ := h
    rfl
  · obtain ⟨a, ws, m, rfl, ⟨dk, x, ha, mx⟩, pm, k⟩ := h
    obtain ⟨dm, t, r, l, as, hx, ht, hr', hR, hl⟩ := id mx
    have hin : ∀ (s' : Shared) (H' : Hp) (C' : Addr) (cl' : List (Str × Addr)) (fp' : List Addr), PE (Cx.blk (cxOf CX0 P w K mg base nHides "Mark.hides" (defScope sKHides) f cdv A outer s H E) s' H' scHo (compEnvC scHo cl' C' (cxOf CX0 P w K mg base nHides "Mark.hides" (defScope sKHides) f cdv A outer s H E).env) fp')
        (eltOf eHides) (tOp (rIxT K) (tFld K (tFld K (tVar 0) "machine") "tells") (tVar 2)) := fun s' H' C' cl' fp' => pe_ix (r := rIxT K) ix_tup (pe_fld (pe_fld (pv 0) rfl) rfl) (pv 2) (fun _ _ => rfl)
    refine ⟨_, pss_cons (ps_setLc (i := 1) (own := [("value", 2), ("_", 3)]) (g := gTup K 2 (gCons (gName 2) (gCons (gName 3) gNil))) (by rfl) scHides.nd rfl rfl (sw_true rfl rfl rfl (by decide +kernel)) (pi_list (pe_meth0 (pe_fld (pv 0) rfl) M.cl MR GR hr bR .nil pass0))
          (blkOk_by (own := [("value", 2), ("_", 3)]) (N := nHides) (sc := defScope sKHides) (by decide +kernel)) (fun _ _ _ _ _ => pg_tup (by rfl) (pgs_cons (pg_name (i := 2) scHides.nd rfl (Or.inl rfl)) (pgs_cons (pg_name (i := 3) scHides.nd rfl (Or.inl rfl)) pgs_nil))) (fun _ _ _ _ _ => pts_nil)
          hin)
      (pss_one (ps_ret (pe_cmpR op_lt (pe_lenSetS rfl (by rfl) T.len (by rfl) hset (pv 1)) (pe_callB call_len (by rfl) T.len PySem.boot_len (pa_cons (pv 1) pa_nil)) (nomark _)))), ?_⟩
    refine ⟨_, rfl, a, CM, dk, _, _, rfl, ha, MK.cl, MK.nM, kf_m _ _, x, dm, _, rfl, hx, mf_no _ _ _ _ (by decide +kernel) (by decide +kernel) (by decide +kernel) (by decide +kernel), x, ws, m.rs, m.ss, m.st, rfl, mx, pm.pt, fun lr H1 n N hb hlr s1 ⟨ts, e1, hts, hj⟩ => ?_⟩
    obtain ⟨hN, hld⟩ := bfs_small pm.pt hb
    refine ⟨lr, rfl, ⟨_, SqL.of e1⟩, fun D1 hD1 => ?_⟩
    refine lc_list (K := K) (a := lr) (xs := ts.map V.ref) (fun i H' => Same H1 H' ∧ H' D1 = some (.lst (((shown m.rs m.ss m.st N).take i).map V.str))) ?_ ?_ ?_ ?_
    · exact ⟨same_upd hD1, upd_same⟩
    · exact fun i H' _ p => SqL.of (p.1 _ _ e1)
    · rintro i y H2 hi ⟨sm, hD⟩
      rw [List.getElem?_map] at hi
      obtain ⟨t1, et, rfl⟩ := Option.map_eq_some_iff.mp hi
      have hil : i < N.length := by rw [← hts]; exact (List.getElem?_eq_some_iff.mp et).1
      have eu : N[i]? = some N[i] := List.getElem?_eq_getElem hil
      obtain ⟨q, g1, g2⟩ := hj i t1 _ et eu
      have hu := hld _ (List.getElem_mem hil)
      rw [run_led1] at g1
      have es : (shown m.rs m.ss m.st N)[i]? = some (m.ss.getD (ld m.rs N[i] m.st).toNat "") := by unfold shown; rw [List.getElem?_map, eu]; rfl
      have s02 := s1.trans sm
      refine ⟨t1, _, rfl, SqT.of (sm _ _ g1), rfl, _, _, rfl, _, _, rfl, rfl, rfl, _, rfl, a, CM, dk, _, _, rfl, s02 _ _ ha, MK.cl, MK.nM, kf_m _ _, x, C, dm, _, _, rfl, s02 _ _ hx, M.cl, M.nT, mf_tells _ _ _ _, _, rfl, l, _, _, _, rfl, rfl, SqT.of (s02 _ _ hl), at_deed hu.1 (by rw [pm.pt.tl.1]; exact hu.2), ?_⟩
      refine ⟨_, hD, ?_, ?_, ?_⟩
      · rw [List.length_map, List.length_take]; exact small1000 (by omega)
      · exact fun b u e => by rw [upd_ne (ne_of_none e hD1)]; exact sm b u e
      · rw [upd_same, List.take_add_one, es, List.map_append]; rfl
    · rintro H2 ⟨sm, hD⟩
      have hsl : (shown m.rs m.ss m.st N).length = N.length := List.length_map _
      rw [List.length_map, hts, ← hsl, List.take_length] at hD
      refine ⟨_, rfl, D1, _, rfl, SqL.of hD, by omega, _, rfl, _, _, rfl, .inl ⟨_, SqL.of hD, (List.length_map _).symm⟩, _, _, rfl, rfl, ?_⟩
      have := k H2 n N hb (s1.trans sm)
      unfold hidB at this
      simpa using this
abbrev nHidL : List Str := ["_law_plain_here", "_law_shown", "_law_spot", "_law_row"]
theorem scHidL : FnScope nHidL ["_law_plain_here"] (defScope sHidL) := ⟨rfl, rfl, rfl, by decide +kernel, rfl, by decide +kernel, by decide +kernel⟩
theorem ok_hidL {f fF : Addr} {fd fdF : FuncData} (D : Df K mg "_law_hides" sHidL ["_law_plain_here"] f fd) (DF : Df K mg "_law_first_rows" sFirst ["_law_plain_here"] fF fdF) (T : Bt2 mg) (hset : mg "set" = none) : FnOk P w K mg base CX0 2 f fd ["_law_plain_here"] (spHidL K) := by
  have GF : FnOk P w K mg base CX0 1 fF fdF ["_law_plain_here"] (spFirst K) := ok_first DF T.toBt
  refine D.F.ok scHidL (fun vs H Q E h => ?_) (fun cdv A outer s H vs Q E hr h => ?_)
  · obtain ⟨p, ws, rs, ss, st, rfl, _⟩ := h
    rfl
  · obtain ⟨p, ws, rs, ss, st, rfl, hp, pt, k⟩ := h
    have hu := hu_of hr
    obtain ⟨t, r, l, as, ep, et, er, el, hR⟩ := id hp
    refine ⟨_, pss_cons (ps_setLc (i := 1) (own := [("_law_spot", 2), ("_law_row", 3)]) (g := gTup K 2 (gCons (gName 2) (gCons (gName 3) gNil))) (by rfl) scHidL.nd rfl rfl (sw_true rfl rfl rfl (by decide +kernel)) (pi_list (pe_call GF hr rfl DF.g DF.F.kp DF.b .nil pass0 (pa_cons (pv 0) pa_nil)))
          (blkOk_by (own := [("_law_spot", 2), ("_law_row", 3)]) (N := nHidL) (sc := defScope sHidL) (by decide +kernel)) (fun _ _ _ _ _ => pg_tup (by rfl) (pgs_cons (pg_name (i := 2) scHidL.nd rfl (Or.inl rfl)) (pgs_cons (pg_name (i := 3) scHidL.nd rfl (Or.inl rfl)) pgs_nil))) (fun _ _ _ _ _ => pts_nil)
          (fun _ _ _ _ _ => pe_ix (r := rIxL K) ix_list (pe_dget hu (pv 0) pe_str (fun _ _ => rfl)) (pv 2) (fun _ _ => rfl)))
      (pss_one (ps_ret (pe_cmpR op_lt (pe_lenSetS rfl (by rfl) T.len (by rfl) hset (pv 1)) (pe_callB call_len (by rfl) T.len PySem.boot_len (pa_cons (pv 1) pa_nil)) (nomark _)))), ?_⟩
    refine ⟨_, rfl, p, ws, rs, ss, st, rfl, hp, pt, fun lr ts N n H1 hb hlr s1 e1 hj => ?_⟩
    obtain ⟨hN, hld⟩ := bfs_small pt hb
    refine ⟨lr, rfl, ⟨_, SqL.of e1⟩, fun D1 hD1 => ?_⟩
    refine lc_list (K := K) (a := lr) (xs := ts.map V.ref) (fun i H' => Same H1 H' ∧ H' D1 = some (.lst (((shown rs ss st N).take i).map V.str))) ?_ ?_ ?_ ?_
    · exact ⟨same_upd hD1, upd_same⟩
    · exact fun i H' _ p => SqL.of (p.1 _ _ e1)
    · rintro i y H2 hi ⟨sm, hD⟩
      rw [List.getElem?_map] at hi
      obtain ⟨t1, et1, rfl⟩ := Option.map_eq_some_iff.mp hi
      have hil : i < N.length := by rw [← hj.1]; exact (List.getElem?_eq_some_iff.mp et1).1
      have eu : N[i]? = some N[i] := List.getElem?_eq_getElem hil
      obtain ⟨q, g1, g2⟩ := hj.2 i t1 _ et1 eu
      have hu1 := hld _ (List.getElem_mem hil)
      have es : (shown rs ss st N)[i]? = some (ss.getD (ld rs N[i] st).toNat "") := by unfold shown; rw [List.getElem?_map, eu]; rfl
      have s02 := s1.trans sm
      refine ⟨t1, _, rfl, SqT.of (sm _ _ g1), rfl, _, _, rfl, _, _, rfl, rfl, rfl, _, rfl, p, _, rfl, gTells (s02 _ _ ep), _, rfl, l, _, _, _, rfl, rfl, SqL.of (s02 _ _ el), at_deed hu1.1 (by rw [pt.tl.1]; exact hu1.2), ?_⟩
      refine ⟨_, hD, ?_, ?_, ?_⟩
      · rw [List.length_map, List.length_take]; exact small1000 (by omega)
      · exact fun b u e => by rw [upd_ne (ne_of_none e hD1)]; exact sm b u e
      · rw [upd_same, List.take_add_one, es, List.map_append]; rfl
    · rintro H2 ⟨sm, hD⟩
      have hsl : (shown rs ss st N).length = N.length := List.length_map _
      rw [List.length_map, hj.1, ← hsl, List.take_length] at hD
      refine ⟨_, rfl, D1, _, rfl, SqL.of hD, by omega, _, rfl, _, _, rfl, .inl ⟨_, SqL.of hD, (List.length_map _).symm⟩, _, _, rfl, rfl, ?_⟩
      have := k H2 n N hb (s1.trans sm)
      unfold hidB at this
      simpa using this
abbrev pMkR : List Str := ["_law_mark", "_law_plain_here", "_law_rule"]
theorem scMkR : FnScope pMkR pMkR (defScope sMkR) := ⟨rfl, rfl, rfl, by decide +kernel, rfl, by decide +kernel, by decide +kernel⟩
theorem ok_mkR {C CM f fI fH fW pH : Addr} {fd fdI fdH fdW : FuncData} (D : Df K mg "_law_mark_right" sMkR pMkR f fd) (M : Tm K mg C) (MK : Tk K mg CM) (T : Bt2 mg) (DI : Df K mg "_law_is_machine" sIsM pIsM fI fdI) (GI : FnOk P w K mg base CX0 3 fI fdI pIsM (spIsM K C))
    (DH : Df K mg "_law_hides" sHidL ["_law_plain_here"] fH fdH) (GH : FnOk P w K mg base CX0 2 fH fdH ["_law_plain_here"] (spHidL K)) (PW' : PropOf K CM "hides" pH fW) (bW : Binds K fdW ["self"] []) (GW : FnOk P w K mg base CX0 4 fW fdW ["self"] (spHides K C CM)) : FnOk P w K mg base CX0 6 f fd pMkR (spMkR K C CM) := by
  refine D.F.ok scMkR (fun vs H Q E h => ?_) (fun cdv A outer s H vs Q E hr h => ?_)
  · obtain ⟨a, p, ws, m, rfl, _⟩ := h
    rfl
  · obtain ⟨a, p, ws, m, rfl, mk, pm, hp, k⟩ := h
    obtain ⟨dk, x, ha, mx⟩ := id mk
    have hr2 : Room 2 _ := hr.mono (by decide)
    have hr3 : Room 3 _ := hr.mono (by decide)
    refine ⟨_, pss_cons (ps_if (PW.pt (pw_or (pt_not (pt_val (pe_call GI hr3 rfl DI.g DI.F.kp DI.b .nil pass0 (pa_cons (pe_fld (pv 0) rfl) (pa_cons (pv 1) pa_nil))))) (pw_or1 (pt_cmpR op_ne (pe_fld (pv 0) rfl) (pv 2) (nomark _))))) (pss_one (ps_ret pe_bl)) pss_nil)
      (pss_one (ps_ret (pe_cmpR op_eq (pe_prop (pv 0) MK.cl PW' GW hr bW .nil pass0 rfl) (pe_call GH hr2 rfl DH.g DH.F.kp DH.b .nil pass0 (pa_cons (pv 1) pa_nil)) (nomark _)))), ?_⟩
    refine ⟨_, rfl, a, CM, dk, _, _, rfl, ha, MK.cl, MK.nM, kf_m _ _, _, rfl, x, p, ws, m.rs, m.ss, m.st, rfl, mx, hp, ok_wd pm.pt.gd.wd, ok_tl pm.pt.tl.2, pm.pt.many.2, fun H1 s1 => ?_⟩
    refine ⟨true, rfl, iteF ?_⟩
    refine ⟨_, rfl, a, CM, dk, _, _, rfl, s1 _ _ ha, MK.cl, MK.nR, kf_r _ _, _, rfl, rfl, _, rfl, ?_⟩
    refine ite2 (fun h => by simp at h) (fun _ => ?_)
    refine ⟨_, rfl, a, dk, _, rfl, s1 _ _ ha, a, ws, m, rfl, mk.same s1, pm, fun H2 n N hb s2 => ?_⟩
    have s02 := s1.trans s2
    refine ⟨_, rfl, p, ws, m.rs, m.ss, m.st, rfl, hp.same s02, pm.pt, fun H3 n' N' hb' s3 => ?_⟩
    refine ⟨rfl, ?_⟩
    rw [bfs_one hb hb', decide_eq_true rfl]
    exact k H3 (s02.trans s3)
end
end K1
set_option Elab.async false
set_option linter.all false
set_option maxRecDepth 100000
/-! TooMany, OtherDeeds, BadRule -/
namespace K1
open PySem L2
section
variable {P : Program} {w : World} {K : PySem.W.Frag} {mg : Str → Option Value} {base : Heap}
abbrev sTooMany : Stmt := inClass (top 4) 0
theorem scTooMany : FnScope ["self", "what", "many", "most"] ["self", "what", "many", "most"] (defScope sTooMany) := ⟨rfl, rfl, rfl, by decide +kernel, rfl, by decide +kernel, by decide +kernel⟩
abbrev OTooMany (K : PySem.W.Frag) (mg : Str → Option Value) (C fI : Addr) (fd : FuncData) : Prop := Oer K mg "TooMany" ["what", "many", "most"] C fI fd "TooMany.__init__" sTooMany
theorem ini_TooMany {C fI : Addr} {fd : FuncData} (O : OTooMany K mg C fI fd) : FnOk P w K mg base CX0 1 fI fd ["self", "what", "many", "most"] (spIni C ["what", "many", "most"]) := by
  refine O.F.ok scTooMany (fun vs H Q E h => ?_) (fun cdv A outer s H vs Q E hr h => ?_)
  · obtain ⟨a, ys, rfl, e, _⟩ := h
    show ys.length + 1 = _
    rw [e]; rfl
  · obtain ⟨a, ys, rfl, e, ha, k⟩ := h
    obtain ⟨y0, y1, y2, rfl⟩ : ∃ y0 y1 y2, ys = [y0, y1, y2] := by
      match ys, e with
      | [y0, y1, y2], _ => exact ⟨y0, y1, y2, rfl⟩
    refine ⟨_, pss_cons (ps_ost (f := "what") (pv 0) (pv 1)) (pss_cons (ps_ost (f := "many") (pv 0) (pv 2)) (pss_one (ps_ost (f := "most") (pv 0) (pv 3)))), ?_⟩
    refine ⟨_, rfl, _, rfl, a, C, rfl, O.T, O.no _ (List.mem_cons_self ..), .inl ⟨ha, fun dx hdx ne => ?_⟩⟩
    refine ⟨_, rfl, _, rfl, a, C, rfl, O.T, O.no _ (List.mem_cons_of_mem _ (List.mem_cons_self ..)), .inr ⟨dx, [("what", y0)], ?ea1, ?ed1, by show 1 ≤ 900; decide, ?nx1⟩⟩
    case ea1 => exact upd_same
    case ed1 => (rw [upd_ne ne]; exact upd_same)
    refine ⟨_, rfl, _, rfl, a, C, rfl, O.T, O.no _ (List.mem_cons_of_mem _ (List.mem_cons_of_mem _ (List.mem_cons_self ..))), .inr ⟨dx, [("many", y1), ("what", y0)], ?ea2, ?ed2, by show 2 ≤ 900; decide, ?nx2⟩⟩
    case ea2 => (rw [upd_ne ne.symm]; exact upd_same)
    case ed2 => exact upd_same
    refine k dx hdx ne _ (fun b o eb nb => ?_) ?_ ?_
    · rw [upd_ne (ne_of_none eb hdx), upd_ne (ne_of_none eb hdx), upd_ne nb, upd_ne (ne_of_none eb hdx)]; exact eb
    · rw [upd_ne ne.symm, upd_ne ne.symm]; exact upd_same
    · exact upd_same
    
abbrev sOtherDeeds : Stmt := inClass (top 10) 0
theorem scOtherDeeds : FnScope ["self", "have", "want"] ["self", "have", "want"] (defScope sOtherDeeds) := ⟨rfl, rfl, rfl, by decide +kernel, rfl, by decide +kernel, by decide +kernel⟩
abbrev OOtherDeeds (K : PySem.W.Frag) (mg : Str → Option Value) (C fI : Addr) (fd : FuncData) : Prop := Oer K mg "OtherDeeds" ["have", "want"] C fI fd "OtherDeeds.__init__" sOtherDeeds
theorem ini_OtherDeeds {C fI : Addr} {fd : FuncData} (O : OOtherDeeds K mg C fI fd) : FnOk P w K mg base CX0 1 fI fd ["self", "have", "want"] (spIni C ["have", "want"]) := by
  refine O.F.ok scOtherDeeds (fun vs H Q E h => ?_) (fun cdv A outer s H vs Q E hr h => ?_)
  · obtain ⟨a, ys, rfl, e, _⟩ := h
    show ys.length + 1 = _
    rw [e]; rfl
  · obtain ⟨a, ys, rfl, e, ha, k⟩ := h
    obtain ⟨y0, y1, rfl⟩ : ∃ y0 y1, ys = [y0, y1] := by
      match ys, e with
      | [y0, y1], _ => exact ⟨y0, y1, rfl⟩
    refine ⟨_, pss_cons (ps_ost (f := "have") (pv 0) (pv 1)) (pss_one (ps_ost (f := "want") (pv 0) (pv 2))), ?_⟩
    refine ⟨_, rfl, _, rfl, a, C, rfl, O.T, O.no _ (List.mem_cons_self ..), .inl ⟨ha, fun dx hdx ne => ?_⟩⟩
    refine ⟨_, rfl, _, rfl, a, C, rfl, O.T, O.no _ (List.mem_cons_of_mem _ (List.mem_cons_self ..)), .inr ⟨dx, [("have", y0)], ?ea1, ?ed1, by show 1 ≤ 900; decide, ?nx1⟩⟩
    case ea1 => exact upd_same
    case ed1 => (rw [upd_ne ne]; exact upd_same)
    refine k dx hdx ne _ (fun b o eb nb => ?_) ?_ ?_
    · rw [upd_ne (ne_of_none eb hdx), upd_ne nb, upd_ne (ne_of_none eb hdx)]; exact eb
    · rw [upd_ne ne.symm]; exact upd_same
    · exact upd_same
abbrev sBadRule : Stmt := inClass (top 11) 0
theorem scBadRule : FnScope ["self", "rule"] ["self", "rule"] (defScope sBadRule) := ⟨rfl, rfl, rfl, by decide +kernel, rfl, by decide +kernel, by decide +kernel⟩
abbrev OBadRule (K : PySem.W.Frag) (mg : Str → Option Value) (C fI : Addr) (fd : FuncData) : Prop := Oer K mg "BadRule" ["rule"] C fI fd "BadRule.__init__" sBadRule
theorem ini_BadRule {C fI : Addr} {fd : FuncData} (O : OBadRule K mg C fI fd) : FnOk P w K mg base CX0 1 fI fd ["self", "rule"] (spIni C ["rule"]) := by
  refine O.F.ok scBadRule (fun vs H Q E h => ?_) (fun cdv A outer s H vs Q E hr h => ?_)
  · obtain ⟨a, ys, rfl, e, _⟩ := h
    show ys.length + 1 = _
    rw [e]; rfl
  · obtain ⟨a, ys, rfl, e, ha, k⟩ := h
    obtain ⟨y0, rfl⟩ : ∃ y0, ys = [y0] := by
      match ys, e with
      | [y0], _ => exact ⟨y0, rfl⟩
    refine ⟨_, pss_one (ps_ost (f := "rule") (pv 0) (pv 1)), ?_⟩
    refine ⟨_, rfl, _, rfl, a, C, rfl, O.T, O.no _ (List.mem_cons_self ..), .inl ⟨ha, fun dx hdx ne => ?_⟩⟩
    refine k dx hdx ne _ (fun b o eb nb => ?_) ?_ ?_
    · rw [upd_ne nb, upd_ne (ne_of_none eb hdx)]; exact eb
    · exact upd_same
    · rw [upd_ne ne]; exact upd_same
    
end
end K1
set_option Elab.async false
set_option linter.all false
set_option maxRecDepth 100000
/-! a machine made of any parts: the first error, or none -/
namespace L2
open PySem PySem.Spec PyProof.Rows
section
variable {X : Cx} {CX : CXT} {k : Nat} {f C : Addr} {fd : FuncData} {ps : List Str} {sp : Sp} {E : St → XK} {x : Str} {p pos : Pos} {e : Expr} {es : List Expr} {t : TA} {ds : List Value} {dvs : List V}
/-- C(e, ..) where the making may raise, inside a try -/
def tMakeS (C : Addr) (sp : Sp) (dvs : List V) (E : St → XK) (t : TA) : TE := fun σ H Q => t σ H fun vs H1 => ∀ x dx, H1 x = none → H1 dx = none → dx ≠ x →
  sp (.ref x :: (vs ++ dvs)) (upd (upd H1 dx (.own x)) x (.ins C dx [])) (fun v H2 => v = .non ∧ Q (.ref x) H2) (E σ)
theorem run_makeS {pins : List (Addr × Obj)} {u : St} {H : Hp} {s : Shared} {Q : VK} {us : List Value} {vs : List V} (M : Mk X.K C f) (F : FnOk X.prog X.w X.K X.mg X.base CX k f fd ps sp) (hr : Room (k + 1) X.A) (hb : Binds X.K fd ps ds) (hd : Vals dvs ds)
    (hx : PassesAt CX X u (E u)) (I : Inv X pins u H s) (r : Vals vs us)
    (go : ∀ x dx, H x = none → H dx = none → dx ≠ x → sp (.ref x :: (vs ++ dvs)) (upd (upd H dx (.own x)) x (.ins C dx [])) (fun v H2 => v = .non ∧ Q (.ref x) H2) (E u)) :
    wpAny (model X.prog X.w) X.A (call (.ref C) us) (EP X pins u Q) X.xe s := by
  have q0 := go (s.heap.objs.size + 1) s.heap.objs.size (I.hok.fresh (Nat.le_succ _)) (I.hok.fresh (Nat.le_refl _)) (Nat.ne_of_lt (Nat.lt_succ_self _))
  have J := Inv.made (C := C) I
  have rr : Vals (V.ref (s.heap.objs.size + 1) :: (vs ++ dvs)) (Value.ref (s.heap.objs.size + 1) :: (us ++ ds)) := .cons rfl (r.append hd)
  have ln : (Value.ref (s.heap.objs.size + 1) :: us ++ ds).length = ps.length := (F.len _ _ _ _ q0 ▸ rr.length).symm
  have run0 := F.run _ X.stack _ _ ⟨Value.ref (s.heap.objs.size + 1) :: us, []⟩ (Value.ref (s.heap.objs.size + 1) :: (us ++ ds)) _ _ (E u) (hr.make C us []) (J.env0.make C us []) (hb _ (Value.ref (s.heap.objs.size + 1) :: us) J.kIn ln) rr q0
  refine wpAny_call (make_map (f := f) I.kIn M.makes M.init (beq_iff_eq.mp M.fn) (codeAny_mono run0 fun r s' hq' => ?_))
  cases r with
  | error e => exact hx pins _ _ e s' J hq'
  | ok fl =>
    cases fl with
    | ret u =>
      obtain ⟨v, H', I3, rv, ev, q3⟩ := J.after hq'
      subst ev
      exact ⟨rv, V.ref (s.heap.objs.size + 1), H', I3, rfl, q3⟩
    | next => exact hq'.elim
    | brk => exact hq'.elim
    | cont => exact hq'.elim
theorem pe_makeS (M : Mk X.K C f) (F : FnOk X.prog X.w X.K X.mg X.base CX k f fd ps sp) (hr : Room (k + 1) X.A) (hg : Gl X x) (hm : X.mg x = some (.ref C)) (hb : Binds X.K fd ps ds) (hd : Vals dvs ds) (hx : ∀ σ, PassesAt CX X σ (E σ))
    (ha : PA X (e :: es) t) (hdb : (x == ("__debug__" : Str)) = false := by decide) (he : starEach (e :: es) X.env = (false, eval e X.env) :: starEach es X.env := by rfl) (hpl : (backTo pos (starEach es X.env)).any (·.1) = false := by rfl) :
    PE X (.Call (.Name x p) (e :: es) [] pos) (tMakeS C sp dvs E t) := by
  refine ⟨fun pins s u H Q I h => wpAny_Call_Name_kw (ld_glob I hg hm ?_ hdb)⟩
  refine PySem.W.callWith_K (h₀ := X.base) I.ok.mod.kin M.kp (thn (ha.run pos pins s u H _ I h) fun us s1 ⟨vs, H1, I1, r, q⟩ => ⟨I1.kIn, ?_⟩) he hpl
  exact run_makeS M F hr hb hd (hx u) I1 r q
end
end L2
set_option Elab.async false
set_option linter.all false
set_option maxRecDepth 100000
/-! _law_plain of a tuple of deeds -/
namespace K1
open PySem L2
def spPlainT (K : PySem.W.Frag) : Sp := fun vs H Q _ => ∃ (d c dl tl : Addr) (n : Nat) (m : Int) (ws ts : List Str), vs = [.ref d, .ref dl, .int m, .ref tl] ∧ PenAt H d c n ∧ n ≤ 800000 ∧ SqF H dl (ws.map V.str) ∧ dl ≠ d ∧ ws.length ≤ 26 ∧
  SqL K H tl (ts.map V.str) ∧ tl ≠ d ∧ 0 < ts.length ∧ ts.length ≤ 10 ∧ 1 ≤ m ∧ m ≤ 12 ∧
  ∀ (p : Addr) (rs : List (List Int)) (ss : List Str) (st : Int) (H' : Hp), H p = none → PlainAt H' p ws rs ss st → GoodP ws rs ss st ts → PenAt H' d c (n + 400) → Kept d H H' → Q (.ref p) H'
section
variable {P : Program} {w : World} {K : PySem.W.Frag} {mg : Str → Option Value} {base : Heap}
theorem ok_plainT {f fD fP : Addr} {fd fdD fdP : FuncData} (D : Df K mg "_law_plain" sPlain pPlain f fd) (DD : Df K mg "_law_draw" sDraw pDraw fD fdD) (DP : Df K mg "_law_pick" sPick pPick fP fdP) (T : Bt mg) : FnOk P w K mg base CX0 3 f fd pPlain (spPlainT K) := by
  have GD : FnOk P w K mg base CX0 1 fD fdD pDraw spDraw := ok_draw DD.F T
  have GL : FnOk P w K mg base CX0 2 fP fdP pPick (spPickL K) := ok_pickL DP DD T
  refine D.F.ok scPlain (fun vs H Q E h => ?_) (fun cdv A outer s H vs Q E hr h => ?_)
  · obtain ⟨d, c, dl, tl, n, m, ws, ts, rfl, _⟩ := h
    rfl
  · obtain ⟨d, c, dl, tl, n, m, ws, ts, rfl, hp, hn, hdl, ndl, hws, htl, ntl, ht0, ht1, hm0, hm1, k⟩ := h
    have hr1 : Room 1 _ := hr.mono (by decide)
    obtain ⟨_, _, _, hdd, _⟩ := id hp
    have hdk : ∀ {G : Hp}, Kept d H G → SqF G dl (ws.map V.str) := fun k => k.seqF hdd (fun o ys e => by cases e) hdl
    have hin : ∀ (s' : Shared) (H' : Hp) (C' : Addr) (cl' : List (Str × Addr)) (fp' : List Addr), PE (Cx.blk (cxOf CX0 P w K mg base nPlain "_law_plain" (defScope sPlain) f cdv A outer s H E).nox s' H' scO (compEnvC scO cl' C' (cxOf CX0 P w K mg base nPlain "_law_plain" (defScope sPlain) f cdv A outer s H E).nox.env) fp')
        (eltOf (valOf (stOf sPlain 1))) (tLc (iTup K (tVar 1)) (gName 8) tYes (tCall spDraw [] E0 (tCons (tVar 0) (tCons (tVar 4) tNil))) [8]) := fun s' H' C' cl' fp' =>
      pe_lc (own := [("_law_deed", 8)]) (g := gName 8) (by rfl) scPlain.nd (pi_tup (pv 1))
          (blkOk_by (own := [("_law_deed", 8)]) (N := nPlain) (sc := relS scO (defScope sPlain)) (by decide +kernel)) (fun _ _ _ _ _ => pg_name (i := 8) scPlain.nd rfl (Or.inl rfl)) (fun _ _ _ _ _ => pts_nil)
          (fun _ _ _ _ _ => pe_call GD hr1 rfl DD.g DD.F.kp DD.b .nil pass0 (pa_cons (pv 0) (pa_cons (pv 4) pa_nil)))
    refine ⟨_, pss_cons (ps_set (i := 4) scPlain.nd rfl (Or.inr rfl) (pe_op op_add pe_int (pe_call GD hr1 rfl DD.g DD.F.kp DD.b .nil pass0 (pa_cons (pv 0) (pa_cons (pv 2) pa_nil)))))
      (pss_cons (ps_setLc (i := 5) (own := [("_law_spot", 7)]) (g := gName 7) (by rfl) scPlain.nd rfl rfl (sw_true rfl rfl rfl (by decide +kernel))
        (pi_range1 rfl T.range (pa_cons (pv 4) pa_nil))
        (blkOk_by (own := [("_law_spot", 7)]) (N := nPlain) (sc := defScope sPlain) (by decide +kernel)) (fun _ _ _ _ _ => pg_name (i := 7) scPlain.nd rfl (Or.inl rfl)) (fun _ _ _ _ _ => pts_nil)
        hin)
      (pss_cons (ps_setLc (i := 6) (own := [("_law_spot", 7)]) (g := gName 7) (by rfl) scPlain.nd rfl rfl (sw_true rfl rfl rfl (by decide +kernel))
        (pi_range1 rfl T.range (pa_cons (pv 4) pa_nil))
        (blkOk_by (own := [("_law_spot", 7)]) (N := nPlain) (sc := defScope sPlain) (by decide +kernel)) (fun _ _ _ _ _ => pg_name (i := 7) scPlain.nd rfl (Or.inl rfl)) (fun _ _ _ _ _ => pts_nil)
        (fun _ _ _ _ _ => pe_call GL hr rfl DP.g DP.F.kp DP.b .nil pass0 (pa_cons (pv 0) (pa_cons (pv 3) pa_nil))))
      (pss_one (ps_ret (pe_disp (pps_cons pe_str (pe_callTy (r := rTuF K) call_tuple_F (by rfl) T.tuple (by decide +kernel) (pa_cons (pv 1) pa_nil))
        (pps_cons pe_str (pv 5) (pps_cons pe_str (pv 6) (pps_cons pe_str (pe_call GD hr1 rfl DD.g DD.F.kp DD.b .nil pass0 (pa_cons (pv 0) (pa_cons (pv 4) pa_nil))) pps_nil)))) (by rfl) (by rfl) (fun z => by cases z) (by decide)))))), ?_⟩
    refine ⟨_, rfl, _, rfl, d, c, n, m, rfl, hp, by omega, by omega, by omega, fun r H1 r0 r1 hp1 kp1 => ⟨_, _, rfl, rfl, ?_⟩⟩
    obtain ⟨M, eM⟩ : ∃ M : Nat, 1 + r = (M : Int) := ⟨(1 + r).toNat, by omega⟩
    show _
    have hM : 1 ≤ M ∧ M ≤ 12 := by omega
    simp only [eM]
    refine ⟨_, rfl, (M : Int), rfl, by omega, by omega, fun D1 hD1 => ?_⟩
    rw [Int.toNat_natCast]
    have zD1 : H D1 = none := kp1.free hp1 hD1
    obtain ⟨n1d, n1c⟩ := hp.ne zD1
    refine lc_range (lo := 0) (n := M) (fun i H' => ∃ (as : List Addr) (rs : List (List Int)), rs.length = i ∧ H' D1 = some (.lst (as.map V.ref)) ∧ RowsAt H' as rs ∧ (∀ r ∈ rs, r.length = ws.length ∧ ∀ x ∈ r, 0 ≤ x ∧ x < (M : Int)) ∧
      (∀ a ∈ as, H a = none ∧ a ≠ D1) ∧ PenAt H' d c (n + 1 + 27 * i) ∧ Kept d H H') ?_ ?_ ?_
    · exact ⟨[], [], rfl, upd_same, ⟨rfl, fun i a r e => by simp at e⟩, by simp, by simp, hp1.upd n1d n1c, kp1.upd zD1⟩
    · rintro i H2 hi ⟨as, rs, hrs, hD, hR, hrow, has, hp2, kp2⟩
      refine ⟨rfl, _, rfl, dl, rfl, ⟨_, (hdk kp2).sq⟩, fun D2 hD2 => ?_⟩
      have zD2 : H D2 = none := kp2.free hp2 hD2
      obtain ⟨n2d, n2c⟩ := hp.ne zD2
      have n12 : D1 ≠ D2 := ne_of_none hD hD2
      refine lc_tup (K := K) (a := dl) (xs := ws.map V.str) (fun j H' => ∃ r : List Int, r.length = j ∧ (∀ x ∈ r, 0 ≤ x ∧ x < (M : Int)) ∧ H' D2 = some (.lst (r.map V.int)) ∧ PenAt H' d c (n + 1 + 27 * i + j) ∧ Kept d H2 H' ∧ Kept d H H') ?_ ?_ ?_ ?_
      · exact ⟨[], rfl, by simp, upd_same, hp2.upd n2d n2c, (Kept.refl d H2).upd hD2, kp2.upd zD2⟩
      · rintro j H3 hj ⟨r, _, _, _, _, _, kp3⟩
        exact (hdk kp3).sq
      · rintro j x H3 hj ⟨r, hrj, hrb, hD3, hp3, kp3, kq3⟩
        have hj2 : j < ws.length := by
          have := (List.getElem?_eq_some_iff.mp hj).1
          rwa [List.length_map] at this
        refine ⟨rfl, _, rfl, _, rfl, d, c, _, (M : Int), rfl, hp3, by omega, by omega, by omega, fun y H4 y0 y1 hp4 kp4 => ?_⟩
        refine ⟨_, kp4 _ _ hD3 n2d, ?_, r ++ [y], by simp [hrj], ?_, ?_, ?_, ?_, ?_⟩
        · rw [List.length_map]; exact small1000 (by omega)
        · intro z hz
          rcases List.mem_append.mp hz with h | h
          · exact hrb z h
          · rw [List.mem_singleton.mp h]; exact ⟨y0, y1⟩
        · rw [upd_same]; simp
        · exact hp4.upd n2d n2c
        · exact (kp3.trans kp4).upd hD2
        · exact (kq3.trans kp4).upd zD2
      · rintro H3 ⟨r, hrj, hrb, hD3, hp3, kp3, kq3⟩
        rw [List.length_map] at hrj hp3
        have hDD := kp3 _ _ hD n1d
        have hR3 := hR.kept kp3 (fun a ha => (hp.ne (has a ha).1).1)
        refine ⟨_, hDD, ?_, as ++ [D2], rs ++ [r], by simp [hrs], ?_, ?_, ?_, ?_, ?_, ?_⟩
        · rw [List.length_map, hR.1]; exact small1000 (by omega)
        · rw [upd_same]; simp
        · have hq : RowsAt H3 (as ++ [D2]) (rs ++ [r]) := hR3.snoc hD3
          refine ⟨hq.1, fun i a q e1 e2 => ?_⟩
          have hm := List.mem_of_getElem? e1
          have : a ≠ D1 := by
            rcases List.mem_append.mp hm with h | h
            · exact (has a h).2
            · rw [List.mem_singleton.mp h]; exact n12.symm
          rw [upd_ne this]
          exact hq.2 i a q e1 e2
        · intro q hq
          rcases List.mem_append.mp hq with h | h
          · exact hrow q h
          · rw [List.mem_singleton.mp h]; exact ⟨hrj, hrb⟩
        · intro a ha
          rcases List.mem_append.mp ha with h | h
          · exact has a h
          · rw [List.mem_singleton.mp h]; exact ⟨zD2, n12.symm⟩
        · exact (hp3.upd n1d n1c).mono (by omega)
        · exact kq3.upd zD1
    · rintro H5 ⟨as, rs, hrs, hD5, hR5, hrow, has, hp5, kp5⟩
      -- told
      refine ⟨_, rfl, (M : Int), rfl, by omega, by omega, fun D3 hD3 => ?_⟩
      rw [Int.toNat_natCast]
      have zD3 : H D3 = none := kp5.free hp5 hD3
      obtain ⟨n3d, n3c⟩ := hp.ne zD3
      refine lc_range (lo := 0) (n := M) (fun i H' => ∃ ss : List Str, ss.length = i ∧ (∀ z ∈ ss, z ∈ ts) ∧ H' D3 = some (.lst (ss.map V.str)) ∧ PenAt H' d c (n + 340 + i) ∧ Kept d H5 H' ∧ Kept d H H') ?_ ?_ ?_
      · exact ⟨[], rfl, by simp, upd_same, (hp5.upd n3d n3c).mono (by omega), (Kept.refl d H5).upd hD3, kp5.upd zD3⟩
      · rintro i H6 hi ⟨ss, hss, hst, hD6, hp6, kp6, kq6⟩
        refine ⟨rfl, _, rfl, _, rfl, d, c, tl, _, ts.map V.str, rfl, hp6, by omega, ntl, kq6.seq ntl htl, by rw [List.length_map]; exact ht0, by rw [List.length_map]; omega, fun x H7 hx hp7 kp7 => ?_⟩
        obtain ⟨z, hz, rfl⟩ := List.mem_map.mp hx
        refine ⟨_, kp7 _ _ hD6 n3d, ?_, ss ++ [z], by simp [hss], ?_, ?_, ?_, ?_, ?_⟩
        · rw [List.length_map]; exact small1000 (by omega)
        · intro y hy
          rcases List.mem_append.mp hy with h | h
          · exact hst y h
          · rw [List.mem_singleton.mp h]; exact hz
        · rw [upd_same]; simp
        · exact hp7.upd n3d n3c
        · exact (kp6.trans kp7).upd hD3
        · exact (kq6.trans kp7).upd zD3
      · rintro H7 ⟨ss, hss, hst, hD7, hp7, kp7, kq7⟩
        intro p hp'
        have zp : H p = none := kq7.free hp7 hp'
        have kq8 : Kept d H (upd H7 p (.dK [])) := kq7.upd zp
        obtain ⟨npd, npc⟩ := hp.ne zp
        refine ⟨_, rfl, dl, _, rfl, .inr ⟨(hdk kq8).sq, ?_⟩⟩
        refine ⟨_, rfl, _, rfl, _, rfl, _, rfl, d, c, _, (M : Int), rfl, hp7.upd npd npc, by omega, by omega, by omega, fun st H9 s0 s1 hp9 kp9 => ?_⟩
        have sm : Same H7 (upd H7 p (.dK [])) := fun b o e => by rw [upd_ne (ne_of_none e hp')]; exact e
        have k79 : Kept d H7 H9 := (Kept.same sm).trans kp9
        have hp9' : H9 p = some (.dK []) := kp9 _ _ upd_same npd
        have hD79 := k79 _ _ hD7 n3d
        have k59 : Kept d H5 H9 := kp7.trans k79
        have hD59 := k59 _ _ hD5 n1d
        have hR9 := hR5.kept k59 (fun a ha => (hp.ne (has a ha).1).1)
        refine ⟨hp9', plainK dl D1 D3 st, rfl, by show 4 ≤ 15; decide, ?_⟩
        rw [plainK_merge]
        have kq9 : Kept d H H9 := kq7.trans k79
        have n1p : D1 ≠ p := ne_of hD59 hp9' (by intro z; cases z)
        have n3p : D3 ≠ p := ne_of hD79 hp9' (by intro z; cases z)
        have gP : upd H9 p (.dK (plainK dl D1 D3 st)) p = some (.dK (plainK dl D1 D3 st)) := upd_same
        have gR : upd H9 p (.dK (plainK dl D1 D3 st)) D1 = some (.lst (as.map V.ref)) := by rw [upd_ne n1p]; exact hD59
        have gL : upd H9 p (.dK (plainK dl D1 D3 st)) D3 = some (.lst (ss.map V.str)) := by rw [upd_ne n3p]; exact hD79
        have gA : RowsAt (upd H9 p (.dK (plainK dl D1 D3 st))) as rs := ⟨hR9.1, fun i a q e1 e2 => by
          have := hR9.2 i a q e1 e2
          rw [upd_ne (ne_of this hp9' (by intro z; cases z))]
          exact this⟩
        exact k p rs ss st _ zp ⟨dl, D1, D3, as, gP, hdk (kq9.upd zp), gR, gL, gA⟩ ⟨by rw [hrs]; exact hM, fun r hr => by rw [hrs]; exact hrow r hr, ⟨by rw [hss, hrs], hst⟩, by rw [hrs]; exact ⟨s0, s1⟩⟩ ((hp9.upd npd npc).mono (by omega)) (kq9.upd zp)
end
end K1
set_option Elab.async false
set_option linter.all false
set_option maxRecDepth 100000
/-! the end of a law whose defs make lambdas: the tables of all defs -/
namespace K1
open PySem PySem.Spec PyProof.Rows L2 LamX
/-- the code object of each def of the text and its table, still empty -/
def OwnTabs (q : Program) (mg : Str → Option Value) (h : Heap) : Prop :=
  ∀ e ∈ recsOf q, ∃ (f : Addr) (o : Obj) (fd : FuncData) (c P : Addr), mg e.name = some (.ref f) ∧ h.get? f = some o ∧ o.data = .func fd ∧ fd.code = .ref c ∧ PySem.W.CodeHd h c P ∧ h.get? P = some { cls := .none, data := .fields #[] }
theorem tab_at {q : Program} {mg : Str → Option Value} {K : PySem.W.Frag} {h : Heap} {x : Str} {f c P : Addr} {oc e : Value} {od dd : Option Addr} {fd : FuncData} {sl s2 : Array (Option Value)} {vs : Array Value} (X : K.In h) (O : OwnTabs q mg h) (hx : ((recsOf q).any fun e => e.name == x) = true)
    (g : mg x = some (.ref f)) (l : K.lookup f = some ⟨oc, od, .func fd, sl⟩) (hc : fd.code = .ref c) (lc : K.lookup c = some ⟨e, dd, .fields vs, s2⟩) (h11 : vs[11]? = some (.ref P)) : PySem.W.CodeHd h c P ∧ h.get? P = some { cls := .none, data := .fields #[] } := by
  obtain ⟨r, hr, er⟩ := List.any_eq_true.mp hx
  obtain ⟨f', o, fd', c', P', a1, a2, a3, a4, a5, a6⟩ := O r hr
  rw [beq_iff_eq.mp er, g] at a1
  cases a1
  rw [X _ _ l] at a2
  cases a2
  cases a3
  rw [hc] at a4
  cases a4
  obtain ⟨o, ws, _, _, _, _, _, _, _, b1, _, b3, b4, _⟩ := id a5
  rw [X _ _ lc] at b1
  cases b1
  cases b3
  rw [h11] at b4
  cases b4
  exact ⟨a5, a6⟩
theorem walk_tabs {l : PySem.W.OpenLaw} {n k : Nat} {q : Program} {loose : List Str} {XP : (Str → Option Value) → Heap → Prop} {YP : World → Heap → Prop} {d : DefRec} {K : Params → PySem.W.Frag} {CX : World → CXT} {x : Str}
    (hn : l.most = some n) (hs : n ≤ sizeLine) (hd : d.params.defaults = []) (hr : Room k callerA) (hY : ∀ (w : World) (h : Heap), YP w h → (K w.params).In h)
    (F : ∀ (w : World) (mg : Str → Option Value) (fa : Addr) (h : Heap), YP w h → (K w.params).In h → h.Ns mainGlobals mg → mg d.name = some (.ref fa) → OwnTabs q mg h → LawAtS l w (K w.params) (CX w) k n x mg fa h)
    (hC : ∀ (w : World) (H : Hp) (s : Shared) (e : Value) (s' : Shared), CX w [] H s (fun _ _ _ => False) e s' → False) :
    PySem.W.WalkO q loose XP YP l.row.toRowW d [] (fun f vs => PySem.call f vs) := by
  refine Att.attach_callB hn hd ?_
  intro w s₀ s₁ mg mb fa o pm cd doc a vs ns G Y ho hdt hcd hmg hobj hints hlen hbits hg
  have tabs : OwnTabs q mg s₁.heap := fun e he => by
    obtain ⟨f, o, fd, c, P, b1, b2, b3, b4, b5, b6⟩ := G.T.tab e he
    exact ⟨f, o, fd, c, P, b1, b2, b3, b4, PySem.W.CodeHd.of b5 b6, b6.2⟩
  obtain ⟨fd, cs, sp, t1, t2, t3, b, s, f⟩ := F w mg fa _ Y (hY w _ Y) G.T.g hmg tabs
  exact law_callTs (hY w _ Y) G.T.g G.T.b G.T.builtins G.T.nolimit hg t1 t2 t3 G.T.bmain hobj hints (Nat.le_trans hlen hs) hr f b (fun H hH hS => s H a ns hlen hbits hH hS) fun H e s' => hC w H s₁ e s'
theorem exm_of {K : PySem.W.Frag} {S N : Addr} {b : Bool} (h1 : PySem.W.subIn K (.ref N) (.type "BaseException") = some true) (h2 : PySem.W.isClsIn K N = true) (h3 : PySem.W.typeIn K (.ref N) = some (.type "type")) (h4 : PySem.W.subIn K (.ref S) (.ref N) = some b) :
    PySem.W.exmOne K (.ref S) (.ref N) = some b := by
  have e1 : (PySem.W.subIn K (.ref N) (.type "BaseException") == some true) = true := by rw [h1] <;> rfl
  have e2 : ((PySem.W.clsIn K N).isSome && PySem.W.typeIn K (.ref N) == some (.type "type")) = true := by
    have h2' : (PySem.W.clsIn K N).isSome = true := h2
    rw [h2', h3] <;> rfl
  show (if (PySem.W.subIn K (.ref N) (.type "BaseException") == some true) = true then (if ((PySem.W.clsIn K N).isSome && PySem.W.typeIn K (.ref N) == some (.type "type")) = true then PySem.W.subIn K (.ref S) (.ref N) else none) else none) = some b
  rw [if_pos e1, if_pos e2]
  exact h4
end K1
set_option Elab.async false
set_option linter.all false
set_option maxRecDepth 100000
/-! marks and lots that are refused -/
namespace K1
open PySem L2 LamX OwnT
abbrev sRuleF : Stmt := top 60
abbrev sLotF : Stmt := top 61
/-- a rule as data -/
structure RuleD (K : PySem.W.Frag) (H : Hp) (v : V) (dv : PyData) : Prop where
  dp : ∀ G, Same H G → Dp K G v dv
  sh : SeqAt.shaped dv = true
  ev : PyData.eqv dv dv = true
  no : ∀ r ∈ rules, PyData.eqv (.str r) dv = false
theorem RuleD.same {K : PySem.W.Frag} {H H' : Hp} {v : V} {dv : PyData} (h : RuleD K H v dv) (s : Same H H') : RuleD K H' v dv := ⟨fun G sG => h.dp G (s.trans sG), h.sh, h.ev, h.no⟩
def spKBad (K : PySem.W.Frag) (CM CR : Addr) : Sp := fun vs H Q E => ∃ (a dx x : Addr) (v : V) (dv : PyData), vs = [.ref a, .ref x, v] ∧ H a = some (.ins CM dx []) ∧ RuleD K H v dv ∧ Rs CR ["rule"] [v] H E
def spRuleF (K : PySem.W.Frag) : Sp := fun vs H Q _ => ∃ (p : Addr) (ws : List Str) (rs : List (List Int)) (ss : List Str) (st : Int) (v : V) (dv : PyData), vs = [.ref p, v] ∧ PlainAt H p ws rs ss st ∧ Parts ws rs ss st ∧ RuleD K H v dv ∧ ∀ H', Same H H' → Q (.bl true) H'
/-- marks over deeds, each its own -/
def MkW (K : PySem.W.Frag) (C CM : Addr) (H : Hp) (as : List Addr) (wss : List (List Str)) : Prop := as.length = wss.length ∧ ∀ (i : Nat) (a : Addr) (ws : List Str), as[i]? = some a → wss[i]? = some ws → OkS ws ∧ ∃ m, MarkAt K C CM H a ws m
theorem MkW.same {K : PySem.W.Frag} {C CM : Addr} {H H' : Hp} {as : List Addr} {wss : List (List Str)} (h : MkW K C CM H as wss) (s : Same H H') : MkW K C CM H' as wss := ⟨h.1, fun i a ws e1 e2 => by
  obtain ⟨o, m, h1⟩ := h.2 i a ws e1 e2
  exact ⟨o, m, h1.same s⟩⟩
/-- the first of other deeds -/
def Odd1 (wss : List (List Str)) (n : Nat) (ws0 wsn : List Str) : Prop := wss[0]? = some ws0 ∧ wss[n]? = some wsn ∧ wsn ≠ ws0 ∧ ∀ i < n, wss[i]? = some ws0
def spLBad (K : PySem.W.Frag) (C CM CL CT CO : Addr) : Sp := fun vs H Q E => ∃ (x dx l : Addr) (as : List Addr) (wss : List (List Str)), vs = [.ref x, .ref l] ∧ H x = some (.ins CL dx []) ∧ SqL K H l (as.map V.ref) ∧ as.length ≤ 1000 ∧
  ((6 < as.length ∧ Rs CT ["what", "many", "most"] [.str "marks", .int (as.length : Int), .int 6] H E) ∨
   (as.length ≤ 6 ∧ MkW K C CM H as wss ∧ ∃ (n : Nat) (ws0 wsn : List Str), Odd1 wss n ws0 wsn ∧ ∀ t0 tn, SqF H t0 (ws0.map V.str) → SqF H tn (wsn.map V.str) → Rs CO ["have", "want"] [.ref t0, .ref tn] H E))
def spLotF (K : PySem.W.Frag) (C CM CL : Addr) : Sp := fun vs H Q _ => ∃ (l : Addr) (as : List Addr) (wss : List (List Str)), vs = [.ref l] ∧ SqL K H l (as.map V.ref) ∧ as.length ≤ 1000 ∧
  ((6 < as.length ∧ ∀ p H', Same H H' → H' p = some (.tup [.str "many", .str "marks", .int (as.length : Int), .int 6]) → Q (.ref p) H') ∨
   (as.length ≤ 6 ∧ MkW K C CM H as wss ∧ ∃ (n : Nat) (ws0 wsn : List Str), Odd1 wss n ws0 wsn ∧ ∀ p t0 tn H', Same H H' → SqF H' t0 (ws0.map V.str) → SqF H' tn (wsn.map V.str) → H' p = some (.tup [.str "deeds", .ref t0, .ref tn]) → Q (.ref p) H'))
section
variable {P : Program} {w : World} {K : PySem.W.Frag} {mg : Str → Option Value} {base : Heap}
theorem ok_kbad {CM CR f fR : Addr} {fd fdR : FuncData} (F : Fun K "__init__" "Mark.__init__" sKInit f fd) (M : Tk K mg CM) (B : Bk K mg) (OR : OBadRule K mg CR fR fdR) : FnOk P w K mg base (L2.CX P w) 3 f fd pKI (spKBad K CM CR) := by
  refine F.okX scKI (fun vs H Q E h => ?_) (fun cdv A outer s H vs Q E hr h => ?_)
  · obtain ⟨a, dx, x, v, dv, rfl, _⟩ := h
    rfl
  · obtain ⟨a, dx, x, v, dv, rfl, ha, hv, kr⟩ := h
    obtain ⟨pR, gR, qR⟩ := B.RU
    refine ⟨_, pss_cons (ps_if (pt_cmpR (op_notInT (room65 hr)) (pv 2) (pe_glob (v := .ref pR) rfl gR rfl) (by rfl))
        (pss_one (ps_raise rfl (takes_of rfl rfl rfl rfl) (pmk_oex OR.T OR.ini OR.tI (ini_BadRule OR) hr OR.b .nil pass0 rfl OR.g (pa_cons (pv 2) pa_nil)))) pss_nil)
      (pss_cons (ps_fld (pv 0) (pv 1) rfl) (pss_one (ps_fld (pv 0) (pv 2) rfl))), ?_⟩
    refine ⟨_, rfl, dv, _, hv.dp H (Same.refl H), .tup (qR H) (dp_strs rules), hv.sh, rules_sh, _, rfl, ?_⟩
    have e1 : ((rules.map PyData.str).any fun q => PyData.eqv q dv) = false := by
      rw [List.any_eq_false]
      intro q hq
      obtain ⟨r, hr', rfl⟩ := List.mem_map.mp hq
      rw [hv.no r hr']; simp
    rw [if_pos rfl, e1]
    refine iteT ⟨_, rfl, ?_⟩
    exact err_read (fs := ["rule"]) (by decide) rfl kr
abbrev pRuleF : List Str := ["_law_plain_here", "_law_rule"]
abbrev nRuleF : List Str := ["_law_plain_here", "_law_rule", "e"]
theorem scRuleF : FnScope nRuleF pRuleF (defScope sRuleF) := ⟨rfl, rfl, rfl, by decide +kernel, rfl, by decide +kernel, by decide +kernel⟩
theorem ok_rulef {C CM CR f fM fK fR : Addr} {fd fdM fdK fdR : FuncData} (D : Df K mg "_law_rule_fault" sRuleF pRuleF f fd) (DM : Df K mg "_law_made" sMade ["_law_plain_here"] fM fdM) (GM : FnOk P w K mg base CX0 7 fM fdM ["_law_plain_here"] (spMade K C)) (MK : Tk K mg CM) (MkK : Mk K CM fK) (bK : Binds K fdK pKI [])
    (GK : FnOk P w K mg base (L2.CX P w) 3 fK fdK pKI (spKBad K CM CR)) (OR : OBadRule K mg CR fR fdR) (eRR : PySem.W.exmOne K (.ref CR) (.ref CR) = some true) : FnOk P w K mg base CX0 8 f fd pRuleF (spRuleF K) := by
  refine D.F.ok scRuleF (fun vs H Q E h => ?_) (fun cdv A outer s H vs Q E hr h => ?_)
  · obtain ⟨p, ws, rs, ss, st, v, dv, rfl, _⟩ := h
    rfl
  · obtain ⟨p, ws, rs, ss, st, v, dv, rfl, hp, pt, hv, k⟩ := h
    have hr3 : Room 4 (cxOf CX0 P w K mg base nRuleF "_law_rule_fault" (defScope sRuleF) f cdv A outer s H E).nox.A := hr.mono (by decide)
    refine ⟨_, pss_cons (ps_try_asAll (i := 2) rfl rfl scRuleF.nd rfl rfl L2.takes0
        (fun W pn xe tk _ => pss_one (ps_expr (pe_makeS MkK GK hr3 rfl MK.mgC bK .nil (fun σ => passAt tk σ) (pa_cons (pe_call GM hr rfl DM.g DM.F.kp DM.b .nil pass0 (pa_cons (pv 0) pa_nil)) (pa_cons (pv 1) pa_nil)))))
        (.cons (x := "BadRule") ⟨rfl, by decide, .inl OR.g⟩ (fun a oe cl dd pn hz hf => pss_one (ps_ret (pe_cmpR (r := rEqD K) (op_eqD hr.units) (pe_xf OR.xf (OR.no "rule" (by simp)) hz hf (pv 2)) (pv 1) (nomark _)))) .nil))
      (pss_one (ps_ret pe_bl)), ?_⟩
    refine ⟨_, rfl, p, ws, rs, ss, st, rfl, hp, pt, fun x H1 hx0 mx s1 => ⟨_, rfl, fun y dy hy hdy ne => ?_⟩⟩
    have pre := made_pre (C := CM) hy hdy
    refine ⟨y, dy, x, v, dv, rfl, upd_same, (hv.same s1).same pre, ?_⟩
    intro d G sG hd eG
    refine ⟨true, eRR, fun _ e he => ?_, fun q => nomatch q⟩
    have s3 := (s1.trans pre).trans sG
    refine ⟨_, rfl, rfl, rfl, d, _, v, rfl, eG, rfl, _, rfl, dv, dv, hv.dp G s3, hv.dp G s3, hv.sh, hv.sh, ?_⟩
    rw [hv.ev]
    exact k G s3
theorem ok_lbad {C CM CL CT CO f fT fO : Addr} {fd fdT fdO : FuncData} (F : Fun K "__init__" "Lot.__init__" sLInit f fd) (M : Tm K mg C) (MK : Tk K mg CM) (ML : Tl2 K mg CL) (T : Bt2 mg) (B : Bk K mg) (OT : OTooMany K mg CT fT fdT) (OO : OOtherDeeds K mg CO fO fdO) : FnOk P w K mg base (L2.CX P w) 3 f fd pLI (spLBad K C CM CL CT CO) := by
  refine F.okX scLI (fun vs H Q E h => ?_) (fun cdv A outer s H vs Q E hr h => ?_)
  · obtain ⟨x, dx, l, as, wss, rfl, _⟩ := h
    rfl
  · obtain ⟨x, dx, l, as, wss, rfl, hx, hl, hz, kk⟩ := h
    obtain ⟨tM, gM⟩ := B.MM
    have hin : ∀ (s' : Shared) (H' : Hp) (C' : Addr) (cl' : List (Str × Addr)) (fp' : List Addr), PE (Cx.blk (cxOf (L2.CX P w) P w K mg base nLI "Lot.__init__" (defScope sLInit) f cdv A outer s H E) s' H' scLo (compEnvC scLo cl' C' (cxOf (L2.CX P w) P w K mg base nLI "Lot.__init__" (defScope sLInit) f cdv A outer s H E).env) fp')
        (eltOf eLI) (tFld K (tFld K (tVar 2) "machine") "start") := fun s' H' C' cl' fp' => pe_fld (pe_fld (pv 2) rfl) rfl
    refine ⟨_, pss_cons (ps_if (pt_cmpR op_gt (pe_callB call_len (by rfl) T.len PySem.boot_len (pa_cons (pv 1) pa_nil)) (pe_glob (v := .int 6) rfl gM ⟨_, rfl⟩) (nomark _))
        (pss_one (ps_raise rfl (takes_of rfl rfl rfl rfl) (pmk_oex OT.T OT.ini OT.tI (ini_TooMany OT) hr OT.b .nil pass0 rfl OT.g (pa_cons pe_str (pa_cons (pe_callB call_len (by rfl) T.len PySem.boot_len (pa_cons (pv 1) pa_nil)) (pa_cons (pe_glob (v := .int 6) rfl gM ⟨_, rfl⟩) pa_nil)))))) pss_nil)
      (pss_cons (ps_for (passes_of rfl) rfl (pi_list (pv 1)) (pg_name (i := 2) scLI.nd rfl (Or.inl rfl))
        (pss_one (ps_if (pt_cmpR (op_neD hr.units) (pe_fld (pe_fld (pv 2) rfl) rfl) (pe_fld (pe_fld (pe_ix ix_list (pv 1) pe_int (fun _ _ => rfl)) rfl) rfl) (nomark _))
          (pss_one (ps_raise rfl (takes_of rfl rfl rfl rfl) (pmk_oex OO.T OO.ini OO.tI (ini_OtherDeeds OO) hr OO.b .nil pass0 rfl OO.g (pa_cons (pe_fld (pe_fld (pe_ix (r := rIxL K) ix_list (pv 1) pe_int (fun _ _ => rfl)) rfl) rfl) (pa_cons (pe_fld (pe_fld (pv 2) rfl) rfl) pa_nil))))) pss_nil)))
      (pss_cons (ps_fld (pv 0) (pe_callTy (r := rTu K) call_tuple_of (by rfl) T.tuple PyProof.Rows.boot_tuple (pa_cons (pv 1) pa_nil)) rfl)
      (pss_one (ps_fld (pv 0) (pe_callTy (r := rTu K) call_tuple_of (by rfl) T.tuple PyProof.Rows.boot_tuple (pa_cons (pe_lc (own := [("mark", 2)]) (g := gName 2) (by rfl) scLI.nd (pi_list (pv 1))
          (blkOk_by (own := [("mark", 2)]) (N := nLI) (sc := defScope sLInit) (by decide +kernel)) (fun _ _ _ _ _ => pg_name (i := 2) scLI.nd rfl (Or.inl rfl)) (fun _ _ _ _ _ => pts_nil)
          hin) pa_nil)) rfl)))), ?_⟩
    have hln : (as.map V.ref).length = as.length := List.length_map _
    refine ⟨_, rfl, _, as.length, rfl, .inl ⟨_, hl, hln.symm⟩, _, _, rfl, rfl, _, rfl, ?_⟩
    rcases kk with ⟨h6, kr⟩ | ⟨h6, hM, n, ws0, wsn, ⟨w0, wn, wne, wall⟩, kr⟩
    · refine ite2 (fun _ => ?_) (fun h => absurd (decide_eq_true (by omega)) h)
      refine ⟨_, rfl, _, as.length, rfl, .inl ⟨_, hl, hln.symm⟩, ?_⟩
      exact err_read (fs := ["what", "many", "most"]) (by decide) rfl kr
    · refine ite2 (fun h => absurd (of_decide_eq_true h) (by omega)) (fun _ => ?_)
      have hna : n < as.length := by rw [hM.1]; exact (List.getElem?_eq_some_iff.mp wn).1
      have e0 : as[0]? = some as[0] := List.getElem?_eq_getElem (by omega)
      obtain ⟨ok0, m0, dk0, xk0, hk0, mk0⟩ := hM.2 0 _ _ e0 w0
      obtain ⟨dm0, t0, r0, lt0, bs0, hm0, htm0, _⟩ := id mk0
      refine ⟨_, rfl, l, rfl, ⟨_, hl⟩, for_list (K := K) (a := l) (xs := as.map V.ref) (fun i σ H' => i ≤ n ∧ H' = H ∧ ∃ v2, σ = [some (.ref x), some (.ref l), v2]) ⟨Nat.zero_le _, rfl, none, rfl⟩ (fun i σ H' _ p => by rw [p.2.1]; exact hl) ?_ ?_⟩
      · rintro i y σ H1 hi ⟨hin', rfl, v2, rfl⟩
        rw [List.getElem?_map] at hi
        obtain ⟨a, ea, rfl⟩ := Option.map_eq_some_iff.mp hi
        have hil : i < wss.length := by rw [← hM.1]; exact (List.getElem?_eq_some_iff.mp ea).1
        obtain ⟨ok, m, dk, xk, hk, mk⟩ := hM.2 i _ _ ea (List.getElem?_eq_getElem hil)
        obtain ⟨dm, t, r, lt, bs, hm, htm, _⟩ := id mk
        have at0 : atI (as.map V.ref) 0 = some (.ref as[0]) := atI_nat (j := 0) (v := V.ref as[0]) (by rw [List.getElem?_map, e0]; rfl)
        refine ⟨_, rfl, a, CM, dk, _, _, rfl, hk, MK.cl, MK.nM, kf_m _ _, xk, C, dm, _, _, rfl, hm, M.cl, M.nD, mf_deeds _ _ _ _, ?_⟩
        refine ⟨_, rfl, l, _, 0, _, rfl, rfl, hl, at0, as[0], CM, dk0, _, _, rfl, hk0, MK.cl, MK.nM, kf_m _ _, xk0, C, dm0, _, _, rfl, hm0, M.cl, M.nD, mf_deeds _ _ _ _, _, _, .tup htm.sq (dp_strs wss[i]), .tup htm0.sq (dp_strs ws0), shaped_strs ok, shaped_strs ok0, _, rfl, ?_⟩
        rw [PyData.eqv, eqv_strs]
        by_cases hine : i = n
        · subst hine
          have ew : wss[i] = wsn := by rw [List.getElem?_eq_getElem hil] at wn; exact Option.some.inj wn
          rw [decide_eq_false (by rw [ew]; exact wne)]
          refine iteT ⟨_, rfl, l, _, 0, _, rfl, rfl, hl, at0, as[0], CM, dk0, _, _, rfl, hk0, MK.cl, MK.nM, kf_m _ _, xk0, C, dm0, _, _, rfl, hm0, M.cl, M.nD, mf_deeds _ _ _ _, ?_⟩
          refine ⟨_, rfl, a, CM, dk, _, _, rfl, hk, MK.cl, MK.nM, kf_m _ _, xk, C, dm, _, _, rfl, hm, M.cl, M.nD, mf_deeds _ _ _ _, ?_⟩
          rw [ew] at htm
          exact err_read (fs := ["have", "want"]) (by decide) rfl (kr t0 t htm0 htm)
        · have ew : wss[i] = ws0 := by
            have := wall i (by omega)
            rw [List.getElem?_eq_getElem hil] at this
            exact Option.some.inj this
          rw [decide_eq_true ew]
          refine iteF ?_
          exact ⟨by omega, rfl, _, rfl⟩
      · rintro σ H1 ⟨hin', rfl, v2, rfl⟩
        rw [List.length_map] at hin'
        exact absurd hna (by omega)
abbrev nLotF : List Str := ["_law_marks", "e"]
theorem scLotF : FnScope nLotF ["_law_marks"] (defScope sLotF) := ⟨rfl, rfl, rfl, by decide +kernel, rfl, by decide +kernel, by decide +kernel⟩
theorem ok_lotf {C CM CL CT CO f fL fT fO : Addr} {fd fdL fdT fdO : FuncData} (D : Df K mg "_law_lot_fault" sLotF ["_law_marks"] f fd) (ML : Tl2 K mg CL) (MkL : Mk K CL fL) (bL : Binds K fdL pLI []) (GL : FnOk P w K mg base (L2.CX P w) 3 fL fdL pLI (spLBad K C CM CL CT CO)) (OT : OTooMany K mg CT fT fdT) (OO : OOtherDeeds K mg CO fO fdO)
    (eTT : PySem.W.exmOne K (.ref CT) (.ref CT) = some true) (eOT : PySem.W.exmOne K (.ref CO) (.ref CT) = some false) (eOO : PySem.W.exmOne K (.ref CO) (.ref CO) = some true) : FnOk P w K mg base CX0 5 f fd ["_law_marks"] (spLotF K C CM CL) := by
  refine D.F.ok scLotF (fun vs H Q E h => ?_) (fun cdv A outer s H vs Q E hr h => ?_)
  · obtain ⟨l, as, wss, rfl, _⟩ := h
    rfl
  · obtain ⟨l, as, wss, rfl, hl, hz, kk⟩ := h
    refine ⟨_, pss_cons (ps_try_asAll (i := 1) rfl rfl scLotF.nd rfl rfl L2.takes0
        (fun W pn xe tk _ => pss_one (ps_expr (pe_makeS MkL GL hr rfl ML.mgC bL .nil (fun σ => passAt tk σ) (pa_cons (pv 0) pa_nil))))
        (.cons (x := "TooMany") ⟨rfl, by decide, .inl OT.g⟩ (fun a oe cl dd pn hz hf => pss_one (ps_ret (pe_tup (pa_cons pe_str (pa_cons (pe_xf OT.xf (OT.no "what" (by simp)) hz hf (pv 1)) (pa_cons (pe_xf OT.xf (OT.no "many" (by simp)) hz hf (pv 1)) (pa_cons (pe_xf OT.xf (OT.no "most" (by simp)) hz hf (pv 1)) pa_nil)))))))
          (.cons (x := "OtherDeeds") ⟨rfl, by decide, .inl OO.g⟩ (fun a oe cl dd pn hz hf => pss_one (ps_ret (pe_tup (pa_cons pe_str (pa_cons (pe_xf OO.xf (OO.no "have" (by simp)) hz hf (pv 1)) (pa_cons (pe_xf OO.xf (OO.no "want" (by simp)) hz hf (pv 1)) pa_nil)))))) .nil)))
      (pss_one (ps_ret pe_non)), ?_⟩
    refine ⟨_, rfl, fun y dy hy hdy ne => ?_⟩
    have pre := made_pre (C := CL) hy hdy
    refine ⟨y, dy, l, as, wss, rfl, upd_same, pre.seq hl, hz, ?_⟩
    rcases kk with ⟨h6, k⟩ | ⟨h6, hM, n, ws0, wsn, od, k⟩
    · refine .inl ⟨h6, fun d G sG hd eG => ?_⟩
      refine ⟨true, eTT, fun _ e he => ?_, fun q => nomatch q⟩
      refine ⟨_, rfl, rfl, rfl, d, _, V.str "marks", rfl, eG, rfl, _, rfl, rfl, rfl, d, _, V.int (as.length : Int), rfl, eG, rfl, _, rfl, rfl, rfl, d, _, V.int 6, rfl, eG, rfl, Nat.le_of_ble_eq_true rfl, fun p hp => ?_⟩
      exact k p _ ((pre.trans sG).trans (same_upd hp)) upd_same
    · refine .inr ⟨h6, hM.same pre, n, ws0, wsn, od, fun t0 tn h0 hn d G sG hd eG => ?_⟩
      refine ⟨false, eOT, (fun q => nomatch q), fun _ => ⟨true, eOO, fun _ e he => ?_, fun q => nomatch q⟩⟩
      refine ⟨_, rfl, rfl, rfl, d, _, V.ref t0, rfl, eG, rfl, _, rfl, rfl, rfl, d, _, V.ref tn, rfl, eG, rfl, Nat.le_of_ble_eq_true rfl, fun p hp => ?_⟩
      exact k p t0 tn _ ((pre.trans sG).trans (same_upd hp)) (h0.same (sG.trans (same_upd hp))) (hn.same (sG.trans (same_upd hp))) upd_same
end
end K1
set_option Elab.async false
set_option linter.all false
set_option maxRecDepth 100000
/-! tuples that are known to have no dict: of + and of displays -/
namespace L2
open PySem PySem.Spec PyProof.Rows
section
variable {X : Cx}
def rCatF (K : PySem.W.Frag) : R2 := fun x y H Q => ∃ a b xs ys, x = .ref a ∧ y = .ref b ∧ SqT K H a xs ∧ SqT K H b ys ∧ xs.length + ys.length ≤ sizeLine ∧
  (xs = [] → Q (.ref b) H) ∧ (xs ≠ [] → ys = [] → Q (.ref a) H) ∧ (xs ≠ [] → ys ≠ [] → ∀ p o, H p = none → o.dict = none → Q (.ref p) (upd H p (.frz o (.tup (xs ++ ys)))))
theorem op_catF : OpR X (binaryOp .Add) (rCatF X.K) := by
  intro pins s σ H x y v u Q I rx ry h
  obtain ⟨a, b, xs, ys, rfl, rfl, ha, hb, hz, q0, q1, q2⟩ := h
  by_cases hx : xs = []
  · subst hx
    cases rx
    cases ry
    obtain ⟨its, r1, p1, _⟩ := I.tuple ha
    obtain ⟨its2, r2, p2, _⟩ := I.tuple hb
    cases r1
    exact cat_tup0 p1 p2 ⟨.ref b, H, I, rfl, q0 rfl⟩
  · cases rx
    cases ry
    obtain ⟨its, r1, p1, _⟩ := I.tuple ha
    obtain ⟨its2, r2, p2, _⟩ := I.tuple hb
    refine HT.cat_tup p1 p2 (fun z => hx (r1.nil_iff.mp z)) (fun z => ⟨.ref a, H, I, rfl, q1 hx (r2.nil_iff.mp z)⟩) (fun z => ?_) (by rw [← r1.length, ← r2.length]; exact hz)
    refine ⟨.ref s.heap.objs.size, _, I.laid (t' := s.toks) (o := .frz { cls := .type "tuple", data := .seq (its ++ its2).toArray } (.tup (xs ++ ys))) (fun b ob q => Heap.get?_push_of_some _ q) (Nat.le_refl _) ?_, rfl, q2 hx (fun w => z (r2.nil_iff.mpr w)) _ _ (I.hok.fresh (Nat.le_refl _)) rfl⟩
    exact ⟨Heap.get?_push_size _ rfl, by rw [List.length_append]; exact hz, _, r1.append r2, IsTup.new _ _⟩
def tTupF (t : TA) : TE := fun σ H Q => t σ H fun xs H1 => xs.length ≤ sizeLine ∧ ∀ p o, H1 p = none → o.dict = none → Q (.ref p) (upd H1 p (.frz o (.tup xs)))
theorem pe_tupF {es : List Expr} {t : TA} {pos : Pos} {x1} (h : PA X es t) : PE X (.Tuple es x1 pos) (tTupF t) := by
  refine ⟨fun pins s σ H Q I hq => ?_⟩
  refine wpAny_Tuple_spliced (thn (h.run pos pins s σ H _ I hq) fun us s1 ⟨xs, H1, I1, r, z, q⟩ => ⟨by rw [← r.length]; exact z, ?_⟩)
  have hf : H1 s1.heap.objs.size = none := I1.hok.fresh (Nat.le_refl _)
  refine ⟨.ref s1.heap.objs.size, upd H1 s1.heap.objs.size (.frz { cls := .type "tuple", data := .seq us.toArray } (.tup xs)), I1.laid (t' := s1.toks) (fun b u e => Heap.get?_push_of_some _ e) (Nat.le_refl _) ?_, rfl, q _ _ hf rfl⟩
  exact ⟨Heap.get?_push_size _ rfl, z, us, r, ⟨_, Heap.get?_push_size _ rfl, rfl, _, rfl⟩⟩
end
end L2
namespace K1
open PySem L2
theorem sqF_new {H : Hp} {p : Addr} {o : Obj} {xs : List V} (h : o.dict = none) : SqF (upd H p (.frz o (.tup xs))) p xs := ⟨o, upd_same, h⟩
theorem catF_any {K : PySem.W.Frag} {H : Hp} {Q : VK} {a b : Addr} {xs ys : List V} (ha : SqT K H a xs) (hb : SqT K H b ys) (fa : ys = [] → SqF H a xs) (fb : xs = [] → SqF H b ys) (hz : xs.length + ys.length ≤ 1000) (k : ∀ p H', SqF H' p (xs ++ ys) → Same H H' → Q (.ref p) H') : rCatF K (.ref a) (.ref b) H Q :=
  ⟨a, b, xs, ys, rfl, rfl, ha, hb, Nat.le_of_lt (small1000 (by omega)), fun e => k b H (by rw [e]; exact fb e) (Same.refl H), fun _ e => k a H (by rw [e, List.append_nil]; exact fa e) (Same.refl H), fun _ _ p o hp ho => k p _ (sqF_new ho) (same_upd hp)⟩
end K1
set_option Elab.async false
set_option linter.all false
set_option maxRecDepth 100000
/-! other deeds: the words -/
namespace K1
open PySem L2 LamX OwnT
theorem tl_app (a b : Str) : (a ++ b).cps.toList = a.cps.toList ++ b.cps.toList := by
  show (a.cps ++ b.cps).toList = _
  simp
theorem z_AL : ∀ x ∈ ("000" : Str).cps.toList, x ∈ AL := by decide +kernel
theorem z_AL1 : ∀ x ∈ ("0" : Str).cps.toList, x ∈ AL := by decide +kernel
theorem Wd.more {z : Str} (h : Wd z) (b : Str) (hb : ∀ x ∈ b.cps.toList, x ∈ AL) (hl : z.cps.toList.length + b.cps.toList.length ≤ 11) : Wd (z ++ b) := by
  obtain ⟨c, r, e, h1, h2, h3⟩ := h
  refine ⟨c, r ++ b.cps.toList, by rw [tl_app, e]; rfl, h1, fun x hx => ?_, ?_⟩
  · rcases List.mem_append.mp hx with h | h
    · exact h2 x h
    · exact hb x h
  · rw [e] at hl
    rw [List.length_append]
    simp at hl
    simp
    omega
abbrev moreW (ws : List Str) : Str := ws.getD 0 "" ++ "000"
/-- what is known of the deeds -/
structure Dz (ws : List Str) (lw : Nat) : Prop where
  gd : GoodD ws
  eq : ∀ z ∈ ws, z.cps.toList.length = lw
  l7 : lw ≤ 7
  l3 : ws.length ≤ 3
section
variable {ws : List Str} {lw : Nat}
theorem Dz.w0 (h : Dz ws lw) : ws.getD 0 "" ∈ ws := List.mem_of_getElem? (getD_get ("" : Str) (by have := h.gd.len; omega))
theorem len000 : ("000" : Str).cps.toList.length = 3 := by decide +kernel
theorem len0 : ("0" : Str).cps.toList.length = 1 := by decide +kernel
theorem Dz.more_len (h : Dz ws lw) : (moreW ws).cps.toList.length = lw + 3 := by rw [tl_app, List.length_append, h.eq _ h.w0, len000]
theorem Dz.more_wd (h : Dz ws lw) : Wd (moreW ws) := (h.gd.wd _ h.w0).more _ z_AL (by rw [h.eq _ h.w0, len000]; have := h.l7; omega)
theorem Dz.more0_wd (h : Dz ws lw) : Wd (moreW ws ++ "0") := h.more_wd.more _ z_AL1 (by rw [h.more_len, len0]; have := h.l7; omega)
theorem Dz.more_no (h : Dz ws lw) : moreW ws ∉ ws := fun hm => by
  have := h.eq _ hm
  rw [h.more_len] at this
  omega
theorem Dz.more0_no (h : Dz ws lw) : [moreW ws ++ "0"] ≠ ws := fun e => by
  have hm : moreW ws ++ "0" ∈ ws := (congrArg (fun l => moreW ws ++ "0" ∈ l) e).mp (List.mem_singleton.mpr rfl)
  have := h.eq _ hm
  rw [tl_app, List.length_append, h.more_len] at this
  omega
/-- a part of the deeds and one more -/
theorem Dz.snoc (h : Dz ws lw) {us : List Str} (hs : ∀ z ∈ us, z ∈ ws) (nd : us.Nodup) (hl : us.length ≤ 3) : GoodD (us ++ [moreW ws]) := by
  refine ⟨?_, fun z hz => ?_, ?_⟩
  · refine List.nodup_append.mpr ⟨nd, by simp, fun a ha b hb e => ?_⟩
    rw [List.mem_singleton.mp hb] at e
    exact h.more_no (e ▸ hs a ha)
  · rcases List.mem_append.mp hz with hz | hz
    · exact h.gd.wd z (hs z hz)
    · rw [List.mem_singleton.mp hz]; exact h.more_wd
  · rw [List.length_append]; simp; omega
theorem Dz.snoc_ne (h : Dz ws lw) {us : List Str} : us ++ [moreW ws] ≠ ws := fun e => h.more_no ((congrArg (fun l => moreW ws ∈ l) e).mp (List.mem_append_right us (List.mem_singleton.mpr rfl)))
theorem Dz.rev (h : Dz ws lw) (h2 : 2 ≤ ws.length) : GoodD ws.reverse ∧ ws.reverse ≠ ws := by
  have hp : ws.reverse.Perm ws := List.reverse_perm ws
  refine ⟨⟨hp.nodup_iff.mpr h.gd.nd, fun z hz => h.gd.wd z (hp.mem_iff.mp hz), by rw [List.length_reverse]; exact h.gd.len⟩, fun e => ?_⟩
  have e1 : ws[0]? = ws[ws.length - 1]? := by
    have := congrArg (fun l : List Str => l[0]?) e
    simp only [List.getElem?_reverse (show 0 < ws.length by omega)] at this
    rw [show ws.length - 1 - 0 = ws.length - 1 by omega] at this
    exact this.symm
  rw [List.getElem?_eq_getElem (show 0 < ws.length by omega), List.getElem?_eq_getElem (show ws.length - 1 < ws.length by omega)] at e1
  exact List.pairwise_iff_getElem.mp h.gd.nd 0 (ws.length - 1) (by omega) (by omega) (by omega) (Option.some.inj e1)
theorem Dz.tail (h : Dz ws lw) (h2 : 2 ≤ ws.length) : GoodD (ws.drop 1) ∧ ws.drop 1 ≠ ws := by
  have := h.l3
  refine ⟨⟨h.gd.nd.sublist (List.drop_sublist 1 ws), fun z hz => h.gd.wd z (List.mem_of_mem_drop hz), by rw [List.length_drop]; omega⟩, fun e => ?_⟩
  have := congrArg List.length e
  rw [List.length_drop] at this
  omega
end
/-- other deeds, told -/
def Alt (H : Hp) (ws : List Str) (t : Addr) : Prop := ∃ us : List Str, SqF H t (us.map V.str) ∧ GoodD us ∧ us ≠ ws
theorem Alt.same {H H' : Hp} {ws : List Str} {t : Addr} (h : Alt H ws t) (s : Same H H') : Alt H' ws t := by
  obtain ⟨us, h1, h2⟩ := h
  exact ⟨us, h1.same s, h2⟩
theorem cut_but {xs : List V} (h : 1 ≤ xs.length) : cutV xs none (some (-1)) = xs.take (xs.length - 1) := by
  unfold cutV
  have e1 : HT.sIx xs.length 0 none = 0 := rfl
  have e2 : HT.sIx xs.length xs.length (some (-1)) = xs.length - 1 := by
    show (if (-1 : Int) < 0 then ((-1 : Int) + (xs.length : Int)).toNat else min (-1 : Int).toNat xs.length) = xs.length - 1
    rw [if_pos (by decide)]; omega
  rw [e1, e2]; simp
theorem cut_fromA {xs : List V} {i : Nat} (h : i ≤ xs.length) : cutV xs (some (i : Int)) none = xs.drop i := by
  unfold cutV
  rw [HT.sIx_none, HT.sIx_nat, Nat.min_eq_left h]
  exact List.take_of_length_le (by rw [List.length_drop]; omega)
theorem cut_toA {xs : List V} {i : Nat} : cutV xs none (some (i : Int)) = xs.take i := by
  unfold cutV
  rw [HT.sIx_none, HT.sIx_nat]
  simp only [List.drop_zero, Nat.sub_zero]
  by_cases h : i ≤ xs.length
  · rw [Nat.min_eq_left h]
  · rw [Nat.min_eq_right (by omega), List.take_length, List.take_of_length_le (by omega)]
end K1
set_option Elab.async false
set_option linter.all false
set_option maxRecDepth 100000
set_option maxHeartbeats 1000000
/-! _law_lots_refused: the odd marks -/
namespace K1
open PySem L2 LamX OwnT
abbrev sLRef : Stmt := top 62
theorem PlainAt.kn {H H' : Hp} {d p : Addr} {kv : List (Key × V)} {ws : List Str} {rs : List (List Int)} {ss : List Str} {st : Int} (h : PlainAt H p ws rs ss st) (hd : H d = some (.dK kv)) (n : p ≠ d) (k : KeptN d H H') : PlainAt H' p ws rs ss st := by
  obtain ⟨t, r, l, as, h1, ⟨o, h2, q2⟩, h3, h4, h5⟩ := h
  have ne : ∀ {a : Addr} {xs : List V}, H a = some (.lst xs) → H' a = some (.lst xs) := fun e => k.lst (ne_of e hd (by intro z; cases z)) e
  exact ⟨t, r, l, as, k _ _ h1 n (fun ps => by intro z; cases z), ⟨o, k _ _ h2 (ne_of h2 hd (by intro z; cases z)) (fun ps => by intro z; cases z), q2⟩, ne h3, ne h4, ⟨h5.1, fun i a q e1 e2 => ne (h5.2 i a q e1 e2)⟩⟩
theorem MachAt.kn {K : PySem.W.Frag} {C d : Addr} {kv : List (Key × V)} {H H' : Hp} {x : Addr} {ws : List Str} {rs : List (List Int)} {ss : List Str} {st : Int} (h : MachAt K C H x ws rs ss st) (hd : H d = some (.dK kv)) (k : KeptN d H H') : MachAt K C H' x ws rs ss st := by
  obtain ⟨dx, t, r, l, as, h1, ⟨o, h2, q2⟩, h3, h4, h5⟩ := h
  have ne : ∀ {a : Addr} {xs : List V}, H a = some (.tup xs) → H' a = some (.tup xs) := fun e => k.tup (ne_of e hd (by intro z; cases z)) e
  exact ⟨dx, t, r, l, as, k.ins (ne_of h1 hd (by intro z; cases z)) h1, ⟨o, k _ _ h2 (ne_of h2 hd (by intro z; cases z)) (fun ps => by intro z; cases z), q2⟩, ne h3, ⟨h4.1, fun i a q e1 e2 => ne (h4.2 i a q e1 e2)⟩, ne h5⟩
theorem MarkAt.kn {K : PySem.W.Frag} {C CM d : Addr} {kv : List (Key × V)} {H H' : Hp} {a : Addr} {ws : List Str} {m : Pm} (h : MarkAt K C CM H a ws m) (hd : H d = some (.dK kv)) (k : KeptN d H H') : MarkAt K C CM H' a ws m := by
  obtain ⟨dk, x, h1, h2⟩ := h
  exact ⟨dk, x, k.ins (ne_of h1 hd (by intro z; cases z)) h1, h2.kn hd k⟩
theorem MarksAt.kn {K : PySem.W.Frag} {C CM d : Addr} {kv : List (Key × V)} {H H' : Hp} {as : List Addr} {ws : List Str} {ms : List Pm} (h : MarksAt K C CM H as ws ms) (hd : H d = some (.dK kv)) (k : KeptN d H H') : MarksAt K C CM H' as ws ms := ⟨h.1, fun i a m e1 e2 => (h.2 i a m e1 e2).kn hd k⟩
def menu2 : List Str := ["x", "y"]
theorem menu2_ok : ∀ z ∈ menu2, 1 ≤ z.cps.toList.length ∧ z.cps.toList.length ≤ 60 ∧ ∀ x ∈ z.cps.toList, x ∈ TL' := by decide +kernel
theorem menu2_tl {z : Str} (h : z ∈ menu2) : Tl z := menu2_ok z h
theorem Parts.of2 {ws : List Str} {rs : List (List Int)} {ss : List Str} {st : Int} (gd : GoodD ws) (gp : GoodP ws rs ss st menu2) : Parts ws rs ss st := ⟨gd, ⟨gp.many.1, by have := gp.many.2; omega⟩, gp.row, ⟨gp.tl.1, fun z hz => menu2_tl (gp.tl.2 z hz)⟩, gp.st⟩
def spLRef (K : PySem.W.Frag) : Sp := fun vs H Q _ => ∃ (d c dl l : Addr) (n : Nat) (ws : List Str) (ms : List Pm) (lw : Nat), vs = [.ref d, .ref dl, .ref l] ∧ PenAt H d c n ∧ n ≤ 700000 ∧ H dl = some (.lst (ws.map V.str)) ∧ LotP d H l ws ms ∧ Dz ws lw ∧ 1 ≤ ms.length ∧ ms.length ≤ 5 ∧ (∀ m ∈ ms, PmOk ws m) ∧
  ∀ H' n', Kept d H H' → PenAt H' d c n' → n' ≤ n + 900 → Q (.bl true) H'
abbrev pLRef : List Str := ["_law_pen_here", "_law_deeds", "_law_lot_here"]
abbrev nLRef : List Str := ["_law_pen_here", "_law_deeds", "_law_lot_here", "_law_more", "_law_options", "_law_strange", "_law_odd", "_law_marks", "_law_at", "_law_later", "_law_mixed", "_law_plain_here", "_law_rule"]
theorem scLRef : FnScope nLRef pLRef (defScope sLRef) := ⟨rfl, rfl, rfl, by decide +kernel, rfl, by decide +kernel, by decide +kernel⟩
/-- what it calls -/
structure Rf (P : Program) (w : World) (K : PySem.W.Frag) (mg : Str → Option Value) (base : Heap) (C CM CL : Addr) : Prop where
  T2 : Bt2 mg
  MK : Tk K mg CM
  draw : ∃ f fd, Df K mg "_law_draw" sDraw pDraw f fd ∧ FnOk P w K mg base CX0 1 f fd pDraw spDraw
  pick : ∃ f fd, Df K mg "_law_pick" sPick pPick f fd ∧ FnOk P w K mg base CX0 2 f fd pPick (spPickL K)
  plainT : ∃ f fd, Df K mg "_law_plain" sPlain pPlain f fd ∧ FnOk P w K mg base CX0 3 f fd pPlain (spPlainT K)
  made : ∃ f fd, Df K mg "_law_made" sMade ["_law_plain_here"] f fd ∧ FnOk P w K mg base CX0 7 f fd ["_law_plain_here"] (spMade K C)
  mkK : ∃ f fd, Mk K CM f ∧ Binds K fd pKI [] ∧ FnOk P w K mg base CX0 1 f fd pKI (spKInit K CM)
  lotf : ∃ f fd, Df K mg "_law_lot_fault" sLotF ["_law_marks"] f fd ∧ FnOk P w K mg base CX0 5 f fd ["_law_marks"] (spLotF K C CM CL)
/-- what is kept over a turn of drawing -/
structure Rz (K : PySem.W.Frag) (H : Hp) (d c : Addr) (n : Nat) (dl l : Addr) (ws : List Str) (ms : List Pm) : Prop where
  pen : PenAt H d c n
  hdl : H dl = some (.lst (ws.map V.str))
  lot : LotP d H l ws ms
section
variable {K : PySem.W.Frag} {H H' : Hp} {d c : Addr} {n n' : Nat} {dl l : Addr} {ws : List Str} {ms : List Pm}
theorem Rz.kept (r : Rz K H d c n dl l ws ms) (k : Kept d H H') (p : PenAt H' d c n') : Rz K H' d c n' dl l ws ms := by
  obtain ⟨kv, hd⟩ := r.pen.dk
  exact ⟨p, k _ _ r.hdl (ne_of r.hdl hd (by intro z; cases z)), r.lot.pen hd k⟩
theorem Rz.same (r : Rz K H d c n dl l ws ms) (s : Same H H') : Rz K H' d c n dl l ws ms := r.kept (.same s) (r.pen.same s)
end
/-- a mark over other deeds -/
def OddAt (K : PySem.W.Frag) (C CM : Addr) (H : Hp) (a : Addr) (us : List Str) : Prop := GoodD us ∧ ∃ m, MarkAt K C CM H a us m
theorem OddAt.same {K : PySem.W.Frag} {C CM : Addr} {H H' : Hp} {a : Addr} {us : List Str} (h : OddAt K C CM H a us) (s : Same H H') : OddAt K C CM H' a us := ⟨h.1, h.2.elim fun m hm => ⟨m, hm.same s⟩⟩
theorem OddAt.kn {K : PySem.W.Frag} {C CM d : Addr} {kv : List (Key × V)} {H H' : Hp} {a : Addr} {us : List Str} (h : OddAt K C CM H a us) (hd : H d = some (.dK kv)) (k : KeptN d H H') : OddAt K C CM H' a us := ⟨h.1, h.2.elim fun m hm => ⟨m, hm.kn hd k⟩⟩
end K1
set_option Elab.async false
set_option linter.all false
set_option maxRecDepth 100000
set_option maxHeartbeats 1000000
/-! _law_lots_refused: its end -/
namespace K1
open PySem L2 LamX OwnT
section
variable {K : PySem.W.Frag} {C CM : Addr} {H : Hp}
theorem MkW.app {as bs : List Addr} {us vs : List (List Str)} (h : MkW K C CM H as us) (g : MkW K C CM H bs vs) : MkW K C CM H (as ++ bs) (us ++ vs) := by
  refine ⟨by simp [h.1, g.1], fun i a ws e1 e2 => ?_⟩
  by_cases hi : i < as.length
  · rw [List.getElem?_append_left hi] at e1
    rw [List.getElem?_append_left (by rw [← h.1]; exact hi)] at e2
    exact h.2 i a ws e1 e2
  · rw [List.getElem?_append_right (by omega)] at e1
    rw [List.getElem?_append_right (by rw [← h.1]; omega), ← h.1] at e2
    exact g.2 _ a ws e1 e2
theorem MkW.take {as : List Addr} {us : List (List Str)} (h : MkW K C CM H as us) (n : Nat) : MkW K C CM H (as.take n) (us.take n) := by
  refine ⟨by simp [h.1], fun i a ws e1 e2 => ?_⟩
  have hi : i < n := by
    have := (List.getElem?_eq_some_iff.mp e1).1
    rw [List.length_take] at this; omega
  rw [List.getElem?_take, if_pos hi] at e1 e2
  exact h.2 i a ws e1 e2
theorem MkW.drop {as : List Addr} {us : List (List Str)} (h : MkW K C CM H as us) (n : Nat) : MkW K C CM H (as.drop n) (us.drop n) := by
  refine ⟨by simp [h.1], fun i a ws e1 e2 => ?_⟩
  rw [List.getElem?_drop] at e1 e2
  exact h.2 _ a ws e1 e2
theorem MkW.one {a : Addr} {us : List Str} (h : OddAt K C CM H a us) : MkW K C CM H [a] [us] := by
  refine ⟨rfl, fun i b ws e1 e2 => ?_⟩
  match i, e1, e2 with
  | 0, e1, e2 => cases e1; cases e2; exact ⟨ok_wd h.1.wd, h.2⟩
  | _ + 1, e1, _ => simp at e1
theorem MkW.of {as : List Addr} {ws : List Str} {ms : List Pm} (h : MarksAt K C CM H as ws ms) (ok : OkS ws) : MkW K C CM H as (List.replicate ms.length ws) := by
  refine ⟨by simp [h.1], fun i a us e1 e2 => ?_⟩
  have hi : i < ms.length := by rw [← h.1]; exact (List.getElem?_eq_some_iff.mp e1).1
  rw [List.getElem?_replicate, if_pos hi] at e2
  cases e2
  exact ⟨ok, _, h.2 i a _ e1 (List.getElem?_eq_getElem hi)⟩
end
theorem odd1_of {M j : Nat} {ws us vs : List Str} (h1 : 1 ≤ j) (hM : j ≤ M) (h5 : M ≤ 5) (hne : us ≠ ws) : Odd1 (((((List.replicate M ws).take j ++ [us]) ++ (List.replicate M ws).drop j) ++ [vs]).take 6) j ws us := by
  have hl : ((List.replicate M ws).take j).length = j := by rw [List.length_take, List.length_replicate]; omega
  have low : ∀ i, i ≤ j → (((((List.replicate M ws).take j ++ [us]) ++ (List.replicate M ws).drop j) ++ [vs]).take 6)[i]? = ((List.replicate M ws).take j ++ [us])[i]? := fun i hi => by
    have h2 : i < ((List.replicate M ws).take j ++ [us]).length := by rw [List.length_append, hl]; simp; omega
    rw [List.getElem?_take, if_pos (by omega), List.getElem?_append_left (by rw [List.length_append]; omega), List.getElem?_append_left h2]
  have old : ∀ i, i < j → ((List.replicate M ws).take j ++ [us])[i]? = some ws := fun i hi => by
    rw [List.getElem?_append_left (by omega), List.getElem?_take, if_pos hi, List.getElem?_replicate, if_pos (by omega)]
  refine ⟨by rw [low 0 (by omega), old 0 (by omega)], ?_, hne, fun i hi => by rw [low i (by omega), old i hi]⟩
  rw [low j (Nat.le_refl _), List.getElem?_append_right (by omega), hl, Nat.sub_self]; rfl
abbrev dFD (zs us : List Str) : PyData := .tuple [.str "deeds", .tuple (zs.map PyData.str), .tuple (us.map PyData.str)]
theorem okS_deeds : PyData.strOk ("deeds" : Str) = true := by decide +kernel
theorem dFD_l {zs us : List Str} (h : OkS zs) (g : OkS us) : (dFD zs us).canLay0 = true := by
  simp [PyData.canLay0, PyData.canLayAll0, canLay_strs _ h, canLay_strs _ g, okS_deeds]
theorem dFD_s {zs us : List Str} (h : OkS zs) (g : OkS us) : SeqAt.shaped (dFD zs us) = true := shaped_of (dFD_l h g) (by
  simp only [PyData.depth, PyData.depthAll]
  have h1 := depth_strs zs
  have h2 := depth_strs us
  omega)
theorem dFD_p {K : PySem.W.Frag} {H : Hp} {p a b : Addr} {zs us : List Str} (hp : H p = some (.tup [.str "deeds", .ref a, .ref b])) (ha : SqT K H a (zs.map V.str)) (hb : SqT K H b (us.map V.str)) : Dp K H (.ref p) (dFD zs us) :=
  .tup (SqT.of hp) (.cons (.str _) (.cons (.tup ha (dp_strs zs)) (.cons (.tup hb (dp_strs us)) .nil)))
abbrev dFM (j : Int) : PyData := .tuple [.str "many", .str "marks", .int j, .int 6]
theorem dFM_l (j : Int) : (dFM j).canLay0 = true := by
  have h1 : PyData.strOk ("many" : Str) = true := by decide +kernel
  have h2 : PyData.strOk ("marks" : Str) = true := by decide +kernel
  simp [PyData.canLay0, PyData.canLayAll0, h1, h2]
theorem dFM_s (j : Int) : SeqAt.shaped (dFM j) = true := shaped_of (dFM_l j) (by simp [PyData.depth, PyData.depthAll])
theorem dFM_p {K : PySem.W.Frag} {H : Hp} {p : Addr} {j : Int} (hp : H p = some (.tup [.str "many", .str "marks", .int j, .int 6])) : Dp K H (.ref p) (dFM j) := .tup (SqT.of hp) (.cons (.str _) (.cons (.str _) (.cons (.int _) (.cons (.int _) .nil))))
section
variable {P : Program} {w : World} {K : PySem.W.Frag} {mg : Str → Option Value} {base : Heap} {C CM CL : Addr}
theorem lref_end (F : Rf P w K mg base C CM CL) (f : Addr) (cdv : Value) (A : Around) (outer : List Env) (s : Shared) (H0 : Hp) (E : XK) (hr : Room 7 (A.deeper (PyProof.Rows.envOfC "_law_lots_refused" (defScope sLRef) s.heap.objs.size f cdv))) :
    ∃ t, PSs (cxOf CX0 P w K mg base nLRef "_law_lots_refused" (defScope sLRef) f cdv A outer s H0 E).nox ((defBody sLRef).drop 8) t ∧
      ∀ (D : Ends) (H : Hp) (v0 v2 v3 v4 v11 v12 : Option V) (dl ts od mk la : Addr) (j : Nat) (ws us : List Str) (ms : List Pm) (as : List Addr) (lw : Nat),
        H dl = some (.lst (ws.map V.str)) → SqF H ts (us.map V.str) → us ≠ ws → OddAt K C CM H od us → OddAt K C CM H la [moreW ws ++ "0"] → H mk = some (.lst (as.map V.ref)) → MarksAt K C CM H as ws ms → Dz ws lw → 1 ≤ j → j ≤ ms.length → ms.length ≤ 5 →
        (∀ H', Same H H' → D.rt (.bl true) H') → t D [v0, some (.ref dl), v2, v3, v4, some (.ref ts), some (.ref od), some (.ref mk), some (.int (j : Int)), some (.ref la), none, v11, v12] H := by
  obtain ⟨T2, MK, _, _, _, _, _, ⟨fF, fdF, DF, GF⟩⟩ := F
  have T1 : Bt mg := T2.toBt
  have hr5 : Room 5 (cxOf CX0 P w K mg base nLRef "_law_lots_refused" (defScope sLRef) f cdv A outer s H0 E).nox.A := hr.mono (by decide)
  refine ⟨_, pss_cons (ps_set (i := 10) scLRef.nd rfl (Or.inl rfl) (pe_op op_cat (pe_op op_cat (pe_op op_cat (pe_slice (r := rSlL K) sl_list (pv 7) po_none (po_some (pv 8))) (pe_lst (pa_cons (pv 6) pa_nil))) (pe_slice (r := rSlL K) sl_list (pv 7) (po_some (pv 8)) po_none)) (pe_lst (pa_cons (pv 9) pa_nil))))
      (pss_cons (ps_if (pt_cmpR (op_neD hr.units) (pe_call GF hr5 rfl DF.g DF.F.kp DF.b .nil pass0 (pa_cons (pe_slice (r := rSlL K) sl_list (pv 10) po_none (po_some pe_int)) pa_nil))
          (pe_tup (pa_cons pe_str (pa_cons (pe_callTy (r := rTu K) call_tuple_of (by rfl) T1.tuple PyProof.Rows.boot_tuple (pa_cons (pv 1) pa_nil)) (pa_cons (pv 5) pa_nil)))) (nomark _)) (pss_one (ps_ret pe_bl)) pss_nil)
      (pss_one (ps_ret (pe_cmpR (op_eqD hr.units) (pe_call GF hr5 rfl DF.g DF.F.kp DF.b .nil pass0 (pa_cons (pe_slice (r := rSlL K) sl_list (pe_op op_rep (pv 10) pe_int) po_none (po_some (pe_op op_add pe_int (pv 8)))) pa_nil))
          (pe_tup (pa_cons pe_str (pa_cons pe_str (pa_cons (pe_op op_add pe_int (pv 8)) (pa_cons pe_int pa_nil))))) (nomark _))))), ?_⟩
  intro D H v0 v2 v3 v4 v11 v12 dl ts od mk la j ws us ms as lw hdl hts hne hod hla hmk hM dz j1 jM m5 done
  have hlen : (as.map V.ref).length = ms.length := by rw [List.length_map, hM.1]
  have okw := ok_wd dz.gd.wd
  have oku := ok_wd hod.1.wd
  -- mixed
  refine ⟨_, rfl, _, rfl, (j : Int), rfl, mk, _, rfl, SqL.of hmk, fun a1 ha1 => ?_⟩
  rw [cut_toA]
  refine ⟨_, rfl, Nat.le_of_ble_eq_true rfl, fun a2 ha2 => ?_⟩
  have s1 := same_upd (o := .lst ((as.map V.ref).take j)) ha1
  have e1 : upd H a1 (.lst ((as.map V.ref).take j)) a1 = some (.lst ((as.map V.ref).take j)) := upd_same
  generalize upd H a1 (.lst ((as.map V.ref).take j)) = H1 at s1 e1 ha2 ⊢
  have s2 := same_upd (o := .lst [V.ref od]) ha2
  have e2 : upd H1 a2 (.lst [V.ref od]) a2 = some (.lst [V.ref od]) := upd_same
  have e12 := s2 _ _ e1
  generalize upd H1 a2 (.lst [V.ref od]) = H2 at s2 e2 e12 ⊢
  refine ⟨a1, a2, _, _, rfl, rfl, e12, e2, Nat.le_of_lt (small1000 (by rw [List.length_take, hlen]; simp; omega)), fun a3 ha3 => ?_⟩
  have s3 := same_upd (o := .lst ((as.map V.ref).take j ++ [V.ref od])) ha3
  have e3 : upd H2 a3 (.lst ((as.map V.ref).take j ++ [V.ref od])) a3 = some (.lst ((as.map V.ref).take j ++ [V.ref od])) := upd_same
  generalize upd H2 a3 (.lst ((as.map V.ref).take j ++ [V.ref od])) = H3 at s3 e3 ⊢
  have s03 := s1.trans (s2.trans s3)
  refine ⟨_, rfl, _, rfl, (j : Int), rfl, ?_⟩
  try delta tNoPart
  show rSlL K (.ref mk) (some (j : Int)) none H3 _
  refine ⟨mk, _, rfl, SqL.of (s03 _ _ hmk), fun a4 ha4 => ?_⟩
  rw [cut_fromA (by rw [hlen]; exact jM)]
  have s4 := same_upd (o := .lst ((as.map V.ref).drop j)) ha4
  have e4 : upd H3 a4 (.lst ((as.map V.ref).drop j)) a4 = some (.lst ((as.map V.ref).drop j)) := upd_same
  have e34 := s4 _ _ e3
  generalize upd H3 a4 (.lst ((as.map V.ref).drop j)) = H4 at s4 e4 e34 ⊢
  refine ⟨a3, a4, _, _, rfl, rfl, e34, e4, Nat.le_of_lt (small1000 (by rw [List.length_append, List.length_take, List.length_drop, hlen]; simp; omega)), fun a5 ha5 => ⟨_, rfl, Nat.le_of_ble_eq_true rfl, fun a6 ha6 => ?_⟩⟩
  have s5 := same_upd (o := .lst ((as.map V.ref).take j ++ [V.ref od] ++ (as.map V.ref).drop j)) ha5
  have e5 : upd H4 a5 (.lst ((as.map V.ref).take j ++ [V.ref od] ++ (as.map V.ref).drop j)) a5 = some (.lst ((as.map V.ref).take j ++ [V.ref od] ++ (as.map V.ref).drop j)) := upd_same
  generalize upd H4 a5 (.lst ((as.map V.ref).take j ++ [V.ref od] ++ (as.map V.ref).drop j)) = H5 at s5 e5 ha6 ⊢
  have s6 := same_upd (o := .lst [V.ref la]) ha6
  have e6 : upd H5 a6 (.lst [V.ref la]) a6 = some (.lst [V.ref la]) := upd_same
  have e56 := s6 _ _ e5
  generalize upd H5 a6 (.lst [V.ref la]) = H6 at s6 e6 e56 ⊢
  refine ⟨a5, a6, _, _, rfl, rfl, e56, e6, Nat.le_of_lt (small1000 (by simp [hM.1]; omega)), fun mx hmx => ?_⟩
  obtain ⟨asX, eX⟩ : ∃ asX : List Addr, asX = ((as.take j ++ [od]) ++ as.drop j) ++ [la] := ⟨_, rfl⟩
  have eV : (as.map V.ref).take j ++ [V.ref od] ++ (as.map V.ref).drop j ++ [V.ref la] = asX.map V.ref := by rw [eX]; simp [List.map_take, List.map_drop]
  rw [eV]
  have lX : asX.length = ms.length + 2 := by rw [eX]; simp [hM.1]; omega
  have s7 := same_upd (o := .lst (asX.map V.ref)) hmx
  have e7 : upd H6 mx (.lst (asX.map V.ref)) mx = some (.lst (asX.map V.ref)) := upd_same
  generalize upd H6 mx (.lst (asX.map V.ref)) = H7 at s7 e7 ⊢
  have s07 : Same H H7 := s03.trans (s4.trans (s5.trans (s6.trans s7)))
  have mw : MkW K C CM H7 asX ((((List.replicate ms.length ws).take j ++ [us]) ++ (List.replicate ms.length ws).drop j) ++ [[moreW ws ++ "0"]]) := by
    have h0 := MkW.of (hM.same s07) okw
    rw [eX]
    exact (((h0.take j).app (.one (hod.same s07))).app (h0.drop j)).app (.one (hla.same s07))
  -- mixed[:6]
  refine ⟨_, rfl, 6, rfl, mx, _, rfl, SqL.of e7, fun b1 hb1 => ?_⟩
  rw [show cutV (asX.map V.ref) none (some 6) = (asX.take 6).map V.ref by rw [List.map_take]; exact cut_toA (i := 6)]
  have s8 := same_upd (o := .lst ((asX.take 6).map V.ref)) hb1
  have e8 : upd H7 b1 (.lst ((asX.take 6).map V.ref)) b1 = some (.lst ((asX.take 6).map V.ref)) := upd_same
  generalize upd H7 b1 (.lst ((asX.take 6).map V.ref)) = H8 at s8 e8 ⊢
  refine ⟨b1, asX.take 6, _, rfl, SqL.of e8, by rw [List.length_take]; omega, .inr ⟨by rw [List.length_take]; omega, (mw.take 6).same s8, j, ws, us, odd1_of j1 jM m5 hne, fun p t0 tn H9 s9 h0 hn ep => ?_⟩⟩
  have s09 := s07.trans (s8.trans s9)
  refine ⟨_, rfl, dl, _, rfl, .inl ⟨SqL.of (s09 _ _ hdl), fun td htd => ⟨_, rfl, Nat.le_of_ble_eq_true rfl, fun q hq => ?_⟩⟩⟩
  have s10 := same_upd (o := .tup (ws.map V.str)) htd
  have s11 := same_upd (o := .tup [V.str "deeds", V.ref td, V.ref ts]) hq
  have s1011 := s10.trans s11
  refine ⟨dFD ws us, dFD ws us, dFD_p (s1011 _ _ ep) (h0.sq.ext s1011) (hn.sq.ext s1011), dFD_p upd_same (SqT.of (s11 _ _ upd_same)) ((hts.same (s09.trans s1011)).sq), dFD_s okw oku, dFD_s okw oku, _, rfl, ?_⟩
  rw [PySem.SeqAt.eqv_refl _ (dFD_l okw oku)]
  refine iteF ?_
  have s011 := s09.trans s1011
  have e7' := ((s8.trans s9).trans s1011) _ _ e7
  generalize upd (upd H9 td (.tup (ws.map V.str))) q (.tup [V.str "deeds", V.ref td, V.ref ts]) = G1 at s011 e7' ⊢
  clear s11
  -- (mixed * 7)[:7 + at]
  refine ⟨_, rfl, mx, 7, _, rfl, rfl, e7', by decide, by decide, Nat.le_of_lt (small1000 (by rw [List.length_map, lX]; show _ * 7 ≤ _; omega)), fun r1 hr1 => ?_⟩
  obtain ⟨asR, eR⟩ : ∃ asR : List Addr, asR = (List.replicate 7 asX).flatten := ⟨_, rfl⟩
  have eVR : (List.replicate (Int.toNat 7) (asX.map V.ref)).flatten = asR.map V.ref := by
    rw [eR, List.map_flatten, List.map_replicate]; rfl
  have lR : asR.length = 7 * (ms.length + 2) := by rw [eR, List.length_flatten, List.map_replicate, List.sum_replicate_nat, lX]
  rw [eVR]
  have s12 := same_upd (o := .lst (asR.map V.ref)) hr1
  have e12R : upd G1 r1 (.lst (asR.map V.ref)) r1 = some (.lst (asR.map V.ref)) := upd_same
  generalize upd G1 r1 (.lst (asR.map V.ref)) = G2 at s12 e12R ⊢
  refine ⟨_, rfl, _, _, rfl, rfl, (7 + (j : Int)), rfl, r1, _, rfl, SqL.of e12R, fun r2 hr2 => ?_⟩
  have ej : (7 + (j : Int)) = ((7 + j : Nat) : Int) := by omega
  rw [show cutV (asR.map V.ref) none (some (7 + (j : Int))) = (asR.take (7 + j)).map V.ref by rw [List.map_take, ej]; exact cut_toA]
  have l2 : (asR.take (7 + j)).length = 7 + j := by rw [List.length_take, lR]; omega
  have s13 := same_upd (o := .lst ((asR.take (7 + j)).map V.ref)) hr2
  have e13 : upd G2 r2 (.lst ((asR.take (7 + j)).map V.ref)) r2 = some (.lst ((asR.take (7 + j)).map V.ref)) := upd_same
  generalize upd G2 r2 (.lst ((asR.take (7 + j)).map V.ref)) = G3 at s13 e13 ⊢
  refine ⟨r2, asR.take (7 + j), [], rfl, SqL.of e13, by omega, .inl ⟨by omega, fun p G4 s14 ep => ?_⟩⟩
  refine ⟨_, rfl, _, _, rfl, rfl, Nat.le_of_ble_eq_true rfl, fun q hq => ?_⟩
  rw [l2] at ep
  have s15 := same_upd (o := .tup [V.str "many", V.str "marks", V.int (7 + (j : Int)), V.int 6]) hq
  rw [← ej] at ep
  refine ⟨dFM (7 + (j : Int)), dFM (7 + (j : Int)), dFM_p (s15 _ _ ep), dFM_p upd_same, dFM_s _, dFM_s _, ?_⟩
  rw [PySem.SeqAt.eqv_refl _ (dFM_l _)]
  exact done _ (s011.trans (s12.trans (s13.trans (s14.trans s15))))
end
end K1
set_option Elab.async false
set_option linter.all false
set_option maxRecDepth 100000
set_option maxHeartbeats 1000000
/-! _law_lots_refused -/
namespace K1
open PySem L2 LamX OwnT
section
variable {P : Program} {w : World} {K : PySem.W.Frag} {mg : Str → Option Value} {base : Heap} {C CM CL : Addr}
theorem lref_mid (F : Rf P w K mg base C CM CL) (f : Addr) (cdv : Value) (A : Around) (outer : List Env) (s : Shared) (H0 : Hp) (E : XK) (hr : Room 7 (A.deeper (PyProof.Rows.envOfC "_law_lots_refused" (defScope sLRef) s.heap.objs.size f cdv))) :
    ∃ t, PSs (cxOf CX0 P w K mg base nLRef "_law_lots_refused" (defScope sLRef) f cdv A outer s H0 E).nox ((defBody sLRef).drop 4) t ∧
      ∀ (D : Ends) (H : Hp) (v4 : Option V) (d c dl l ts : Addr) (n : Nat) (ws us : List Str) (ms : List Pm) (lw : Nat),
        Rz K H d c n dl l ws ms → SqF H ts (us.map V.str) → GoodD us → us ≠ ws → Dz ws lw → 1 ≤ ms.length → ms.length ≤ 5 → (∀ m ∈ ms, PmOk ws m) → n ≤ 750000 →
        (∀ H' n', Kept d H H' → PenAt H' d c n' → n' ≤ n + 820 → D.rt (.bl true) H') → t D [some (.ref d), some (.ref dl), some (.ref l), some (.str (moreW ws)), v4, some (.ref ts), none, none, none, none, none, none, none] H := by
  obtain ⟨t8, ht8, hq8⟩ := lref_end F f cdv A outer s H0 E hr
  obtain ⟨T2, MK, ⟨fD, fdD, DD, GD⟩, _, ⟨fP, fdP, DP, GP⟩, ⟨fM, fdM, DM, GM⟩, ⟨fK, fdK, MkK, bK, GK⟩, _⟩ := F
  have T1 : Bt mg := T2.toBt
  have hr1 : Room 1 (cxOf CX0 P w K mg base nLRef "_law_lots_refused" (defScope sLRef) f cdv A outer s H0 E).nox.A := hr.mono (by decide)
  have hr2 : Room 2 (cxOf CX0 P w K mg base nLRef "_law_lots_refused" (defScope sLRef) f cdv A outer s H0 E).nox.A := hr.mono (by decide)
  have hr3 : Room 3 (cxOf CX0 P w K mg base nLRef "_law_lots_refused" (defScope sLRef) f cdv A outer s H0 E).nox.A := hr.mono (by decide)
  refine ⟨_, pss_cons (ps_set (i := 6) scLRef.nd rfl (Or.inl rfl) (pe_make MkK GK hr2 rfl MK.mgC bK .nil pass0 (pa_cons (pe_call GM hr rfl DM.g DM.F.kp DM.b .nil pass0 (pa_cons (pe_call GP hr3 rfl DP.g DP.F.kp DP.b .nil pass0 (pa_cons (pv 0) (pa_cons (pv 5) (pa_cons pe_int (pa_cons (pe_lst (pa_cons pe_str (pa_cons pe_str pa_nil))) pa_nil))))) pa_nil)) (pa_cons pe_str pa_nil))))
      (pss_cons (ps_setLc (i := 7) (own := [("_law_plain_here", 11), ("_law_rule", 12)]) (g := gTup K 2 (gCons (gName 11) (gCons (gName 12) gNil))) (by rfl) scLRef.nd rfl rfl (sw_true rfl rfl rfl (by decide +kernel)) (pi_list (pv 2))
          (blkOk_by (own := [("_law_plain_here", 11), ("_law_rule", 12)]) (N := nLRef) (sc := defScope sLRef) (by decide +kernel)) (fun _ _ _ _ _ => pg_tup (by rfl) (pgs_cons (pg_name (i := 11) scLRef.nd rfl (Or.inl rfl)) (pgs_cons (pg_name (i := 12) scLRef.nd rfl (Or.inl rfl)) pgs_nil))) (fun _ _ _ _ _ => pts_nil)
          (fun _ _ _ _ _ => pe_make MkK GK hr2 rfl MK.mgC bK .nil pass0 (pa_cons (pe_call GM hr rfl DM.g DM.F.kp DM.b .nil pass0 (pa_cons (pv 11) pa_nil)) (pa_cons (pv 12) pa_nil))))
      (pss_cons (ps_set (i := 8) scLRef.nd rfl (Or.inl rfl) (pe_op op_add pe_int (pe_call GD hr1 rfl DD.g DD.F.kp DD.b .nil pass0 (pa_cons (pv 0) (pa_cons (pe_callB call_len (by rfl) T1.len PySem.boot_len (pa_cons (pv 7) pa_nil)) pa_nil)))))
      (pss_cons (ps_set (i := 9) scLRef.nd rfl (Or.inl rfl) (pe_make MkK GK hr2 rfl MK.mgC bK .nil pass0 (pa_cons (pe_call GM hr rfl DM.g DM.F.kp DM.b .nil pass0 (pa_cons (pe_call GP hr3 rfl DP.g DP.F.kp DP.b .nil pass0 (pa_cons (pv 0) (pa_cons (pe_tupF (pa_cons (pe_op op_add_str (pv 3) pe_str) pa_nil)) (pa_cons pe_int (pa_cons (pe_lst (pa_cons pe_str (pa_cons pe_str pa_nil))) pa_nil))))) pa_nil)) (pa_cons pe_str pa_nil))))
        ht8))), ?_⟩
  intro D H v4 d c dl l ts n ws us ms lw rz hts gu hne dz m1 m5 pm hn done
  obtain ⟨kv0, hd0⟩ := rz.pen.dk
  -- odd
  refine ⟨_, rfl, _, rfl, Nat.le_of_ble_eq_true rfl, fun lm hlm => ?_⟩
  have s1 := same_upd (o := .lst [V.str "x", V.str "y"]) hlm
  have e1 : upd H lm (.lst [V.str "x", V.str "y"]) lm = some (.lst (menu2.map V.str)) := upd_same
  have nlm := (rz.pen.ne hlm).1
  have r1 := rz.same s1
  have hts1 := hts.same s1
  generalize upd H lm (.lst [V.str "x", V.str "y"]) = H1 at s1 e1 r1 hts1 ⊢
  obtain ⟨kv1, hd1⟩ := r1.pen.dk
  refine ⟨d, c, ts, lm, n, 3, us, menu2, rfl, r1.pen, by omega, hts1, ?_, by have := gu.len; omega, SqL.of e1, nlm, by decide, by decide, by decide, by decide, fun p rs ss st H2 hp0 pl gp p2 k2 => ?_⟩
  · obtain ⟨o, h, _⟩ := hts1
    exact ne_of h hd1 (by intro z; cases z)
  have pt2 := Parts.of2 gu gp
  have r2 := r1.kept k2 p2
  refine ⟨p, us, rs, ss, st, rfl, pl, pt2, fun x H3 hx0 mac s3 => ?_⟩
  intro od dod hod0 hdod nd3
  have pre3 := made_pre (C := CM) hod0 hdod
  refine ⟨od, dod, x, _, rfl, upd_same, (by decide +kernel : ("kept" : Str) ∈ rules), fun H4 e4 k4 => ⟨rfl, ?_⟩⟩
  have s34 := s3.trans (made_same hod0 hdod k4)
  have hod4 : OddAt K C CM H4 od us := ⟨gu, ⟨rs, ss, st, "kept"⟩, dod, x, e4, mac.same (made_same hod0 hdod k4)⟩
  have r4 := r2.same s34
  have k04 : Kept d H H4 := (Kept.same s1).trans (k2.trans (Kept.same s34))
  have hts4 : SqF H4 ts (us.map V.str) := k04.seqF hd0 (fun o ys e => by cases e) hts
  obtain ⟨kv4, hd4⟩ := r4.pen.dk
  -- marks
  obtain ⟨qs, hl4, hL4⟩ := id r4.lot
  refine ⟨_, rfl, l, rfl, ⟨_, SqL.of hl4⟩, fun D1 hD1 => ?_⟩
  refine lc_list (K := K) (a := l) (xs := qs.map V.ref) (fun i H' => ∃ as : List Addr, Same H4 H' ∧ H' D1 = some (.lst (as.map V.ref)) ∧ MarksAt K C CM H' as ws (ms.take i)) ?_ ?_ ?_ ?_
  · exact ⟨[], same_upd hD1, upd_same, ⟨by simp, fun i a m e => by simp at e⟩⟩
  · rintro i H' _ ⟨as, sm, _⟩
    exact SqL.of (sm _ _ hl4)
  · rintro i y H5 hi ⟨as, sm, hD, hM⟩
    rw [List.getElem?_map] at hi
    obtain ⟨t, et, rfl⟩ := Option.map_eq_some_iff.mp hi
    have hil : i < ms.length := by rw [← hL4.1]; exact (List.getElem?_eq_some_iff.mp et).1
    obtain ⟨t', p5, et', em, npd, g1, g2⟩ := hL4.get hil
    rw [et] at et'; cases et'
    have pmi := pm _ (List.getElem_mem hil)
    refine ⟨t, _, rfl, SqT.of (sm _ _ g1), rfl, _, _, rfl, _, _, rfl, rfl, rfl, ⟨_, rfl, p5, ws, _, _, _, rfl, g2.same sm, pmi.pt, fun x5 H6 hx5 mac5 s6 => ?_⟩⟩
    refine ⟨_, rfl, fun a da ha hda nda => ?_⟩
    have pre := made_pre (C := CM) ha hda
    refine ⟨a, da, x5, _, rfl, upd_same, pmi.ru, fun H7 e7 k7 => ⟨rfl, ?_⟩⟩
    have s7 := made_same ha hda k7
    have s57 := s6.trans s7
    have hD7 := s57 _ _ hD
    refine ⟨_, hD7, ?_, as ++ [a], ?_, ?_, ?_⟩
    · rw [List.length_map, hM.1, List.length_take]; exact small1000 (by omega)
    · exact fun b u e => by rw [upd_ne (ne_of_none e hD1)]; exact s57 _ _ (sm b u e)
    · rw [upd_same, List.map_append]; rfl
    · have e : ms.take (i + 1) = ms.take i ++ [ms[i]] := by rw [List.take_add_one, em]; rfl
      rw [e]
      exact ((hM.same s57).snoc ⟨da, x5, e7, mac5.same s7⟩).upL hD7
  rintro H5 ⟨as, s5, hD5, hM5⟩
  rw [List.length_map, hL4.1, List.take_length] at hM5
  have r5 := r4.same s5
  have n1d := (r4.pen.ne hD1).1
  have hod5 := hod4.same s5
  have hts5 := hts4.same s5
  obtain ⟨kv5, hd5⟩ := r5.pen.dk
  -- at
  refine ⟨_, rfl, _, rfl, _, ms.length, rfl, .inl ⟨_, SqL.of hD5, by rw [List.length_map, hM5.1]⟩, d, c, _, (ms.length : Int), rfl, r5.pen, by omega, by omega, by omega, fun a0 H6 a00 a01 p6 k6 => ⟨_, _, rfl, rfl, ?_⟩⟩
  obtain ⟨j, ej, j1, jM⟩ : ∃ j : Nat, 1 + a0 = (j : Int) ∧ 1 ≤ j ∧ j ≤ ms.length := ⟨(1 + a0).toNat, by omega, by omega, by omega⟩
  simp only [ej]
  have r6 := r5.kept k6 p6
  have hD6 := k6 _ _ hD5 n1d
  have hM6 := hM5.kn hd5 k6.n
  have hod6 := hod5.kn hd5 k6.n
  have hts6 : SqF H6 ts (us.map V.str) := k6.seqF hd5 (fun o ys e => by cases e) hts5
  obtain ⟨kv6, hd6⟩ := r6.pen.dk
  -- later
  refine ⟨_, rfl, _, rfl, _, _, rfl, rfl, ?_, Nat.le_of_ble_eq_true rfl, fun tl ob htl hob => ⟨Nat.le_of_ble_eq_true rfl, fun lm2 hlm2 => ?_⟩⟩
  · have h1 := dz.more_len
    have h2 := dz.l7
    have h3 : ("0" : Str).length = 1 := by decide +kernel
    rw [h3]
    have : (moreW ws).length = (moreW ws).cps.toList.length := by simp [Str.length]
    rw [this, h1]
    exact Nat.le_of_lt (small1000 (by omega))
  have s7 := same_upd (o := .frz ob (.tup [V.str (moreW ws ++ "0")])) htl
  have s8 := same_upd (o := .lst [V.str "x", V.str "y"]) hlm2
  have e7 : SqF (upd H6 tl (.frz ob (.tup [V.str (moreW ws ++ "0")]))) tl ([moreW ws ++ "0"].map V.str) := sqF_new hob
  have e7' := e7.same s8
  have e8 : upd (upd H6 tl (.frz ob (.tup [V.str (moreW ws ++ "0")]))) lm2 (.lst [V.str "x", V.str "y"]) lm2 = some (.lst (menu2.map V.str)) := upd_same
  have s68 := s7.trans s8
  have r8 := r6.same s68
  have nlm2 := ((r6.same s7).pen.ne hlm2).1
  have hD8 := s68 _ _ hD6
  have hM8 := hM6.same s68
  have hod8 := hod6.same s68
  have hts8 := hts6.same s68
  generalize upd (upd H6 tl (.frz ob (.tup [V.str (moreW ws ++ "0")]))) lm2 (.lst [V.str "x", V.str "y"]) = H8 at s68 e7' e8 r8 hD8 hM8 hod8 hts8 ⊢
  clear e7 s8
  obtain ⟨kv8, hd8⟩ := r8.pen.dk
  have gl : GoodD [moreW ws ++ "0"] := ⟨by simp, fun z hz => by rw [List.mem_singleton.mp hz]; exact dz.more0_wd, by simp, by simp⟩
  refine ⟨d, c, tl, lm2, _, 3, [moreW ws ++ "0"], menu2, rfl, r8.pen, by omega, e7', ?_, by simp, SqL.of e8, nlm2, by decide, by decide, by decide, by decide, fun p9 rs9 ss9 st9 H9 hp90 pl9 gp9 p9' k9 => ?_⟩
  · obtain ⟨o, h, _⟩ := e7'
    exact ne_of h hd8 (by intro z; cases z)
  have pt9 := Parts.of2 gl gp9
  have r9 := r8.kept k9 p9'
  refine ⟨p9, _, rs9, ss9, st9, rfl, pl9, pt9, fun x9 H10 hx90 mac9 s10 => ?_⟩
  intro la dla hla0 hdla nd10
  have pre10 := made_pre (C := CM) hla0 hdla
  refine ⟨la, dla, x9, _, rfl, upd_same, (by decide +kernel : ("cleared" : Str) ∈ rules), fun H11 e11 k11 => ⟨rfl, ?_⟩⟩
  have s911 := s10.trans (made_same hla0 hdla k11)
  have hla11 : OddAt K C CM H11 la [moreW ws ++ "0"] := ⟨gl, ⟨rs9, ss9, st9, "cleared"⟩, dla, x9, e11, mac9.same (made_same hla0 hdla k11)⟩
  have k811 : Kept d H8 H11 := k9.trans (Kept.same s911)
  have r11 := r9.same s911
  refine hq8 D H11 _ _ _ _ none none dl ts od D1 la j ws us ms as lw r11.hdl (k811.seqF hd8 (fun o ys e => by cases e) hts8) hne (hod8.kn hd8 k811.n) hla11 (k811 _ _ hD8 n1d) (hM8.kn hd8 k811.n) dz j1 jM m5 fun H12 s12 => ?_
  exact done H12 _ ((k04.trans ((Kept.same s5).trans (k6.trans ((Kept.same s68).trans k811)))).trans (Kept.same s12)) (r11.pen.same s12) (by omega)
theorem ok_lref (F : Rf P w K mg base C CM CL) {f : Addr} {fd : FuncData} (D : Df K mg "_law_lots_refused" sLRef pLRef f fd) : FnOk P w K mg base CX0 8 f fd pLRef (spLRef K) := by
  refine D.F.ok scLRef (fun vs H Q E h => ?_) (fun cdv A outer s H vs Q E hr h => ?_)
  · obtain ⟨d, c, dl, l, n, ws, ms, lw, rfl, _⟩ := h
    rfl
  · obtain ⟨d, c, dl, l, n, ws, ms, lw, rfl, hp, hn, hdl, hL, dz, m1, m5, pm, k⟩ := h
    obtain ⟨t4, ht4, hq4⟩ := lref_mid F f cdv A outer s H E hr
    obtain ⟨T2, MK, _, ⟨fK, fdK, DK, GK⟩, _, _, _, _⟩ := F
    have T1 : Bt mg := T2.toBt
    have hr2 : Room 2 (cxOf CX0 P w K mg base nLRef "_law_lots_refused" (defScope sLRef) f cdv A outer s H E).nox.A := hr.mono (by decide)
    -- from the pick on
    obtain ⟨t3, ht3, hq3⟩ : ∃ t3, PSs (cxOf CX0 P w K mg base nLRef "_law_lots_refused" (defScope sLRef) f cdv A outer s H E).nox ((defBody sLRef).drop 3) t3 ∧ ∀ (D : Ends) (H1 : Hp) (lo : Addr) (os : List Addr), Same H H1 → H1 lo = some (.lst (os.map V.ref)) → (∀ t ∈ os, Alt H1 ws t) → 0 < os.length → os.length ≤ 10 → D.rt = Q →
        t3 D [some (.ref d), some (.ref dl), some (.ref l), some (.str (moreW ws)), some (.ref lo), none, none, none, none, none, none, none, none] H1 := by
      refine ⟨_, pss_cons (ps_set (i := 5) scLRef.nd rfl (Or.inl rfl) (pe_call GK hr2 rfl DK.g DK.F.kp DK.b .nil pass0 (pa_cons (pv 0) (pa_cons (pv 4) pa_nil)))) ht4, ?_⟩
      intro D H1 lo os s1 hlo hos o1 o2 eD
      have p1 := hp.same s1
      obtain ⟨kv1, hd1⟩ := p1.dk
      refine ⟨_, rfl, _, rfl, d, c, lo, n, _, rfl, p1, by omega, ne_of hlo hd1 (by intro z; cases z), SqL.of hlo, by rw [List.length_map]; exact o1, by rw [List.length_map]; omega, fun x H2 hx p2 k2 => ?_⟩
      obtain ⟨ts, hts, rfl⟩ := List.mem_map.mp hx
      obtain ⟨us, h1, h2, h3⟩ := hos ts hts
      have rz : Rz K H2 d c (n + 1) dl l ws ms := (Rz.mk (K := K) p1 (s1 _ _ hdl) (hL.same s1)).kept k2 p2
      refine hq4 D H2 _ d c dl l ts (n + 1) ws us ms lw rz (k2.seqF hd1 (fun o ys e => by cases e) h1) h2 h3 dz m1 m5 pm (by omega) fun H3 n3 k3 p3 hn3 => ?_
      rw [eD]
      exact k H3 n3 (((Kept.same s1).trans k2).trans k3) p3 (by omega)
    refine ⟨_, pss_cons (ps_set (i := 3) scLRef.nd rfl (Or.inl rfl) (pe_op op_add_str (pe_ix (r := rIxL K) ix_list (pv 1) pe_int (fun _ _ => rfl)) pe_str))
      (pss_cons (ps_set (i := 4) scLRef.nd rfl (Or.inl rfl) (pe_lst (pa_cons (pe_op (r := rCatF K) op_catF (pe_callTy (r := rTuF K) call_tuple_F (by rfl) T1.tuple (by decide +kernel) (pa_cons (pv 1) pa_nil)) (pe_tupF (pa_cons (pv 3) pa_nil)))
          (pa_cons (pe_op (r := rCatF K) op_catF (pe_callTy (r := rTuF K) call_tuple_F (by rfl) T1.tuple (by decide +kernel) (pa_cons (pe_slice (r := rSlL K) sl_list (pv 1) po_none (po_some (pe_un un_neg pe_int))) pa_nil)) (pe_tupF (pa_cons (pv 3) pa_nil)))
          (pa_cons (pe_op (r := rCatF K) op_catF (pe_callTy (r := rTuF K) call_tuple_F (by rfl) T1.tuple (by decide +kernel) (pa_cons (pe_revL (pv 1)) pa_nil)) (pe_tupF (pa_cons (pv 3) pa_nil))) pa_nil)))))
      (pss_cons (ps_if (pt_cmpR op_gt (pe_callB call_len (by rfl) T1.len PySem.boot_len (pa_cons (pv 1) pa_nil)) pe_int (nomark _))
          (pss_one (ps_set (i := 4) scLRef.nd rfl (Or.inl rfl) (pe_op op_cat (pv 4) (pe_lst (pa_cons (pe_callTy (r := rTuF K) call_tuple_F (by rfl) T1.tuple (by decide +kernel) (pa_cons (pe_revL (pv 1)) pa_nil))
            (pa_cons (pe_callTy (r := rTuF K) call_tuple_F (by rfl) T1.tuple (by decide +kernel) (pa_cons (pe_slice (r := rSlL K) sl_list (pv 1) (po_some pe_int) po_none) pa_nil)) pa_nil)))))) pss_nil)
        ht3)), ?_⟩
    have wl := dz.gd.len
    have l3 := dz.l3
    have wn : (ws.map V.str).length = ws.length := List.length_map _
    have w0l : (ws.getD 0 "").length = lw := by
      have := dz.eq _ dz.w0
      simpa [Str.length] using this
    refine ⟨_, rfl, dl, _, 0, _, rfl, rfl, SqL.of hdl, at_deed (k := 0) (by decide) (by omega), _, _, rfl, rfl, ?_, ?_⟩
    · have h1 : ("000" : Str).length = 3 := by decide +kernel
      rw [h1]
      show (ws.getD 0 "").length + 3 ≤ sizeLine
      rw [w0l]
      exact Nat.le_of_lt (small1000 (by have := dz.l7; omega))
    have one : ∀ {G : Hp} {b : Addr} {o : Obj}, o.dict = none → SqF (upd G b (.frz o (.tup [V.str (moreW ws)]))) b ([moreW ws].map V.str) := fun ho => sqF_new ho
    have sn : ∀ {us : List Str}, (us.map V.str) ++ ([moreW ws].map V.str) = (us ++ [moreW ws]).map V.str := fun {us} => by rw [List.map_append]
    -- the first
    refine ⟨_, rfl, dl, _, rfl, .inl ⟨SqL.of hdl, fun a1 o1 ha1 ho1 => ⟨_, rfl, Nat.le_of_ble_eq_true rfl, fun a2 o2 ha2 ho2 => ?_⟩⟩⟩
    have s1 := same_upd (o := .frz o1 (.tup (ws.map V.str))) ha1
    have f1 : SqF (upd H a1 (.frz o1 (.tup (ws.map V.str)))) a1 (ws.map V.str) := sqF_new ho1
    generalize upd H a1 (.frz o1 (.tup (ws.map V.str))) = H1 at s1 f1 ha2 ⊢
    have s2 := same_upd (o := .frz o2 (.tup [V.str (moreW ws)])) ha2
    refine catF_any (f1.same s2).sq (one ho2).sq (fun e => by cases e) (fun _ => one ho2) (by simp; omega) fun c1 H3 hc1 s3 => ?_
    rw [sn] at hc1
    have A1 : Alt H3 ws c1 := ⟨_, hc1, dz.snoc (fun z hz => hz) dz.gd.nd l3, dz.snoc_ne⟩
    have s03 := s1.trans (s2.trans s3)
    clear s2
    -- the second
    refine ⟨_, rfl, 1, rfl, -1, rfl, dl, _, rfl, SqL.of (s03 _ _ hdl), fun b1 hb1 => ?_⟩
    rw [cut_but (by rw [wn]; omega), wn, ← List.map_take]
    have s4 := same_upd (o := .lst ((ws.take (ws.length - 1)).map V.str)) hb1
    have e4 : upd H3 b1 (.lst ((ws.take (ws.length - 1)).map V.str)) b1 = some (.lst ((ws.take (ws.length - 1)).map V.str)) := upd_same
    generalize upd H3 b1 (.lst ((ws.take (ws.length - 1)).map V.str)) = H4 at s4 e4 ⊢
    refine ⟨b1, _, rfl, .inl ⟨SqL.of e4, fun a5 o5 ha5 ho5 => ⟨_, rfl, Nat.le_of_ble_eq_true rfl, fun a6 o6 ha6 ho6 => ?_⟩⟩⟩
    have s5 := same_upd (o := .frz o5 (.tup ((ws.take (ws.length - 1)).map V.str))) ha5
    have f5 : SqF (upd H4 a5 (.frz o5 (.tup ((ws.take (ws.length - 1)).map V.str)))) a5 ((ws.take (ws.length - 1)).map V.str) := sqF_new ho5
    generalize upd H4 a5 (.frz o5 (.tup ((ws.take (ws.length - 1)).map V.str))) = H5 at s5 f5 ha6 ⊢
    have s6 := same_upd (o := .frz o6 (.tup [V.str (moreW ws)])) ha6
    refine catF_any (f5.same s6).sq (one ho6).sq (fun e => by cases e) (fun _ => one ho6) (by simp; omega) fun c2 H7 hc2 s7 => ?_
    rw [sn] at hc2
    have A2 : Alt H7 ws c2 := ⟨_, hc2, dz.snoc (fun z hz => List.mem_of_mem_take hz) (dz.gd.nd.sublist (List.take_sublist _ _)) (by rw [List.length_take]; omega), dz.snoc_ne⟩
    have s37 := s4.trans (s5.trans (s6.trans s7))
    have s07 := s03.trans s37
    clear s6
    -- the third
    refine ⟨_, rfl, dl, _, rfl, SqL.of (s07 _ _ hdl), fun b2 hb2 => ?_⟩
    rw [← List.map_reverse]
    have s8 := same_upd (o := .lst (ws.reverse.map V.str)) hb2
    have e8 : upd H7 b2 (.lst (ws.reverse.map V.str)) b2 = some (.lst (ws.reverse.map V.str)) := upd_same
    generalize upd H7 b2 (.lst (ws.reverse.map V.str)) = H8 at s8 e8 ⊢
    refine ⟨b2, _, rfl, .inl ⟨SqL.of e8, fun a9 o9 ha9 ho9 => ⟨_, rfl, Nat.le_of_ble_eq_true rfl, fun a10 o10 ha10 ho10 => ?_⟩⟩⟩
    have s9 := same_upd (o := .frz o9 (.tup (ws.reverse.map V.str))) ha9
    have f9 : SqF (upd H8 a9 (.frz o9 (.tup (ws.reverse.map V.str)))) a9 (ws.reverse.map V.str) := sqF_new ho9
    generalize upd H8 a9 (.frz o9 (.tup (ws.reverse.map V.str))) = H9 at s9 f9 ha10 ⊢
    have s10 := same_upd (o := .frz o10 (.tup [V.str (moreW ws)])) ha10
    refine catF_any (f9.same s10).sq (one ho10).sq (fun e => by cases e) (fun _ => one ho10) (by simp; omega) fun c3 H11 hc3 s11 => ?_
    rw [sn] at hc3
    have hpm : ws.reverse.Perm ws := List.reverse_perm ws
    have A3 : Alt H11 ws c3 := ⟨_, hc3, dz.snoc (fun z hz => hpm.mem_iff.mp hz) (hpm.nodup_iff.mpr dz.gd.nd) (by rw [List.length_reverse]; exact l3), dz.snoc_ne⟩
    have s711 := s8.trans (s9.trans (s10.trans s11))
    clear s10
    refine ⟨Nat.le_of_ble_eq_true rfl, fun lo hlo => ?_⟩
    have s12 := same_upd (o := .lst [V.ref c1, V.ref c2, V.ref c3]) hlo
    have e12 : upd H11 lo (.lst [V.ref c1, V.ref c2, V.ref c3]) lo = some (.lst ([c1, c2, c3].map V.ref)) := upd_same
    have B3 := A3.same s12
    have B2 := A2.same (s711.trans s12)
    have B1 := A1.same ((s37.trans s711).trans s12)
    have s012 := (s07.trans s711).trans s12
    generalize upd H11 lo (.lst [V.ref c1, V.ref c2, V.ref c3]) = H12 at e12 B1 B2 B3 s012 ⊢
    clear s12
    have B : ∀ t ∈ [c1, c2, c3], Alt H12 ws t := fun t ht => by
      simp only [List.mem_cons, List.not_mem_nil, or_false] at ht
      rcases ht with rfl | rfl | rfl
      · exact B1
      · exact B2
      · exact B3
    refine ⟨_, rfl, _, ws.length, rfl, .inl ⟨_, SqL.of (s012 _ _ hdl), wn.symm⟩, _, _, rfl, rfl, _, rfl, ?_⟩
    refine ite2 (fun h2 => ?_) (fun _ => ?_)
    · have h2' : 2 ≤ ws.length := by have := of_decide_eq_true h2; omega
      refine ⟨_, rfl, _, rfl, dl, _, rfl, SqL.of (s012 _ _ hdl), fun b3 hb3 => ?_⟩
      rw [← List.map_reverse]
      have s13 := same_upd (o := .lst (ws.reverse.map V.str)) hb3
      have e13 : upd H12 b3 (.lst (ws.reverse.map V.str)) b3 = some (.lst (ws.reverse.map V.str)) := upd_same
      generalize upd H12 b3 (.lst (ws.reverse.map V.str)) = H13 at s13 e13 ⊢
      refine ⟨b3, _, rfl, .inl ⟨SqL.of e13, fun c4 o14 hc4 ho14 => ?_⟩⟩
      have s14 := same_upd (o := .frz o14 (.tup (ws.reverse.map V.str))) hc4
      have f14 : SqF (upd H13 c4 (.frz o14 (.tup (ws.reverse.map V.str)))) c4 (ws.reverse.map V.str) := sqF_new ho14
      generalize upd H13 c4 (.frz o14 (.tup (ws.reverse.map V.str))) = H14 at s14 f14 ⊢
      have A4 : Alt H14 ws c4 := ⟨_, f14, dz.rev h2'⟩
      have s014 := s012.trans (s13.trans s14)
      refine ⟨_, rfl, 1, rfl, ?_⟩
      try delta tNoPart
      show rSlL K (.ref dl) (some 1) none H14 _
      refine ⟨dl, _, rfl, SqL.of (s014 _ _ hdl), fun b5 hb5 => ?_⟩
      rw [show cutV (ws.map V.str) (some 1) none = (ws.drop 1).map V.str by rw [List.map_drop]; exact cut_fromA (i := 1) (by rw [wn]; omega)]
      have s15 := same_upd (o := .lst ((ws.drop 1).map V.str)) hb5
      have e15 : upd H14 b5 (.lst ((ws.drop 1).map V.str)) b5 = some (.lst ((ws.drop 1).map V.str)) := upd_same
      generalize upd H14 b5 (.lst ((ws.drop 1).map V.str)) = H15 at s15 e15 ⊢
      refine ⟨b5, _, rfl, .inl ⟨SqL.of e15, fun c5 o16 hc5 ho16 => ?_⟩⟩
      have s16 := same_upd (o := .frz o16 (.tup ((ws.drop 1).map V.str))) hc5
      have f16 : SqF (upd H15 c5 (.frz o16 (.tup ((ws.drop 1).map V.str)))) c5 ((ws.drop 1).map V.str) := sqF_new ho16
      generalize upd H15 c5 (.frz o16 (.tup ((ws.drop 1).map V.str))) = H16 at s16 f16 ⊢
      have A5 : Alt H16 ws c5 := ⟨_, f16, dz.tail h2'⟩
      refine ⟨Nat.le_of_ble_eq_true rfl, fun l2 hl2 => ?_⟩
      have s17 := same_upd (o := .lst [V.ref c4, V.ref c5]) hl2
      have s1417 := s15.trans (s16.trans s17)
      have s1217 := s13.trans (s14.trans s1417)
      refine ⟨lo, l2, _, _, rfl, rfl, s1217 _ _ e12, upd_same, Nat.le_of_ble_eq_true rfl, fun lp hlp => ?_⟩
      have s18 := same_upd (o := .lst ([c1, c2, c3].map V.ref ++ [V.ref c4, V.ref c5])) hlp
      have s1218 := s1217.trans s18
      refine hq3 _ _ lp [c1, c2, c3, c4, c5] (s012.trans s1218) upd_same (fun t ht => ?_) (by simp) (by simp) rfl
      simp only [List.mem_cons, List.not_mem_nil, or_false] at ht
      rcases ht with rfl | rfl | rfl | rfl | rfl
      · exact B1.same s1218
      · exact B2.same s1218
      · exact B3.same s1218
      · exact A4.same (s1417.trans s18)
      · exact A5.same (s17.trans s18)
    · exact hq3 _ H12 lo [c1, c2, c3] s012 e12 B (by simp) (by simp) rfl
end
end K1
set_option Elab.async false
set_option linter.all false
set_option maxRecDepth 100000
set_option maxHeartbeats 1000000
/-! k29's law: what it calls, a turn -/
namespace K1
open PySem L2 LamX OwnT
abbrev sLaw : Stmt := top 63
def forBody2 : Stmt → List Stmt
  | .For _ _ b _ _ => b
  | _ => []
abbrev lawBody : List Stmt := forBody2 (stOf sLaw 1)
abbrev nLaw : List Str := ["_law_script", "_law_pen_here", "_law_turn", "_law_deeds", "_law_lot_here", "_law_marks", "_law_made_here", "_law_twin", "_law_k", "_law_at", "_law_plain_here", "_law_rule", "_law_other", "_law_wrong"]
theorem scLaw : FnScope nLaw ["_law_script"] (defScope sLaw) := ⟨rfl, rfl, rfl, by decide +kernel, rfl, by decide +kernel, by decide +kernel⟩
/-- what the law calls -/
structure Fs (P : Program) (w : World) (K : PySem.W.Frag) (mg : Str → Option Value) (base : Heap) (C CM CL : Addr) : Prop where
  T2 : Bt2 mg
  M : Tm K mg C
  MK : Tk K mg CM
  ML : Tl2 K mg CL
  pen : ∃ f fd, Df K mg "_law_pen" sPen ["_law_script"] f fd ∧ FnOk P w K mg base CX0 1 f fd ["_law_script"] (spPen K)
  draw : ∃ f fd, Df K mg "_law_draw" sDraw pDraw f fd ∧ FnOk P w K mg base CX0 1 f fd pDraw spDraw
  pick : ∃ f fd, Df K mg "_law_pick" sPick pPick f fd ∧ FnOk P w K mg base CX0 2 f fd pPick (spPickL K)
  words : ∃ f fd, Df K mg "_law_words" sWords pDraw f fd ∧ FnOk P w K mg base CX0 3 f fd pDraw (spWords K)
  made : ∃ f fd, Df K mg "_law_made" sMade ["_law_plain_here"] f fd ∧ FnOk P w K mg base CX0 7 f fd ["_law_plain_here"] (spMade K C)
  lot : ∃ f fd, Df K mg "_law_lot" sLot pLot f fd ∧ FnOk P w K mg base CX0 4 f fd pLot (spLot K)
  lotm : ∃ f fd, Df K mg "_law_lot_made" sLotM ["_law_lot_here"] f fd ∧ FnOk P w K mg base CX0 8 f fd ["_law_lot_here"] (spLotM K C CM CL)
  begin_ : ∃ f fd, Df K mg "_law_begin" sBegin ["_law_lot_here"] f fd ∧ FnOk P w K mg base CX0 1 f fd ["_law_lot_here"] spBegin
  right : ∃ f fd, Df K mg "_law_mark_right" sMkR pMkR f fd ∧ FnOk P w K mg base CX0 6 f fd pMkR (spMkR K C CM)
  rulef : ∃ f fd, Df K mg "_law_rule_fault" sRuleF pRuleF f fd ∧ FnOk P w K mg base CX0 8 f fd pRuleF (spRuleF K)
  lref : ∃ f fd, Df K mg "_law_lots_refused" sLRef pLRef f fd ∧ FnOk P w K mg base CX0 8 f fd pLRef (spLRef K)
  mkK : ∃ f fd, Mk K CM f ∧ Binds K fd pKI [] ∧ FnOk P w K mg base CX0 1 f fd pKI (spKInit K CM)
  mkL : ∃ f fd, Mk K CL f ∧ Binds K fd pLI [] ∧ FnOk P w K mg base CX0 1 f fd pLI (spLInit K C CM CL)
  len : ∃ f fd, OwnL K CL f ∧ Binds K fd ["self"] [] ∧ FnOk P w K mg base CX0 1 f fd ["self"] (spLLen K C CM CL)
  get : ∃ f fd, PySem.W.findIn K (.ref CL) "__getitem__" = some (some (.ref f)) ∧ PySem.W.fnIn K f = true ∧ PySem.W.isFn K (.ref f) = true ∧ Binds K fd ["self", "at"] [] ∧ FnOk P w K mg base CX0 1 f fd ["self", "at"] (spLGet K C CM CL)
  keq : ∃ f fd, OwnE K CM f ∧ Binds K fd pEq [] ∧ FnOk P w K mg base CX0 2 f fd pEq (spEqB (KEqR K C CM))
  leq : ∃ f fd, OwnE K CL f ∧ Binds K fd pEq [] ∧ FnOk P w K mg base CX0 4 f fd pEq (spEqB (LEqR K C CM CL)) ∧ FnNI P w K mg base 1 f fd pEq (preNT CL)
  mlT : PySem.W.mroIn K CL (.type "tuple") = some false
theorem LotP.kn {d : Addr} {H H' : Hp} {kv : List (Key × V)} {l : Addr} {ws : List Str} {ms : List Pm} (h : LotP d H l ws ms) (hd : H d = some (.dK kv)) (k : KeptN d H H') : LotP d H' l ws ms := by
  obtain ⟨ts, h1, h2⟩ := h
  refine ⟨ts, k.lst (ne_of h1 hd (by intro z; cases z)) h1, h2.1, fun i t m e1 e2 => ?_⟩
  obtain ⟨p, n, g1, g2⟩ := h2.2 i t m e1 e2
  exact ⟨p, n, k.tup (ne_of g1 hd (by intro z; cases z)) g1, g2.kn hd n k⟩
theorem seqT_pen {K : PySem.W.Frag} {d : Addr} {kv : List (Key × V)} {H H' : Hp} {a : Addr} {xs : List V} (h : SqT K H a xs) (hd : H d = some (.dK kv)) (e : KeptN d H H') : SqT K H' a xs := by
  rcases h with (h | ⟨o, h⟩) | h
  · exact .inl (.inl (e.tup (ne_of h hd (by intro z; cases z)) h))
  · exact .inl (.inr ⟨o, e _ _ h (ne_of h hd (by intro z; cases z)) fun ps => by intro z; cases z⟩)
  · exact .inr h
theorem LotAt.kn {K : PySem.W.Frag} {C CM CL d : Addr} {kv : List (Key × V)} {H H' : Hp} {x : Addr} {ws : List Str} {ms : List Pm} (h : LotAt K C CM CL H x ws ms) (hd : H d = some (.dK kv)) (k : KeptN d H H') : LotAt K C CM CL H' x ws ms := by
  obtain ⟨dx, q, b, as, h1, h2, h3, h4⟩ := h
  exact ⟨dx, q, b, as, k.ins (ne_of h1 hd (by intro z; cases z)) h1, k.tup (ne_of h2 hd (by intro z; cases z)) h2, seqT_pen h3 hd k, h4.kn hd k⟩
/-- a turn -/
structure Tz (K : PySem.W.Frag) (C CM CL : Addr) (H : Hp) (d c : Addr) (n : Nat) (dl l x y : Addr) (ws : List Str) (ms : List Pm) : Prop where
  pen : PenAt H d c n
  hdl : H dl = some (.lst (ws.map V.str))
  lot : LotP d H l ws ms
  mad : LotAt K C CM CL H x ws ms
  twn : LotAt K C CM CL H y ws ms
structure Sz (ws : List Str) (ms : List Pm) (lw : Nat) : Prop where
  dz : Dz ws lw
  m1 : 1 ≤ ms.length
  m5 : ms.length ≤ 5
  pm : ∀ m ∈ ms, PmOk ws m
section
variable {K : PySem.W.Frag} {C CM CL : Addr} {H H' : Hp} {d c : Addr} {n n' : Nat} {dl l x y : Addr} {ws : List Str} {ms : List Pm}
theorem Tz.kept (t : Tz K C CM CL H d c n dl l x y ws ms) (k : Kept d H H') (hp : PenAt H' d c n') : Tz K C CM CL H' d c n' dl l x y ws ms := by
  obtain ⟨kv, hd⟩ := t.pen.dk
  exact ⟨hp, k _ _ t.hdl (ne_of t.hdl hd (by intro z; cases z)), t.lot.kn hd k.n, t.mad.kn hd k.n, t.twn.kn hd k.n⟩
theorem Tz.same (t : Tz K C CM CL H d c n dl l x y ws ms) (s : Same H H') : Tz K C CM CL H' d c n dl l x y ws ms := t.kept (.same s) (t.pen.same s)
theorem PmOk.s {ws : List Str} {m : Pm} (h : PmOk ws m) : PmS ws m := ⟨ok_wd h.pt.gd.wd, ok_tl h.pt.tl.2⟩
end
theorem lotEq_self (ms : List Pm) : lotEq ms ms = true := by
  unfold lotEq
  simp only [Nat.min_self, beq_self_eq_true, Bool.and_true, List.all_eq_true]
  intro i hi
  have hil := List.mem_range.mp hi
  rw [List.getElem?_eq_getElem hil]
  exact pmEq_self _
/-- another rule at one place -/
def flip (ru : Str) : Str := if ru = ("cleared" : Str) then "kept" else "cleared"
theorem flip_ne {ru : Str} (h : ru ∈ rules) : flip ru ≠ ru ∧ flip ru ∈ rules := by
  simp only [rules, List.mem_cons, List.not_mem_nil, or_false] at h
  rcases h with rfl | rfl
  · exact (by decide +kernel : flip "kept" ≠ "kept" ∧ flip "kept" ∈ rules)
  · exact (by decide +kernel : flip "cleared" ≠ "cleared" ∧ flip "cleared" ∈ rules)
def flipM (m : Pm) : Pm := { m with ru := flip m.ru }
theorem pmEq_flip {ws : List Str} {m : Pm} (h : PmOk ws m) : pmEq m (flipM m) = false := by
  unfold pmEq
  exact decide_eq_false fun e => (flip_ne h.ru).1 e.2.2.2.symm
theorem lotEq_set {ws : List Str} {ms : List Pm} {j : Nat} (hj : j < ms.length) (h : PmOk ws ms[j]) : lotEq ms (ms.set j (flipM ms[j])) = false := by
  unfold lotEq
  rw [Bool.and_eq_false_iff]
  refine .inl (List.all_eq_false.mpr ⟨j, List.mem_range.mpr (by simp [hj]), ?_⟩)
  rw [List.getElem?_eq_getElem hj, List.getElem?_set_self hj]
  simp only
  rw [pmEq_flip h]; simp
theorem lotEq_len {ms ms2 : List Pm} (h : ms.length ≠ ms2.length) : lotEq ms ms2 = false := by
  unfold lotEq
  rw [Bool.and_eq_false_iff]
  exact .inr (by simpa using h)
end K1
set_option Elab.async false
set_option linter.all false
set_option maxRecDepth 100000
set_option maxHeartbeats 1000000
/-! k29's law: what is refused -/
namespace K1
open PySem L2 LamX OwnT
/-- the menu: no rules -/
theorem menuR {K : PySem.W.Frag} {H : Hp} {q1 q2 : Addr} {ru : Str} (h1 : H q1 = some (.lst [.str "kept"])) (h2 : H q2 = some (.tup [.str "cleared"])) (hru : ru ∈ rules) {v : V}
    (h : v ∈ [V.non, .int 3, .bl true, .str "", .str "Kept", .str "clear", .str "kept ", .ref q1, .ref q2, .str (ru ++ "s")]) : ∃ dv, RuleD K H v dv := by
  have mk : ∀ z : Str, PyData.strOk z = true → (∀ r ∈ rules, PyData.eqv (.str r) (.str z) = false) → RuleD K H (.str z) (.str z) := fun z h1 h2 => ⟨fun G _ => .str z, shaped_of (by rw [PyData.canLay0]; exact h1) (Nat.zero_le _), PySem.SeqAt.eqv_refl _ (by rw [PyData.canLay0]; exact h1), h2⟩
  simp only [List.mem_cons, List.not_mem_nil, or_false] at h
  rcases h with rfl | rfl | rfl | rfl | rfl | rfl | rfl | rfl | rfl | rfl
  · exact ⟨.none, fun G _ => .non, shaped_of rfl (by decide), PySem.SeqAt.eqv_refl _ rfl, fun r _ => by simp [PyData.eqv]⟩
  · exact ⟨.int 3, fun G _ => .int _, shaped_of rfl (by decide), PySem.SeqAt.eqv_refl _ rfl, fun r _ => by simp [PyData.eqv]⟩
  · exact ⟨.bool true, fun G _ => .bl _, shaped_of rfl (by decide), PySem.SeqAt.eqv_refl _ rfl, fun r _ => by simp [PyData.eqv]⟩
  · exact ⟨_, mk _ (by decide +kernel) (by decide +kernel)⟩
  · exact ⟨_, mk _ (by decide +kernel) (by decide +kernel)⟩
  · exact ⟨_, mk _ (by decide +kernel) (by decide +kernel)⟩
  · exact ⟨_, mk _ (by decide +kernel) (by decide +kernel)⟩
  · have hl : (PyData.list [.str "kept"]).canLay0 = true := by decide +kernel
    exact ⟨.list [.str "kept"], fun G s => .lst (SqL.of (s _ _ h1)) (.cons (.str _) .nil), shaped_of hl (by decide), PySem.SeqAt.eqv_refl _ hl, fun r _ => by simp [PyData.eqv]⟩
  · have hl : (PyData.tuple [.str "cleared"]).canLay0 = true := by decide +kernel
    exact ⟨.tuple [.str "cleared"], fun G s => .tup (SqT.of (s _ _ h2)) (.cons (.str _) .nil), shaped_of hl (by decide), PySem.SeqAt.eqv_refl _ hl, fun r _ => by simp [PyData.eqv]⟩
  · simp only [rules, List.mem_cons, List.not_mem_nil, or_false] at hru
    rcases hru with rfl | rfl
    · exact ⟨_, mk _ (by decide +kernel) (by decide +kernel)⟩
    · exact ⟨_, mk _ (by decide +kernel) (by decide +kernel)⟩
section
variable {P : Program} {w : World} {K : PySem.W.Frag} {mg : Str → Option Value} {base : Heap} {C CM CL : Addr}
theorem wrong_ok (F : Fs P w K mg base C CM CL) (f : Addr) (cdv : Value) (A : Around) (outer : List Env) (s : Shared) (H0 : Hp) (E : XK) (hr : Room 8 (cxOf CX0 P w K mg base nLaw "law" (defScope sLaw) f cdv A outer s H0 E).A) :
    ∃ t, PSs (cxOf CX0 P w K mg base nLaw "law" (defScope sLaw) f cdv A outer s H0 E).nox (lawBody.drop 14) t ∧
      ∀ (D : Ends) (H : Hp) (v0 v2 v5 v8 v9 v12 v13 : Option V) (d c : Addr) (n : Nat) (dl l x y p : Addr) (ws : List Str) (ms : List Pm) (lw j : Nat) (hj : j < ms.length),
        Tz K C CM CL H d c n dl l x y ws ms → Sz ws ms lw → PlainAt H p ws ms[j].rs ms[j].ss ms[j].st → p ≠ d → n ≤ 600000 →
        (∀ (v13 : Option V) (n' : Nat) (H' : Hp), PenAt H' d c n' → n' ≤ n + 1000 → D.nx [v0, some (.ref d), v2, some (.ref dl), some (.ref l), v5, some (.ref x), some (.ref y), v8, v9, some (.ref p), some (.str ms[j].ru), v12, v13] H') →
        t D [v0, some (.ref d), v2, some (.ref dl), some (.ref l), v5, some (.ref x), some (.ref y), v8, v9, some (.ref p), some (.str ms[j].ru), v12, v13] H := by
  obtain ⟨T2, M, MK, ML, _, _, ⟨fK, fdK, DK, GK⟩, _, _, _, _, _, _, ⟨fR, fdR, DR, GR⟩, ⟨fF, fdF, DF, GF⟩, _, _, _, _, _, _, _⟩ := F
  have T1 : Bt mg := T2.toBt
  have hr2 : Room 2 (cxOf CX0 P w K mg base nLaw "law" (defScope sLaw) f cdv A outer s H0 E).nox.A := hr.mono (by decide)
  refine ⟨_, pss_cons (ps_set (i := 13) scLaw.nd rfl (Or.inl rfl) (pe_lst (pa_cons pe_non (pa_cons pe_int (pa_cons pe_bl (pa_cons pe_str (pa_cons pe_str (pa_cons pe_str (pa_cons pe_str (pa_cons (pe_lst (pa_cons pe_str pa_nil)) (pa_cons (pe_tup (pa_cons pe_str pa_nil)) (pa_cons (pe_op op_add_str (pv 11) pe_str) pa_nil))))))))))))
      (pss_one (ps_if (PW.pt (pw_or (pt_not (pt_val (pe_call GR hr rfl DR.g DR.F.kp DR.b .nil pass0 (pa_cons (pv 10) (pa_cons (pe_call GK hr2 rfl DK.g DK.F.kp DK.b .nil pass0 (pa_cons (pv 1) (pa_cons (pv 13) pa_nil))) pa_nil)))))
          (pw_or1 (pt_not (pt_val (pe_call GF hr rfl DF.g DF.F.kp DF.b .nil pass0 (pa_cons (pv 1) (pa_cons (pv 3) (pa_cons (pv 4) pa_nil))))))))) (pss_one (ps_ret pe_bl)) pss_nil)), ?_⟩
  intro D H v0 v2 v5 v8 v9 v12 v13 d c n dl l x y p ws ms lw j hj tz sz hp np hn done
  have pmj := sz.pm _ (List.getElem_mem hj)
  obtain ⟨kv, hd⟩ := tz.pen.dk
  refine ⟨Nat.le_of_ble_eq_true rfl, fun q1 hq1 => ⟨Nat.le_of_ble_eq_true rfl, fun q2 hq2 => ⟨_, rfl, _, _, rfl, rfl, ?_, Nat.le_of_ble_eq_true rfl, fun me hme => ?_⟩⟩⟩
  · have h1 := pmj.ru
    simp only [rules, List.mem_cons, List.not_mem_nil, or_false] at h1
    rcases h1 with h | h
    · rw [h]; exact Nat.le_of_lt (small1000 (by decide +kernel))
    · rw [h]; exact Nat.le_of_lt (small1000 (by decide +kernel))
  have s1 := same_upd (o := .lst [V.str "kept"]) hq1
  have e1 : upd H q1 (.lst [V.str "kept"]) q1 = some (.lst [V.str "kept"]) := upd_same
  generalize upd H q1 (.lst [V.str "kept"]) = H1 at s1 e1 hq2 hme ⊢
  have s2 := same_upd (o := .tup [V.str "cleared"]) hq2
  have e2 : upd H1 q2 (.tup [V.str "cleared"]) q2 = some (.tup [V.str "cleared"]) := upd_same
  have e1' := s2 _ _ e1
  generalize upd H1 q2 (.tup [V.str "cleared"]) = H2 at s2 e2 e1' hme ⊢
  have s3 := same_upd (o := .lst [V.non, .int 3, .bl true, .str "", .str "Kept", .str "clear", .str "kept ", .ref q1, .ref q2, .str (ms[j].ru ++ "s")]) hme
  have s03 := s1.trans (s2.trans s3)
  have t3 := tz.same s03
  have nme := ((tz.same (s1.trans s2)).pen.ne hme).1
  obtain ⟨kv3, hd3⟩ := t3.pen.dk
  have g1 := s3 _ _ e1'
  have g2 := s3 _ _ e2
  refine ⟨_, rfl, _, rfl, _, rfl, d, c, me, n, _, rfl, t3.pen, by omega, nme, SqL.of upd_same, Nat.le_of_ble_eq_true rfl, Nat.le_of_ble_eq_true rfl, fun v H4 hv p4 k4 => ?_⟩
  have h1 := k4 _ _ g1 (ne_of g1 hd3 (by intro z; cases z))
  have h2 := k4 _ _ g2 (ne_of g2 hd3 (by intro z; cases z))
  obtain ⟨dv, rd⟩ := menuR (K := K) h1 h2 pmj.ru hv
  have t4 := t3.kept k4 p4
  have hp4 := (hp.same s03).kn hd3 np k4.n
  refine ⟨p, ws, _, _, _, v, dv, rfl, hp4, pmj.pt, rd, fun H5 s5 => ⟨true, rfl, iteF ?_⟩⟩
  have t5 := t4.same s5
  refine ⟨_, rfl, _, rfl, _, rfl, d, c, dl, l, n + 1, ws, ms, lw, rfl, t5.pen, by omega, t5.hdl, t5.lot, sz.dz, sz.m1, sz.m5, sz.pm, fun H6 n6 k6 p6 hn6 => ⟨true, rfl, iteF ?_⟩⟩
  exact done _ n6 H6 p6 (by omega)
end
end K1
set_option Elab.async false
set_option linter.all false
set_option maxRecDepth 100000
set_option maxHeartbeats 1000000
/-! k29's law: lots compared -/
namespace K1
open PySem L2 LamX OwnT
theorem ixN_at {n j : Nat} (h : j < n) : ixN n (j : Int) = some j := by unfold ixN; rw [if_pos (by omega), if_pos (by omega)]; rfl
theorem cutV_all {xs : List V} {lo hi : Option Int} (h : HT.sIx xs.length 0 lo = 0 ∧ HT.sIx xs.length xs.length hi = xs.length) : cutV xs lo hi = xs := by
  unfold cutV
  simp only [h.1, h.2, List.drop_zero, Nat.sub_zero, List.take_length]
theorem slA_any {K : PySem.W.Frag} {H : Hp} {Q : VK} {a : Addr} {xs : List V} {lo hi : Option Int} (ha : SqT K H a xs) (k : ∀ p H', SqT K H' p (cutV xs lo hi) → Same H H' → Q (.ref p) H') : rSlA K (.ref a) lo hi H Q := by
  refine ⟨a, xs, rfl, ha, fun e => ?_, fun _ p hp => k p _ (SqT.of upd_same) (same_upd hp)⟩
  exact k a H (by rw [cutV_all e]; exact ha) (Same.refl H)
theorem LotE.set {d : Addr} {H : Hp} {ts : List Addr} {ws : List Str} {ms : List Pm} {j : Nat} {t p : Addr} {m : Pm} (h : LotE d H ts ws ms) (hj : j < ms.length) (n : p ≠ d) (e : H t = some (.tup [.ref p, .str m.ru])) (hp : PlainAt H p ws m.rs m.ss m.st) : LotE d H (ts.set j t) ws (ms.set j m) := by
  refine ⟨by simp [h.1], fun i a q e1 e2 => ?_⟩
  by_cases hi : i = j
  · subst hi
    rw [List.getElem?_set_self (by rw [h.1]; exact hj)] at e1
    rw [List.getElem?_set_self hj] at e2
    cases e1; cases e2
    exact ⟨p, n, e, hp⟩
  · rw [List.getElem?_set_ne (fun z => hi z.symm)] at e1 e2
    exact h.2 i a q e1 e2
theorem MarksAt.but {K : PySem.W.Frag} {C CM : Addr} {H : Hp} {as : List Addr} {ws : List Str} {ms : List Pm} (h : MarksAt K C CM H as ws ms) (j : Nat) (hj : j < ms.length) : MarksAt K C CM H (as.take j ++ as.drop (j + 1)) ws (ms.take j ++ ms.drop (j + 1)) := by
  have l1 : (as.take j).length = j := by rw [List.length_take, h.1]; omega
  have l2 : (ms.take j).length = j := by rw [List.length_take]; omega
  refine ⟨by simp [h.1], fun i a m e1 e2 => ?_⟩
  by_cases hi : i < j
  · rw [List.getElem?_append_left (by omega), List.getElem?_take, if_pos hi] at e1 e2
    exact h.2 i a m e1 e2
  · rw [List.getElem?_append_right (by omega), List.getElem?_drop] at e1 e2
    rw [l1] at e1
    rw [l2] at e2
    exact h.2 _ a m e1 e2
section
variable {P : Program} {w : World} {K : PySem.W.Frag} {mg : Str → Option Value} {base : Heap} {C CM CL : Addr}
theorem eq_ok (F : Fs P w K mg base C CM CL) (f : Addr) (cdv : Value) (A : Around) (outer : List Env) (s : Shared) (H0 : Hp) (E : XK) (hr : Room 8 (cxOf CX0 P w K mg base nLaw "law" (defScope sLaw) f cdv A outer s H0 E).A) :
    ∃ t, PSs (cxOf CX0 P w K mg base nLaw "law" (defScope sLaw) f cdv A outer s H0 E).nox (lawBody.drop 12) t ∧
      ∀ (D : Ends) (H : Hp) (v0 v2 v5 v8 v13 : Option V) (d c : Addr) (n : Nat) (dl l x y p lo : Addr) (ws : List Str) (ms : List Pm) (lw j : Nat) (hj : j < ms.length),
        Tz K C CM CL H d c n dl l x y ws ms → Sz ws ms lw → PlainAt H p ws ms[j].rs ms[j].ss ms[j].st → p ≠ d → LotP d H lo ws (ms.set j (flipM ms[j])) → n ≤ 600000 →
        (∀ (v13 : Option V) (n' : Nat) (H' : Hp), PenAt H' d c n' → n' ≤ n + 1000 → D.nx [v0, some (.ref d), v2, some (.ref dl), some (.ref l), v5, some (.ref x), some (.ref y), v8, some (.int (j : Int)), some (.ref p), some (.str ms[j].ru), some (.ref lo), v13] H') →
        t D [v0, some (.ref d), v2, some (.ref dl), some (.ref l), v5, some (.ref x), some (.ref y), v8, some (.int (j : Int)), some (.ref p), some (.str ms[j].ru), some (.ref lo), v13] H := by
  obtain ⟨t14, ht14, hq14⟩ := wrong_ok F f cdv A outer s H0 E hr
  obtain ⟨T2, M, MK, ML, _, ⟨fD, fdD, DD, GD⟩, _, _, _, _, ⟨fM, fdM, DM, GM⟩, _, _, _, _, _, ⟨fLI, fdLI, MkL, bLI, GLI⟩, _, ⟨fG, fdG, giG, fiG, fnG, bG, GG⟩, ⟨fQ, fdQ, OK', bQ, GQ'⟩, ⟨fE, fdE, OL, bE, GE, GNI⟩, mlT⟩ := F
  have T1 : Bt mg := T2.toBt
  have hr1 : Room 1 (cxOf CX0 P w K mg base nLaw "law" (defScope sLaw) f cdv A outer s H0 E).nox.A := hr.mono (by decide)
  have hr2 : Room 2 (cxOf CX0 P w K mg base nLaw "law" (defScope sLaw) f cdv A outer s H0 E).nox.A := hr.mono (by decide)
  have hr3 : Room 3 (cxOf CX0 P w K mg base nLaw "law" (defScope sLaw) f cdv A outer s H0 E).nox.A := hr.mono (by decide)
  have hr4 : Room 4 (cxOf CX0 P w K mg base nLaw "law" (defScope sLaw) f cdv A outer s H0 E).nox.A := hr.mono (by decide)
  have hr5 : Room 5 (cxOf CX0 P w K mg base nLaw "law" (defScope sLaw) f cdv A outer s H0 E).nox.A := hr.mono (by decide)
  refine ⟨_, pss_cons (ps_if (PW.pt (pw_or (pt_cmpR (op_neOwn OL GE hr5 bE pass0) (pv 6) (pv 7) (nomark _))
          (pw_or (pt_cmpR (op_eqOwn OL GE hr4 bE pass0) (pv 6) (pe_call GM hr rfl DM.g DM.F.kp DM.b .nil pass0 (pa_cons (pv 12) pa_nil)) (nomark _))
          (pw_or (pt_cmpR (op_eqOwn OK' GQ' hr2 bQ pass0) (pe_ixOwn (pv 6) (pv 9) giG fiG fnG GG hr2 bG pass0) (pe_ixOwn (pe_call GM hr rfl DM.g DM.F.kp DM.b .nil pass0 (pa_cons (pv 12) pa_nil)) (pv 9) giG fiG fnG GG hr2 bG pass0) (nomark _))
          (pw_or1 (pt_cmpR (op_eqNIT OL mlT GNI hr1 bE) (pv 6) (pe_fld (pv 6) rfl) (nomark _))))))) (pss_one (ps_ret pe_bl)) pss_nil)
      (pss_cons (ps_if (PW.pt (pw_or (pt_cmpR (op_eqOwn OL GE hr4 bE pass0) (pv 6) (pe_make MkL GLI hr2 rfl ML.mgC bLI .nil pass0 (pa_cons (pe_op op_cat
              (pe_callTy (r := rLi K) call_list_of (by rfl) T1.list PyProof.Rows.boot_list (pa_cons (pe_slice (r := rSlA K) sl_tupA (pe_fld (pv 6) rfl) po_none (po_some (pv 9))) pa_nil))
              (pe_callTy (r := rLi K) call_list_of (by rfl) T1.list PyProof.Rows.boot_list (pa_cons (pe_slice (r := rSlA K) sl_tupA (pe_fld (pv 6) rfl) (po_some (pe_op op_add (pv 9) pe_int)) po_none) pa_nil))) pa_nil)) (nomark _))
          (pw_or1 (pt_cmpR (op_neOwn OK' GQ' hr3 bQ pass0) (pe_ixOwn (pv 6) (pv 9) giG fiG fnG GG hr2 bG pass0) (pe_ixOwn (pv 7) (pv 9) giG fiG fnG GG hr2 bG pass0) (nomark _))))) (pss_one (ps_ret pe_bl)) pss_nil)
        ht14), ?_⟩
  intro D H v0 v2 v5 v8 v13 d c n dl l x y p lo ws ms lw j hj tz sz hp np hlo hn done
  have okw := ok_wd sz.dz.gd.wd
  have m5 := sz.m5
  have pms : ∀ m ∈ ms, PmS ws m := fun m hm => (sz.pm m hm).s
  have pmj := sz.pm _ (List.getElem_mem hj)
  have pmF : PmOk ws (flipM ms[j]) := ⟨pmj.pt, (flip_ne pmj.ru).2⟩
  have ejm : ms[j]? = some ms[j] := List.getElem?_eq_getElem hj
  have pmX : ∀ m ∈ ms.set j (flipM ms[j]), PmOk ws m := fun m hm => by
    rcases List.mem_or_eq_of_mem_set hm with h | rfl
    · exact sz.pm m h
    · exact pmF
  have ixj : ixN ms.length (j : Int) = some j := ixN_at hj
  -- made != twin
  obtain ⟨dx, q, b, as, hx, hq, hb, hM⟩ := id tz.mad
  obtain ⟨dy, q2, b2, as2, hy, _⟩ := id tz.twn
  refine ⟨_, rfl, _, rfl, x, y, dx, dy, _, _, rfl, rfl, hx, hy, x, y, _, rfl, ⟨ws, ms, ms, tz.mad, tz.twn, pms, pms, rfl⟩, fun H1 s1 => ⟨_, rfl, _, rfl, ?_⟩⟩
  rw [lotEq_self]
  refine iteF ?_
  have t1 := tz.same s1
  -- made == lot_made(other)
  refine ⟨_, rfl, _, rfl, d, lo, ws, _, rfl, hlo.same s1, by rw [List.length_set]; omega, okw, pmX, fun z H2 hz0 s2 lz => ?_⟩
  have t2 := t1.same s2
  have s02 := Same.trans s1 s2
  obtain ⟨dz1, qz, bz, asz, hz, _⟩ := id lz
  refine ⟨x, z, dx, dz1, _, _, rfl, rfl, s02 _ _ hx, hz, x, z, _, rfl, ⟨ws, ms, _, t2.mad, lz, pms, fun m hm => (pmX m hm).s, rfl⟩, fun H3 s3 => ⟨_, rfl, _, rfl, ?_⟩⟩
  rw [lotEq_set hj pmj]
  refine iteF ?_
  have t3 := t2.same s3
  have s03 := Same.trans s02 s3
  -- made[at] == lot_made(other)[at]
  refine ⟨_, rfl, _, rfl, x, dx, _, rfl, s03 _ _ hx, x, (j : Int), j, ws, ms, _, rfl, t3.mad, ixj, ejm, fun a mk => ?_⟩
  refine ⟨_, rfl, d, lo, ws, _, rfl, hlo.same s03, by rw [List.length_set]; omega, okw, pmX, fun z4 H4 hz40 s4 lz4 => ?_⟩
  have s04 := Same.trans s03 s4
  obtain ⟨dz4, qz4, bz4, asz4, hz4, _⟩ := id lz4
  refine ⟨_, rfl, z4, dz4, _, rfl, hz4, z4, (j : Int), j, ws, _, flipM ms[j], rfl, lz4, by rw [List.length_set]; exact ixj, List.getElem?_set_self hj, fun a4 mk4 => ?_⟩
  have mk' := mk.same s4
  obtain ⟨dk, xk, hk, _⟩ := id mk'
  obtain ⟨dk4, xk4, hk4, _⟩ := id mk4
  refine ⟨a, a4, dk, dk4, _, _, rfl, rfl, hk, hk4, a, a4, _, rfl, ⟨ws, ws, ms[j], flipM ms[j], mk', mk4, pmj.s, pmF.s, rfl⟩, fun H5 s5 => ⟨_, rfl, _, rfl, ?_⟩⟩
  rw [pmEq_flip pmj, Bool.and_false]
  refine iteF ?_
  have s05 := Same.trans s04 s5
  have t5 := tz.same s05
  -- made == made.marks
  refine ⟨_, rfl, _, rfl, x, CL, dx, _, _, rfl, s05 _ _ hx, ML.cl, ML.nM, lf_m _ _, x, dx, _, q, _, rfl, s05 _ _ hx, ⟨x, dx, _, q, _, rfl, s05 _ _ hx, s05 _ _ hq⟩, rfl, s05 _ _ hq, fun H6 s6 => ⟨_, rfl, iteF ?_⟩⟩
  have s06 := Same.trans s05 s6
  have t6 := tz.same s06
  -- made == Lot(the others)
  refine ⟨_, rfl, _, rfl, x, CL, dx, _, _, rfl, s06 _ _ hx, ML.cl, ML.nM, lf_m _ _, _, rfl, (j : Int), rfl, slA_any (SqT.of (s06 _ _ hq)) fun a7 H7 h7 s7 => ?_⟩
  rw [cut_toA] at h7
  refine ⟨a7, _, rfl, .inr h7, fun l8 hl8 => ?_⟩
  have s8 := same_upd (o := .lst ((as.map V.ref).take j)) hl8
  have e8 : upd H7 l8 (.lst ((as.map V.ref).take j)) l8 = some (.lst ((as.map V.ref).take j)) := upd_same
  generalize upd H7 l8 (.lst ((as.map V.ref).take j)) = H8 at s8 e8 ⊢
  have s08 := s06.trans (s7.trans s8)
  have ej1 : ((j : Int) + 1) = ((j + 1 : Nat) : Int) := by omega
  refine ⟨_, rfl, x, CL, dx, _, _, rfl, s08 _ _ hx, ML.cl, ML.nM, lf_m _ _, _, rfl, _, _, rfl, rfl, (j : Int) + 1, rfl, ?_⟩
  try delta tNoPart
  show rSlA K (.ref q) (some ((j : Int) + 1)) none H8 _
  refine slA_any (SqT.of (s08 _ _ hq)) fun a9 H9 h9 s9 => ?_
  rw [ej1, cut_fromA (by rw [List.length_map, hM.1]; omega)] at h9
  refine ⟨a9, _, rfl, .inr h9, fun l10 hl10 => ?_⟩
  have s10 := same_upd (o := .lst ((as.map V.ref).drop (j + 1))) hl10
  have e10 : upd H9 l10 (.lst ((as.map V.ref).drop (j + 1))) l10 = some (.lst ((as.map V.ref).drop (j + 1))) := upd_same
  generalize upd H9 l10 (.lst ((as.map V.ref).drop (j + 1))) = H10 at s10 e10 ⊢
  have e8' := s10 _ _ (s9 _ _ e8)
  refine ⟨l8, l10, _, _, rfl, rfl, e8', e10, Nat.le_of_lt (small1000 (by simp [hM.1]; omega)), fun l11 hl11 => ?_⟩
  rw [show (as.map V.ref).take j ++ (as.map V.ref).drop (j + 1) = (as.take j ++ as.drop (j + 1)).map V.ref by rw [List.map_append, List.map_take, List.map_drop]]
  have s11 := same_upd (o := .lst ((as.take j ++ as.drop (j + 1)).map V.ref)) hl11
  have e11 : upd H10 l11 (.lst ((as.take j ++ as.drop (j + 1)).map V.ref)) l11 = some (.lst ((as.take j ++ as.drop (j + 1)).map V.ref)) := upd_same
  generalize upd H10 l11 (.lst ((as.take j ++ as.drop (j + 1)).map V.ref)) = H11 at s11 e11 ⊢
  have s011 := s08.trans (s9.trans (s10.trans s11))
  have hMb := (hM.same s011).but j hj
  intro z12 dz12 hz12 hdz12 nd12
  have pre := made_pre (C := CL) hz12 hdz12
  refine ⟨z12, dz12, l11, _, ws, _, rfl, upd_same, SqL.of (pre _ _ e11), hMb.same pre, by simp; omega, okw, fun H13 lot13 k13 => ⟨rfl, ?_⟩⟩
  have s013 := s011.trans (made_same hz12 hdz12 k13)
  have t13 := tz.same s013
  obtain ⟨dz13, qz13, bz13, asz13, hz13, _⟩ := id lot13
  refine ⟨x, z12, dx, dz13, _, _, rfl, rfl, s013 _ _ hx, hz13, x, z12, _, rfl, ⟨ws, ms, _, t13.mad, lot13, pms, fun m hm => ?_, rfl⟩, fun H14 s14 => ⟨_, rfl, _, rfl, ?_⟩⟩
  · rcases List.mem_append.mp hm with h | h
    · exact pms m (List.mem_of_mem_take h)
    · exact pms m (List.mem_of_mem_drop h)
  rw [lotEq_len (by simp; omega)]
  refine iteF ?_
  have s014 := Same.trans s013 s14
  have t14' := tz.same s014
  -- made[at] != twin[at]
  refine ⟨_, rfl, _, rfl, x, dx, _, rfl, s014 _ _ hx, x, (j : Int), j, ws, ms, _, rfl, t14'.mad, ixj, ejm, fun a15 mk15 => ?_⟩
  refine ⟨_, rfl, _, rfl, y, dy, _, rfl, s014 _ _ hy, y, (j : Int), j, ws, ms, _, rfl, t14'.twn, ixj, ejm, fun a16 mk16 => ?_⟩
  obtain ⟨dk15, xk15, hk15, _⟩ := id mk15
  obtain ⟨dk16, xk16, hk16, _⟩ := id mk16
  refine ⟨a15, a16, dk15, dk16, _, _, rfl, rfl, hk15, hk16, a15, a16, _, rfl, ⟨ws, ws, ms[j], ms[j], mk15, mk16, pmj.s, pmj.s, rfl⟩, fun H17 s17 => ⟨_, rfl, _, rfl, ?_⟩⟩
  rw [pmEq_self, decide_eq_true rfl]
  refine iteF ?_
  have s017 := Same.trans s014 s17
  exact hq14 D H17 v0 v2 v5 v8 _ _ v13 d c n dl l x y p ws ms lw j hj (tz.same s017) sz (hp.same s017) np hn done
end
end K1
set_option Elab.async false
set_option linter.all false
set_option maxRecDepth 100000
set_option maxHeartbeats 1000000
/-! k29's law: another lot; the marks one by one -/
namespace K1
open PySem L2 LamX OwnT
section
variable {P : Program} {w : World} {K : PySem.W.Frag} {mg : Str → Option Value} {base : Heap} {C CM CL : Addr}
theorem cmp_ok (F : Fs P w K mg base C CM CL) (f : Addr) (cdv : Value) (A : Around) (outer : List Env) (s : Shared) (H0 : Hp) (E : XK) (hr : Room 8 (cxOf CX0 P w K mg base nLaw "law" (defScope sLaw) f cdv A outer s H0 E).A) :
    ∃ t, PSs (cxOf CX0 P w K mg base nLaw "law" (defScope sLaw) f cdv A outer s H0 E).nox (lawBody.drop 8) t ∧
      ∀ (D : Ends) (H : Hp) (v0 v2 v5 v8 v9 v10 v11 v12 v13 : Option V) (d c : Addr) (n : Nat) (dl l x y : Addr) (ws : List Str) (ms : List Pm) (lw : Nat),
        Tz K C CM CL H d c n dl l x y ws ms → Sz ws ms lw → n ≤ 590000 →
        (∀ (v9 v10 v11 v12 v13 : Option V) (n' : Nat) (H' : Hp), PenAt H' d c n' → n' ≤ n + 1010 → D.nx [v0, some (.ref d), v2, some (.ref dl), some (.ref l), v5, some (.ref x), some (.ref y), v8, v9, v10, v11, v12, v13] H') →
        t D [v0, some (.ref d), v2, some (.ref dl), some (.ref l), v5, some (.ref x), some (.ref y), v8, v9, v10, v11, v12, v13] H := by
  obtain ⟨t12, ht12, hq12⟩ := eq_ok F f cdv A outer s H0 E hr
  obtain ⟨T2, M, MK, ML, _, ⟨fD, fdD, DD, GD⟩, _⟩ := F
  have T1 : Bt mg := T2.toBt
  have hr1 : Room 1 (cxOf CX0 P w K mg base nLaw "law" (defScope sLaw) f cdv A outer s H0 E).nox.A := hr.mono (by decide)
  refine ⟨_, pss_cons (ps_set (i := 9) scLaw.nd rfl (Or.inl rfl) (pe_call GD hr1 rfl DD.g DD.F.kp DD.b .nil pass0 (pa_cons (pv 1) (pa_cons (pe_callB call_len (by rfl) T1.len PySem.boot_len (pa_cons (pv 4) pa_nil)) pa_nil))))
      (pss_cons (ps_asg (pe_ix (r := rIxL K) ix_list (pv 4) (pv 9) (fun _ _ => rfl)) (pg_tup (by rfl) (pgs_cons (pg_name (i := 10) scLaw.nd rfl (Or.inl rfl)) (pgs_cons (pg_name (i := 11) scLaw.nd rfl (Or.inl rfl)) pgs_nil))))
      (pss_cons (ps_set (i := 12) scLaw.nd rfl (Or.inl rfl) (pe_callTy (r := rLi K) call_list_of (by rfl) T1.list PyProof.Rows.boot_list (pa_cons (pv 4) pa_nil)))
      (pss_cons (ps_asg (pe_tup (pa_cons (pv 10) (pa_cons (pe_ifExp (pt_cmpR op_eq (pv 11) pe_str (nomark _)) pe_str pe_str) pa_nil))) (pg_sub (pv 12) (pv 9) set_list))
        ht12))), ?_⟩
  intro D H v0 v2 v5 v8 v9 v10 v11 v12 v13 d c n dl l x y ws ms lw tz sz hn done
  have m5 := sz.m5
  obtain ⟨qs0, hl0, hL0⟩ := id tz.lot
  -- at
  refine ⟨_, rfl, _, rfl, _, ms.length, rfl, .inl ⟨_, SqL.of hl0, by rw [List.length_map, hL0.1]⟩, d, c, n, (ms.length : Int), rfl, tz.pen, by omega, by have := sz.m1; omega, by omega, fun a H1 a0 a1 p1 k1 => ?_⟩
  obtain ⟨j, rfl⟩ : ∃ j : Nat, a = (j : Int) := ⟨a.toNat, by omega⟩
  have hj : j < ms.length := by omega
  have t1 := tz.kept k1 p1
  obtain ⟨kv1, hd1⟩ := t1.pen.dk
  have pmj := sz.pm _ (List.getElem_mem hj)
  -- plain, rule
  obtain ⟨qs, hl, hL⟩ := id t1.lot
  obtain ⟨tt, p, et, em, np, g1, g2⟩ := hL.get hj
  refine ⟨_, rfl, _, rfl, l, _, _, _, rfl, rfl, SqL.of hl, atI_nat (j := j) (v := V.ref tt) (by rw [List.getElem?_map, et]; rfl), tt, _, rfl, SqT.of g1, rfl, _, _, rfl, _, _, rfl, rfl, ?_⟩
  -- other
  refine ⟨_, rfl, l, _, rfl, .inl (SqL.of hl), fun lo hlo => ?_⟩
  have s2 := same_upd (o := .lst (qs.map V.ref)) hlo
  have e2 : upd H1 lo (.lst (qs.map V.ref)) lo = some (.lst (qs.map V.ref)) := upd_same
  generalize upd H1 lo (.lst (qs.map V.ref)) = H2 at s2 e2 ⊢
  have next : ∀ (z : Str), z = flip ms[j].ru → ∀ u, H2 u = none → Same H1 (upd (upd H2 u (.tup [.ref p, .str z])) lo (.lst ((qs.map V.ref).set j (.ref u)))) ∧ LotP d (upd (upd H2 u (.tup [.ref p, .str z])) lo (.lst ((qs.map V.ref).set j (.ref u)))) lo ws (ms.set j (flipM ms[j])) := by
    intro z hz u hu0
    have hsm : Same H1 (upd (upd H2 u (.tup [.ref p, .str z])) lo (.lst ((qs.map V.ref).set j (.ref u)))) := fun b o e => by
      rw [upd_ne (ne_of_none e hlo), upd_ne (ne_of_none (s2 _ _ e) hu0)]
      exact s2 _ _ e
    have nul : u ≠ lo := (ne_of_none e2 hu0).symm
    refine ⟨hsm, qs.set j u, by rw [upd_same, List.map_set], ?_⟩
    refine (hL.same hsm).set hj (m := flipM ms[j]) np ?_ (g2.same hsm)
    rw [upd_ne nul, upd_same, hz]; rfl
  have fin : ∀ (z : Str), z = flip ms[j].ru → ∀ u, H2 u = none → t12 D [v0, some (.ref d), v2, some (.ref dl), some (.ref l), v5, some (.ref x), some (.ref y), v8, some (.int (j : Int)), some (.ref p), some (.str ms[j].ru), some (.ref lo), v13] (upd (upd H2 u (.tup [.ref p, .str z])) lo (.lst ((qs.map V.ref).set j (.ref u)))) := by
    intro z hz u hu0
    obtain ⟨n1, n2⟩ := next z hz u hu0
    exact hq12 D _ v0 v2 v5 v8 v13 d c (n + 1) dl l x y p lo ws ms lw j hj (t1.same n1) sz (g2.same n1) np n2 (by omega) fun w13 n' H' p' hn' => done _ _ _ _ _ n' H' p' (by omega)
  have lq : ((qs.map V.ref)).length = ms.length := by rw [List.length_map, hL.1]
  refine ⟨_, rfl, _, rfl, rfl, _, rfl, ?_⟩
  refine ite2 (fun h => ?_) (fun h => ?_)
  · have hc : ms[j].ru = ("cleared" : Str) := by
      have := of_decide_eq_true h
      injection this
    refine ⟨Nat.le_of_ble_eq_true rfl, fun u hu0 => ⟨_, rfl, _, rfl, lo, _, (j : Int), j, rfl, rfl, ?_, ixN_at (by rw [lq]; exact hj), ?_⟩⟩
    · exact same_upd hu0 _ _ e2
    · exact fin "kept" (by unfold flip; rw [if_pos hc]) u hu0
  · have hc : ¬ ms[j].ru = ("cleared" : Str) := fun e => h (by rw [e]; simp)
    refine ⟨Nat.le_of_ble_eq_true rfl, fun u hu0 => ⟨_, rfl, _, rfl, lo, _, (j : Int), j, rfl, rfl, ?_, ixN_at (by rw [lq]; exact hj), ?_⟩⟩
    · exact same_upd hu0 _ _ e2
    · exact fin "cleared" (by unfold flip; rw [if_neg hc]) u hu0
end
end K1
set_option Elab.async false
set_option linter.all false
set_option maxRecDepth 100000
set_option maxHeartbeats 1000000
/-! k29's law: the lot made; the turn; the law -/
namespace K1
open PySem L2 LamX OwnT
theorem ixN_last {n : Nat} (h : 1 ≤ n) : ixN n (-1) = some (n - 1) := by
  unfold ixN
  rw [if_neg (by decide), if_pos (by omega)]
  congr 1
  omega
abbrev dI (xs : List Int) : PyData := .tuple (xs.map PyData.int)
theorem dI_l (xs : List Int) : (dI xs).canLay0 = true := by rw [PyData.canLay0, canLay_ints]
theorem dI_s (xs : List Int) : SeqAt.shaped (dI xs) = true := shaped_of (dI_l xs) (by rw [PyData.depth]; have := depth_ints xs; omega)
theorem dI_p {K : PySem.W.Frag} {H : Hp} {a : Addr} {xs : List Int} (h : SqT K H a (xs.map V.int)) : Dp K H (.ref a) (dI xs) := .tup h (dp_ints xs)
section
variable {P : Program} {w : World} {K : PySem.W.Frag} {mg : Str → Option Value} {base : Heap} {C CM CL : Addr}
theorem each_ok (F : Fs P w K mg base C CM CL) (f : Addr) (cdv : Value) (A : Around) (outer : List Env) (s : Shared) (H0 : Hp) (E : XK) (hr : Room 8 (cxOf CX0 P w K mg base nLaw "law" (defScope sLaw) f cdv A outer s H0 E).A) :
    ∃ t, PSs (cxOf CX0 P w K mg base nLaw "law" (defScope sLaw) f cdv A outer s H0 E).nox (lawBody.drop 5) t ∧
      ∀ (D : Ends) (H : Hp) (v0 v2 v5 v8 v9 v10 v11 v12 v13 : Option V) (d c : Addr) (n : Nat) (dl l x y : Addr) (ws : List Str) (ms : List Pm) (lw : Nat),
        Tz K C CM CL H d c n dl l x y ws ms → Sz ws ms lw → n ≤ 590000 →
        (∀ (v8 v9 v10 v11 v12 v13 : Option V) (n' : Nat) (H' : Hp), PenAt H' d c n' → n' ≤ n + 1010 → D.nx [v0, some (.ref d), v2, some (.ref dl), some (.ref l), v5, some (.ref x), some (.ref y), v8, v9, v10, v11, v12, v13] H') →
        t D [v0, some (.ref d), v2, some (.ref dl), some (.ref l), v5, some (.ref x), some (.ref y), v8, v9, v10, v11, v12, v13] H := by
  obtain ⟨t8, ht8, hq8⟩ := cmp_ok F f cdv A outer s H0 E hr
  obtain ⟨T2, M, MK, ML, _, _, _, _, _, _, _, ⟨fB, fdB, DB, GB⟩, ⟨fR, fdR, DR, GR⟩, _, _, _, _, ⟨fLn, fdLn, OLn, bLn, GLn⟩, ⟨fG, fdG, giG, fiG, fnG, bG, GG⟩, ⟨fQ, fdQ, OK', bQ, GQ'⟩, _, _⟩ := F
  have T1 : Bt mg := T2.toBt
  have hr1 : Room 1 (cxOf CX0 P w K mg base nLaw "law" (defScope sLaw) f cdv A outer s H0 E).nox.A := hr.mono (by decide)
  have hr2 : Room 2 (cxOf CX0 P w K mg base nLaw "law" (defScope sLaw) f cdv A outer s H0 E).nox.A := hr.mono (by decide)
  have hr3 : Room 3 (cxOf CX0 P w K mg base nLaw "law" (defScope sLaw) f cdv A outer s H0 E).nox.A := hr.mono (by decide)
  have hr6 : Room 6 (cxOf CX0 P w K mg base nLaw "law" (defScope sLaw) f cdv A outer s H0 E).nox.A := hr.mono (by decide)
  refine ⟨_, pss_cons (ps_if (PW.pt (pw_or (pt_cmpR op_ne (pe_callB (call_lenOwn OLn GLn hr2 bLn pass0) (by rfl) T1.len PySem.boot_len (pa_cons (pv 6) pa_nil)) (pe_callB call_len (by rfl) T1.len PySem.boot_len (pa_cons (pv 4) pa_nil)) (nomark _))
          (pw_or (pt_cmpR (op_neD hr.units) (pe_fld (pv 6) rfl) (pe_call GB hr1 rfl DB.g DB.F.kp DB.b .nil pass0 (pa_cons (pv 4) pa_nil)) (nomark _))
          (pw_or1 (pt_not (pt_val (pe_callB call_isi (by rfl) T2.isinstance PyProof.Rows.boot_isinstance (pa_cons (pe_fld (pv 6) rfl) (pa_cons (pe_bltn (v := .ty "tuple") (by rfl) T1.tuple PyProof.Rows.boot_tuple rfl) pa_nil))))))))) (pss_one (ps_ret pe_bl)) pss_nil)
      (pss_cons (ps_for PassesOwn.never rfl (pi_range1 rfl T1.range (pa_cons (pe_callB call_len (by rfl) T1.len PySem.boot_len (pa_cons (pv 4) pa_nil)) pa_nil)) (pg_name (i := 8) scLaw.nd rfl (Or.inl rfl))
        (pss_one (ps_if (PW.pt (pw_or (pt_not (pt_val (pe_call GR hr6 rfl DR.g DR.F.kp DR.b .nil pass0 (pa_cons (pe_ixOwn (pv 6) (pv 8) giG fiG fnG GG hr2 bG pass0)
              (pa_cons (pe_ix (r := rIxT K) ix_tup (pe_ix (r := rIxL K) ix_list (pv 4) (pv 8) (fun _ _ => rfl)) pe_int (fun _ _ => rfl)) (pa_cons (pe_ix (r := rIxT K) ix_tup (pe_ix (r := rIxL K) ix_list (pv 4) (pv 8) (fun _ _ => rfl)) pe_int (fun _ _ => rfl)) pa_nil))))))
            (pw_or1 (pt_cmpR (op_neOwn OK' GQ' hr3 bQ pass0) (pe_ix (r := rIxT K) ix_tup (pe_fld (pv 6) rfl) (pv 8) (fun _ _ => rfl)) (pe_ixOwn (pv 6) (pv 8) giG fiG fnG GG hr2 bG pass0) (nomark _))))) (pss_one (ps_ret pe_bl)) pss_nil)))
      (pss_cons (ps_if (pt_cmpR (op_neOwn OK' GQ' hr3 bQ pass0) (pe_ixOwn (pv 6) (pe_un un_neg pe_int) giG fiG fnG GG hr2 bG pass0) (pe_ixOwn (pv 7) (pe_op op_sub (pe_callB call_len (by rfl) T1.len PySem.boot_len (pa_cons (pv 4) pa_nil)) pe_int) giG fiG fnG GG hr2 bG pass0) (nomark _)) (pss_one (ps_ret pe_bl)) pss_nil)
        ht8)), ?_⟩
  intro D H v0 v2 v5 v8 v9 v10 v11 v12 v13 d c n dl l x y ws ms lw tz sz hn done
  have m5 := sz.m5
  have m1 := sz.m1
  have pms : ∀ m ∈ ms, PmS ws m := fun m hm => (sz.pm m hm).s
  obtain ⟨qs0, hl0, hL0⟩ := id tz.lot
  obtain ⟨dx, q, b, as, hx, hq, hb, hM⟩ := id tz.mad
  obtain ⟨dy, q2, b2, as2, hy, _⟩ := id tz.twn
  have lq : ms.length = (qs0.map V.ref).length := by rw [List.length_map, hL0.1]
  refine ⟨_, rfl, x, dx, _, rfl, hx, x, ws, ms, rfl, tz.mad, ms.length, rfl, Nat.le_of_lt (small1000 (by omega)), ?_⟩
  refine ⟨_, rfl, _, ms.length, rfl, .inl ⟨_, SqL.of hl0, lq⟩, rfl, _, rfl, ?_⟩
  refine ite2 (fun h => by simp at h) (fun _ => ?_)
  -- begin
  refine ⟨_, rfl, x, CL, dx, _, _, rfl, hx, ML.cl, ML.nB, lf_b _ _, _, rfl, d, l, ws, ms, rfl, tz.lot, by omega, fun p1 H1 hp1 s1 e1 => ?_⟩
  refine ⟨dI _, dI _, dI_p (hb.ext s1), dI_p (SqT.of e1), dI_s _, dI_s _, _, rfl, ?_⟩
  rw [PySem.SeqAt.eqv_refl _ (dI_l _)]
  refine iteF ?_
  -- isinstance
  refine ⟨_, rfl, x, CL, dx, _, _, rfl, s1 _ _ hx, ML.cl, ML.nM, lf_m _ _, _, _, _, _, true, rfl, .ty "tuple", .base (.tup (s1 _ _ hq)), kit_ty (by decide +kernel), true, rfl, ?_⟩
  refine iteF ?_
  have t1 := tz.same s1
  -- each
  refine ⟨_, rfl, _, ms.length, rfl, .inl ⟨_, SqL.of (s1 _ _ hl0), lq⟩, _, rfl, by omega, by omega, ?_⟩
  rw [Int.toNat_natCast]
  refine for_range (lo := 0) (n := ms.length) (fun i σ H' => Same H1 H' ∧ ∃ v8, σ = [v0, some (.ref d), v2, some (.ref dl), some (.ref l), v5, some (.ref x), some (.ref y), v8, v9, v10, v11, v12, v13]) ⟨Same.refl H1, v8, rfl⟩ ?_ ?_
  · rintro i σ H2 hi ⟨s2, v8', rfl⟩
    have s02 := Same.trans s1 s2
    have t2 := tz.same s02
    have ei : ((0 : Int) + (i : Nat)) = ((i : Nat) : Int) := by omega
    obtain ⟨qs, hl, hL⟩ := id t2.lot
    obtain ⟨tt, p, et, em, np, g1, g2⟩ := hL.get hi
    have pmi := sz.pm _ (List.getElem_mem hi)
    refine ⟨_, rfl, _, rfl, x, dx, _, rfl, s02 _ _ hx, x, _, i, ws, ms, ms[i], rfl, t2.mad, by rw [ei]; exact ixN_at hi, em, fun a mk => ?_⟩
    refine ⟨_, rfl, _, rfl, l, _, _, _, rfl, rfl, SqL.of hl, by rw [ei]; exact atI_nat (j := i) (v := V.ref tt) (by rw [List.getElem?_map, et]; rfl), tt, _, _, _, rfl, rfl, SqT.of g1, atI_nat (j := 0) rfl, ?_⟩
    refine ⟨_, rfl, _, rfl, l, _, _, _, rfl, rfl, SqL.of hl, by rw [ei]; exact atI_nat (j := i) (v := V.ref tt) (by rw [List.getElem?_map, et]; rfl), tt, _, _, _, rfl, rfl, SqT.of g1, atI_nat (j := 1) rfl, ?_⟩
    refine ⟨a, p, ws, ms[i], rfl, mk, pmi, g2, fun H3 s3 => ⟨true, rfl, iteF ?_⟩⟩
    have s03 := Same.trans s02 s3
    have t3 := tz.same s03
    obtain ⟨a', ea', em', mk'⟩ := (hM.same s03).get hi
    refine ⟨_, rfl, x, CL, dx, _, _, rfl, s03 _ _ hx, ML.cl, ML.nM, lf_m _ _, _, rfl, q, _, _, _, rfl, rfl, SqT.of (s03 _ _ hq), by rw [ei]; exact atI_nat (j := i) (v := V.ref a') (by rw [List.getElem?_map, ea']; rfl), ?_⟩
    refine ⟨_, rfl, _, rfl, x, dx, _, rfl, s03 _ _ hx, x, _, i, ws, ms, ms[i], rfl, t3.mad, by rw [ei]; exact ixN_at hi, em, fun a2 mk2 => ?_⟩
    obtain ⟨dk, xk, hk, _⟩ := id mk'
    obtain ⟨dk2, xk2, hk2, _⟩ := id mk2
    refine ⟨a', a2, dk, dk2, _, _, rfl, rfl, hk, hk2, a', a2, _, rfl, ⟨ws, ws, ms[i], ms[i], mk', mk2, pmi.s, pmi.s, rfl⟩, fun H4 s4 => ⟨_, rfl, _, rfl, ?_⟩⟩
    rw [pmEq_self, decide_eq_true rfl]
    refine iteF ?_
    exact ⟨(s2.trans s3).trans s4, _, rfl⟩
  rintro σ H2 ⟨s2, v8', rfl⟩
  have s02 := Same.trans s1 s2
  have t2 := tz.same s02
  -- made[-1] != twin[len - 1]
  have hlast : ms.length - 1 < ms.length := by omega
  have el : ms[ms.length - 1]? = some ms[ms.length - 1] := List.getElem?_eq_getElem hlast
  have pml := sz.pm _ (List.getElem_mem hlast)
  refine ⟨_, rfl, 1, rfl, x, dx, _, rfl, s02 _ _ hx, x, -1, ms.length - 1, ws, ms, _, rfl, t2.mad, ixN_last m1, el, fun a mk => ?_⟩
  refine ⟨_, rfl, _, rfl, _, ms.length, rfl, .inl ⟨_, SqL.of (s02 _ _ hl0), lq⟩, _, _, rfl, rfl, y, dy, _, rfl, s02 _ _ hy, y, (ms.length : Int) - 1, ms.length - 1, ws, ms, _, rfl, t2.twn, ?_, el, fun a2 mk2 => ?_⟩
  · rw [show ((ms.length : Int) - 1) = ((ms.length - 1 : Nat) : Int) by omega]
    exact ixN_at hlast
  obtain ⟨dk, xk, hk, _⟩ := id mk
  obtain ⟨dk2, xk2, hk2, _⟩ := id mk2
  refine ⟨a, a2, dk, dk2, _, _, rfl, rfl, hk, hk2, a, a2, _, rfl, ⟨ws, ws, _, _, mk, mk2, pml.s, pml.s, rfl⟩, fun H3 s3 => ⟨_, rfl, _, rfl, ?_⟩⟩
  rw [pmEq_self, decide_eq_true rfl]
  refine iteF ?_
  exact hq8 D H3 v0 v2 v5 v8' v9 v10 v11 v12 v13 d c n dl l x y ws ms lw (t2.same s3) sz hn fun w9 w10 w11 w12 w13 n' H' p' hn' => done _ _ _ _ _ _ n' H' p' hn'
end
end K1
set_option Elab.async false
set_option linter.all false
set_option maxRecDepth 100000
set_option maxHeartbeats 1000000
/-! k29's law -/
namespace K1
open PySem L2 LamX OwnT
def spLaw (K : PySem.W.Frag) : Sp := fun vs H Q _ => ∃ (a : Addr) (ns : List Int), vs = [.ref a] ∧ SqL K H a (ns.map V.int) ∧ ns.length ≤ 63 ∧ ∀ H', Q (.bl true) H'
def menu4 : List Str := ["x", "y", "z", "0"]
theorem menu4_ok : ∀ z ∈ menu4, 1 ≤ z.cps.toList.length ∧ z.cps.toList.length ≤ 60 ∧ ∀ x ∈ z.cps.toList, x ∈ TL' := by decide +kernel
theorem menu4_tl {z : Str} (h : z ∈ menu4) : Tl z := menu4_ok z h
theorem LotAt.upL {K : PySem.W.Frag} {C CM CL D : Addr} {H : Hp} {x : Addr} {ws : List Str} {ms : List Pm} {xs ys : List V} (h : LotAt K C CM CL H x ws ms) (hD : H D = some (.lst xs)) : LotAt K C CM CL (upd H D (.lst ys)) x ws ms := by
  obtain ⟨dx, q, b, as, h1, h2, h3, h4⟩ := h
  refine ⟨dx, q, b, as, by rw [upd_ne (ne_of h1 hD (by intro z; cases z))]; exact h1, by rw [upd_ne (ne_of h2 hD (by intro z; cases z))]; exact h2, ?_, h4.upL hD⟩
  rcases h3 with (h | ⟨o, h⟩) | h
  · exact .inl (.inl (by rw [upd_ne (ne_of h hD (by intro z; cases z))]; exact h))
  · exact .inl (.inr ⟨o, by rw [upd_ne (ne_of h hD (by intro z; cases z))]; exact h⟩)
  · exact .inr h
section
variable {P : Program} {w : World} {K : PySem.W.Frag} {mg : Str → Option Value} {base : Heap} {C CM CL : Addr}
theorem ok_law (F : Fs P w K mg base C CM CL) {f : Addr} {fd : FuncData} (FL : Fun K "law" "law" sLaw f fd) : FnOk P w K mg base CX0 9 f fd ["_law_script"] (spLaw K) := by
  refine FL.ok scLaw (fun vs H Q E h => ?_) (fun cdv A outer s H vs Q E hr h => ?_)
  · obtain ⟨a, ns, rfl, _⟩ := h
    rfl
  · obtain ⟨a, ns, rfl, ha, hns, k⟩ := h
    obtain ⟨t5, ht5, hq5⟩ := each_ok F f cdv A outer s H E hr
    obtain ⟨T2, M, MK, ML, ⟨fE, fdE, DE, GE⟩, ⟨fD, fdD, DD, GD⟩, _, ⟨fW, fdW, DW, GW⟩, ⟨fMd, fdMd, DMd, GMd⟩, ⟨fT, fdT, DT, GT⟩, ⟨fM, fdM, DM, GM⟩, _, _, _, _, ⟨fK, fdK, MkK, bK, GK⟩, ⟨fLI, fdLI, MkL, bLI, GLI⟩, ⟨fLn, fdLn, OLn, bLn, GLn⟩, _, _, _, _⟩ := F
    have T1 : Bt mg := T2.toBt
    have hr1 : Room 1 (cxOf CX0 P w K mg base nLaw "law" (defScope sLaw) f cdv A outer s H E).nox.A := hr.mono (by decide)
    have hr2 : Room 2 (cxOf CX0 P w K mg base nLaw "law" (defScope sLaw) f cdv A outer s H E).nox.A := hr.mono (by decide)
    have hr3 : Room 3 (cxOf CX0 P w K mg base nLaw "law" (defScope sLaw) f cdv A outer s H E).nox.A := hr.mono (by decide)
    have hr4 : Room 4 (cxOf CX0 P w K mg base nLaw "law" (defScope sLaw) f cdv A outer s H E).nox.A := hr.mono (by decide)
    have hr7 : Room 7 (cxOf CX0 P w K mg base nLaw "law" (defScope sLaw) f cdv A outer s H E).nox.A := hr.mono (by decide)
    refine ⟨_, pss_cons (ps_set (i := 1) scLaw.nd rfl (Or.inl rfl) (pe_call GE hr1 rfl DE.g DE.F.kp DE.b .nil pass0 (pa_cons (pv 0) pa_nil)))
      (pss_cons (ps_for PassesOwn.never rfl (pi_range1 rfl T1.range (pa_cons (pe_op op_add pe_int (pe_callB (call_min2 rfl) (by rfl) T2.min PyProof.Rows.boot_min (pa_cons pe_int (pa_cons (pe_callB call_len (by rfl) T1.len PySem.boot_len (pa_cons (pv 0) pa_nil)) pa_nil)))) pa_nil)) (pg_name (i := 2) scLaw.nd rfl (Or.inl rfl))
        (pss_cons (ps_set (i := 3) scLaw.nd rfl (Or.inl rfl) (pe_call GW hr3 rfl DW.g DW.F.kp DW.b .nil pass0 (pa_cons (pv 1) (pa_cons (pe_op op_add pe_int (pe_call GD hr1 rfl DD.g DD.F.kp DD.b .nil pass0 (pa_cons (pv 1) (pa_cons pe_int pa_nil)))) pa_nil))))
        (pss_cons (ps_set (i := 4) scLaw.nd rfl (Or.inl rfl) (pe_call GT hr4 rfl DT.g DT.F.kp DT.b .nil pass0 (pa_cons (pv 1) (pa_cons (pv 3) (pa_cons (pe_op op_add pe_int (pe_call GD hr1 rfl DD.g DD.F.kp DD.b .nil pass0 (pa_cons (pv 1) (pa_cons pe_int pa_nil)))) (pa_cons pe_int (pa_cons (pe_lst (pa_cons pe_str (pa_cons pe_str (pa_cons pe_str (pa_cons pe_str pa_nil))))) pa_nil)))))))
        (pss_cons (ps_setLc (i := 5) (own := [("_law_plain_here", 10), ("_law_rule", 11)]) (g := gTup K 2 (gCons (gName 10) (gCons (gName 11) gNil))) (by rfl) scLaw.nd rfl rfl (sw_true rfl rfl rfl (by decide +kernel)) (pi_list (pv 4))
            (blkOk_by (own := [("_law_plain_here", 10), ("_law_rule", 11)]) (N := nLaw) (sc := defScope sLaw) (by decide +kernel)) (fun _ _ _ _ _ => pg_tup (by rfl) (pgs_cons (pg_name (i := 10) scLaw.nd rfl (Or.inl rfl)) (pgs_cons (pg_name (i := 11) scLaw.nd rfl (Or.inl rfl)) pgs_nil))) (fun _ _ _ _ _ => pts_nil)
            (fun _ _ _ _ _ => pe_make MkK GK hr2 rfl MK.mgC bK .nil pass0 (pa_cons (pe_call GMd hr7 rfl DMd.g DMd.F.kp DMd.b .nil pass0 (pa_cons (pv 10) pa_nil)) (pa_cons (pv 11) pa_nil))))
        (pss_cons (ps_par (i := 6) (j := 7) (by rfl) scLaw.nd rfl rfl (by decide) rfl rfl (pa_cons (pe_make MkL GLI hr2 rfl ML.mgC bLI .nil pass0 (pa_cons (pv 5) pa_nil)) (pa_cons (pe_call GM hr rfl DM.g DM.F.kp DM.b .nil pass0 (pa_cons (pv 4) pa_nil)) pa_nil)) (by rfl))
        (pss_cons (ps_expr (pe_bm0 PySem.F.plainAttrs_list PySem.F.slot_list_clear PySem.F.type_list_clear mt_clear (pv 5)))
          ht5))))))
      (pss_one (ps_ret (pe_and (pe_cmpR op_eq (pe_callB (call_lenOwn OLn GLn hr2 bLn pass0) (by rfl) T1.len PySem.boot_len (pa_cons (pe_make MkL GLI hr2 rfl ML.mgC bLI .nil pass0 (pa_cons (pe_lst pa_nil) pa_nil)) pa_nil)) pe_int (nomark _))
        (pe_one (pe_cmpR (op_eqD hr.units) (pe_fld (pe_make MkL GLI hr2 rfl ML.mgC bLI .nil pass0 (pa_cons (pe_lst pa_nil) pa_nil)) rfl) (pe_tup pa_nil) (nomark _))))))), ?_⟩
    refine ⟨_, rfl, a, ns, rfl, ha, hns, fun d cc Hs hd0 hc0 hpen0 sm0 => ?_⟩
    refine ⟨_, rfl, _, ns.length, rfl, .inl ⟨_, sm0.seq ha, (List.length_map _).symm⟩, _, _, rfl, _, _, rfl, rfl, ?_⟩
    obtain ⟨J, eJ, hJ⟩ : ∃ J : Nat, (4 + (if (ns.length : Int) < 4 then (ns.length : Int) else 4)) = (J : Int) ∧ J ≤ 8 := by
      by_cases h : (ns.length : Int) < 4
      · rw [if_pos h]; exact ⟨4 + ns.length, by omega, by omega⟩
      · rw [if_neg h]; exact ⟨8, by omega, by omega⟩
    refine ⟨(J : Int), by rw [← eJ], by omega, by omega, ?_⟩
    rw [Int.toNat_natCast]
    refine for_range (lo := 0) (n := J) (fun i σ H' => ∃ (v2 v3 v4 v5 v6 v7 v8 v9 v10 v11 v12 v13 : Option V) (n : Nat), σ = [some (.ref a), some (.ref d), v2, v3, v4, v5, v6, v7, v8, v9, v10, v11, v12, v13] ∧ PenAt H' d cc n ∧ n ≤ 5000 * i) ?_ ?_ ?_
    · exact ⟨_, _, _, _, _, _, _, _, _, _, _, _, 0, rfl, hpen0, Nat.le_refl _⟩
    · rintro i σ H1 hi ⟨v2, v3, v4, v5, v6, v7, v8, v9, v10, v11, v12, v13, n, rfl, hp1, hn⟩
      -- deeds
      refine ⟨_, rfl, _, rfl, d, cc, n, 3, rfl, hp1, by omega, by decide, by decide, fun r0 H2 r00 r01 hp2 kp2 => ⟨_, _, rfl, rfl, ?_⟩⟩
      obtain ⟨M', eM, hM'⟩ : ∃ M' : Nat, 1 + r0 = (M' : Int) ∧ (1 ≤ M' ∧ M' ≤ 3) := ⟨(1 + r0).toNat, by omega, by omega, by omega⟩
      refine ⟨d, cc, n + 1, M', by show [V.ref d, V.int (1 + r0)] = _; rw [eM], hp2, by omega, by omega, fun dl ws H3 hdl0 hdl3 hwl hnd hwd heq hp3 kp3 => ?_⟩
      obtain ⟨lw, hl7, hlw⟩ := heq
      have gd : GoodD ws := ⟨hnd, hwd, by omega, by omega⟩
      have ndl : dl ≠ d := (hp2.ne hdl0).1
      -- the lot
      refine ⟨_, rfl, _, rfl, _, rfl, d, cc, _, 5, rfl, hp3, by omega, by decide, by decide, fun r1 H4 r10 r11 hp4 kp4 => ⟨_, _, rfl, rfl, Nat.le_of_ble_eq_true rfl, fun lm hlm => ?_⟩⟩
      obtain ⟨M2, eM2, hM2⟩ : ∃ M2 : Nat, 1 + r1 = (M2 : Int) ∧ (1 ≤ M2 ∧ M2 ≤ 5) := ⟨(1 + r1).toNat, by omega, by omega, by omega⟩
      have s5 := same_upd (o := .lst [V.str "x", V.str "y", V.str "z", V.str "0"]) hlm
      have hlm5 : upd H4 lm (.lst [V.str "x", V.str "y", V.str "z", V.str "0"]) lm = some (.lst (menu4.map V.str)) := upd_same
      have nlm := (hp4.ne hlm).1
      have hp5 := hp4.same s5
      have hdl5 := s5 _ _ (kp4 _ _ hdl3 ndl)
      generalize upd H4 lm (.lst [V.str "x", V.str "y", V.str "z", V.str "0"]) = H5 at s5 hlm5 hp5 hdl5 ⊢
      refine ⟨d, cc, dl, lm, _, M2, 4, ws, menu4, by show [V.ref d, V.ref dl, V.int (1 + r1), V.int 4, V.ref lm] = _; rw [eM2], hp5, by omega, SqL.of hdl5, ndl, by omega, SqL.of hlm5, nlm, by decide, by decide, by decide, by decide, by omega, fun l ms H6 hl0 hlP hml hmg hp6 kp6 => ?_⟩
      have pm : ∀ m ∈ ms, PmOk ws m := fun m hm => by
        obtain ⟨gp, hru⟩ := hmg m hm
        exact ⟨⟨gd, ⟨gp.many.1, by have := gp.many.2; omega⟩, gp.row, ⟨gp.tl.1, fun z hz => menu4_tl (gp.tl.2 z hz)⟩, gp.st⟩, hru⟩
      have hdl6 := kp6 _ _ hdl5 ndl
      -- marks
      obtain ⟨qs, hl6, hL6⟩ := id hlP
      refine ⟨_, rfl, l, rfl, ⟨_, SqL.of hl6⟩, fun mk hmk0 => ?_⟩
      refine lc_list (K := K) (a := l) (xs := qs.map V.ref) (fun i H' => ∃ as : List Addr, Same H6 H' ∧ H' mk = some (.lst (as.map V.ref)) ∧ MarksAt K C CM H' as ws (ms.take i)) ?_ ?_ ?_ ?_
      · exact ⟨[], same_upd hmk0, upd_same, ⟨by simp, fun i a m e => by simp at e⟩⟩
      · rintro i' H' _ ⟨as, sm, _⟩
        exact SqL.of (sm _ _ hl6)
      · rintro i' y H7 hi' ⟨as, sm, hD, hM⟩
        rw [List.getElem?_map] at hi'
        obtain ⟨t, et, rfl⟩ := Option.map_eq_some_iff.mp hi'
        have hil : i' < ms.length := by rw [← hL6.1]; exact (List.getElem?_eq_some_iff.mp et).1
        obtain ⟨t', p5, et', em, npd, g1, g2⟩ := hL6.get hil
        rw [et] at et'; cases et'
        have pmi := pm _ (List.getElem_mem hil)
        refine ⟨t, _, rfl, SqT.of (sm _ _ g1), rfl, _, _, rfl, _, _, rfl, rfl, rfl, ⟨_, rfl, p5, ws, _, _, _, rfl, g2.same sm, pmi.pt, fun x5 H8 hx5 mac5 s8 => ?_⟩⟩
        refine ⟨_, rfl, fun a da ha hda nda => ?_⟩
        have pre := made_pre (C := CM) ha hda
        refine ⟨a, da, x5, _, rfl, upd_same, pmi.ru, fun H9 e9 k9 => ⟨rfl, ?_⟩⟩
        have s9 := made_same ha hda k9
        have s79 := s8.trans s9
        have hD9 := s79 _ _ hD
        refine ⟨_, hD9, ?_, as ++ [a], ?_, ?_, ?_⟩
        · rw [List.length_map, hM.1, List.length_take]; exact small1000 (by omega)
        · exact fun b u e => by rw [upd_ne (ne_of_none e hmk0)]; exact s79 _ _ (sm b u e)
        · rw [upd_same, List.map_append]; rfl
        · have e : ms.take (i' + 1) = ms.take i' ++ [ms[i']] := by rw [List.take_add_one, em]; rfl
          rw [e]
          exact ((hM.same s79).snoc ⟨da, x5, e9, mac5.same s9⟩).upL hD9
      rintro H7 ⟨as, s7, hD7, hM7⟩
      rw [List.length_map, hL6.1, List.take_length] at hM7
      -- Lot(marks), the twin
      refine ⟨_, rfl, fun x dx hx hdx ndx => ?_⟩
      have pre8 := made_pre (C := CL) hx hdx
      refine ⟨x, dx, mk, as, ws, ms, rfl, upd_same, SqL.of (pre8 _ _ hD7), hM7.same pre8, by omega, ok_wd gd.wd, fun H8 lot8 k8 => ⟨rfl, ?_⟩⟩
      have s8 := made_same hx hdx k8
      have s68 := s7.trans s8
      refine ⟨_, rfl, d, l, ws, ms, rfl, hlP.same s68, by omega, ok_wd gd.wd, pm, fun y H9 hy0 s9 lot9 => ⟨_, _, rfl, ?_⟩⟩
      have s69 := s68.trans s9
      have hD9 := s9 _ _ (s8 _ _ hD7)
      have lot8' := lot8.same s9
      -- clear
      refine ⟨_, rfl, .inl ⟨rfl, _, SqL.of hD9⟩, mk, _, rfl, rfl, hD9, ?_⟩
      have sF : Same H6 (upd H9 mk (.lst [])) := fun b u e => by rw [upd_ne (ne_of_none e hmk0)]; exact s69 b u e
      have tz : Tz K C CM CL (upd H9 mk (.lst [])) d cc _ dl l x y ws ms := ⟨hp6.same sF, sF _ _ hdl6, hlP.same sF, lot8'.upL hD9, lot9.upL hD9⟩
      have sz : Sz ws ms lw := ⟨⟨gd, hlw, hl7, by omega⟩, by omega, by omega, pm⟩
      refine hq5 _ _ _ _ _ v8 v9 _ _ v12 v13 d cc _ dl l x y ws ms lw tz sz (by omega) ?_
      intro w8 w9 w10 w11 w12 w13 n' H' p' hn'
      exact ⟨_, _, _, _, _, _, _, _, _, _, _, _, n', rfl, p', by omega⟩
    · rintro σ H1 ⟨v2, v3, v4, v5, v6, v7, v8, v9, v10, v11, v12, v13, n, rfl, hp1, hn⟩
      refine ⟨Nat.zero_le _, fun l0 hl0 => ?_⟩
      intro x1 d1 hx1 hd1 nd1
      have pre1 := made_pre (C := CL) hx1 hd1
      refine ⟨x1, d1, l0, [], [], [], rfl, upd_same, SqL.of (pre1 _ _ upd_same), ⟨rfl, fun i a m e => by simp at e⟩, by simp, (fun z hz => by simp at hz), fun G lot1 k1 => ⟨rfl, ?_⟩⟩
      obtain ⟨dx1, q1, b1, as1, ex1, _⟩ := id lot1
      refine ⟨x1, dx1, _, rfl, ex1, x1, [], [], rfl, lot1, 0, rfl, Nat.zero_le _, rfl, true, rfl, iteT ?_⟩
      refine ⟨Nat.zero_le _, fun l2 hl2 => ?_⟩
      intro x2 d2 hx2 hd2 nd2
      have pre2 := made_pre (C := CL) hx2 hd2
      refine ⟨x2, d2, l2, [], [], [], rfl, upd_same, SqL.of (pre2 _ _ upd_same), ⟨rfl, fun i a m e => by simp at e⟩, by simp, (fun z hz => by simp at hz), fun G2 lot2 k2 => ⟨rfl, ?_⟩⟩
      obtain ⟨dx2, q2, b2, as2, ex2, _, eb2, _⟩ := id lot2
      refine ⟨x2, CL, dx2, _, _, rfl, ex2, ML.cl, ML.nB, lf_b _ _, Nat.zero_le _, fun e9 he9 => ?_⟩
      have s9 := same_upd (o := .tup []) he9
      refine ⟨dI [], dI [], dI_p (xs := []) (SqT.ext eb2 s9), dI_p (xs := []) (SqT.of upd_same), dI_s _, dI_s _, ?_⟩
      rw [PySem.SeqAt.eqv_refl _ (dI_l _)]
      exact k _
end
end K1
set_option Elab.async false
set_option linter.all false
set_option maxRecDepth 100000
namespace K1
open PySem PyProof.Rows L2 LamX
set_option maxHeartbeats 0 in
theorem all_mk {l : PySem.W.OpenLaw} {q : Program} {w : World} {K : PySem.W.Frag} {h : Heap} {mg : Str → Option Value}
    {E0 f1 f2 f3 f4 f5 f6 f7 f8 f9 f10 f11 f12 f13 f14 f15 f16 f17 f18 f19 f20 f21 f22 f23 f24 f25 f26 f27 f28 f29 T29 C f30 T30 f31 f32 f33 CM f34 f35 CL f36 f37 f38 f39 f40 pW ET NT f41 EO NO f42 ER NR f43 pR fa : Addr}
    {od1 an1 od2 an2 od3 an3 od4 an4 od5 an5 od6 an6 od7 an7 od8 an8 od9 an9 od10 an10 od11 an11 od12 an12 od13 an13 od14 an14 od15 an15 od16 an16 od17 an17 od18 an18 od19 an19 od20 an20 od21 an21 od22 an22 od23 an23 od24 an24 od25 an25 od26 an26 od27 an27 od28 an28 odT29 od29 an29 odT30 od30 an30 od31 an31 od32 an32 od33 an33 od34 an34 od35 an35 od36 an36 od37 an37 od38 an38 od39 an39 od40 an40 ddT od41 an41 ddO od42 an42 ddR od43 an43 : Option Addr}
    {sl1 sl2 sl3 sl4 sl5 sl6 sl7 sl8 sl9 sl10 sl11 sl12 sl13 sl14 sl15 sl16 sl17 sl18 sl19 sl20 sl21 sl22 sl23 sl24 sl25 sl26 sl27 sl28 slT29 sl29 slT30 sl30 sl31 sl32 sl33 sl34 sl35 sl36 sl37 sl38 sl39 sl40 sl41 sl42 sl43 : Array (Option Value)}
    {oc1 kV1 dc1 pm1 ct1 cd1 oc2 kV2 dc2 pm2 ct2 cd2 oc3 kV3 dc3 pm3 ct3 cd3 oc4 kV4 dc4 pm4 ct4 cd4 oc5 kV5 dc5 pm5 ct5 cd5 oc6 kV6 dc6 pm6 ct6 cd6 oc7 kV7 dc7 pm7 ct7 cd7 oc8 kV8 dc8 pm8 ct8 cd8 oc9 kV9 dc9 pm9 ct9 cd9 oc10 kV10 dc10 pm10 ct10 cd10 oc11 kV11 dc11 pm11 ct11 cd11 oc12 kV12 dc12 pm12 ct12 cd12 oc13 kV13 dc13 pm13 ct13 cd13 oc14 kV14 dc14 pm14 ct14 cd14 oc15 kV15 dc15 pm15 ct15 cd15 oc16 kV16 dc16 pm16 ct16 cd16 oc17 kV17 dc17 pm17 ct17 cd17 oc18 kV18 dc18 pm18 ct18 cd18 oc19 kV19 dc19 pm19 ct19 cd19 oc20 kV20 dc20 pm20 ct20 cd20 oc21 kV21 dc21 pm21 ct21 cd21 oc22 kV22 dc22 pm22 ct22 cd22 oc23 kV23 dc23 pm23 ct23 cd23 oc24 kV24 dc24 pm24 ct24 cd24 oc25 kV25 dc25 pm25 ct25 cd25 oc26 kV26 dc26 pm26 ct26 cd26 oc27 kV27 dc27 pm27 ct27 cd27 oc28 kV28 dc28 pm28 ct28 cd28 ocT29 oc29 kV29 dc29 pm29 ct29 cd29 ocT30 oc30 kV30 dc30 pm30 ct30 cd30 oc31 kV31 dc31 pm31 ct31 cd31 oc32 kV32 dc32 pm32 ct32 cd32 oc33 kV33 dc33 pm33 ct33 cd33 oc34 kV34 dc34 pm34 ct34 cd34 oc35 kV35 dc35 pm35 ct35 cd35 oc36 kV36 dc36 pm36 ct36 cd36 oc37 kV37 dc37 pm37 ct37 cd37 oc38 kV38 dc38 pm38 ct38 cd38 oc39 kV39 dc39 pm39 ct39 cd39 oc40 kV40 dc40 pm40 ct40 cd40 oc41 kV41 dc41 pm41 ct41 cd41 oc42 kV42 dc42 pm42 ct42 cd42 oc43 kV43 dc43 pm43 ct43 cd43 : Value}
    {m0T m1T m2T m3T m5T m0O m1O m2O m3O m5O m0R m1R m2R m3R m5R : Option Value}
    {tc0 tc1 tc2 tc3 tc4 tc5 tc6 tc7 : Tok}
    {nT29 nT30 nqpR : Nat}
    {nmT qnT nmO qnO nmR qnR : Str}
    {rW bsT subT bsO subO bsR subR : List Value}
    {snT snO snR : List Str}
    {abT abO abR : Bool}
    {colT colO colR : Option Bool}
    {iqpR : Array Value}
    {oqpR : Obj}
    (X : K.In h) (G : h.Ns mainGlobals mg) (hfa : mg "law" = some (.ref fa)) (O : OwnTabs q mg h)
    (a1 : PySem.W.nsIn K mainGlobals "_law_pen" = some (some (.ref f1)))
    (l1 : K.lookup f1 = some ⟨oc1, od1, .func (PySem.W.fnOf "_law_pen" "_law_pen" (defArgs sPen) (defBody sPen) (defScope sPen) .none kV1 dc1 pm1 an1 cd1 ct1), sl1⟩)
    (c1 : PySem.W.codeIn K (cd1) "_law_pen" = true)
    (k1 : PySem.W.keepIn K (.ref f1) = true)
    (a2 : PySem.W.nsIn K mainGlobals "_law_draw" = some (some (.ref f2)))
    (l2 : K.lookup f2 = some ⟨oc2, od2, .func (PySem.W.fnOf "_law_draw" "_law_draw" (defArgs sDraw) (defBody sDraw) (defScope sDraw) .none kV2 dc2 pm2 an2 cd2 ct2), sl2⟩)
    (c2 : PySem.W.codeIn K (cd2) "_law_draw" = true)
    (k2 : PySem.W.keepIn K (.ref f2) = true)
    (a3 : PySem.W.nsIn K mainGlobals "_law_pick" = some (some (.ref f3)))
    (l3 : K.lookup f3 = some ⟨oc3, od3, .func (PySem.W.fnOf "_law_pick" "_law_pick" (defArgs sPick) (defBody sPick) (defScope sPick) .none kV3 dc3 pm3 an3 cd3 ct3), sl3⟩)
    (c3 : PySem.W.codeIn K (cd3) "_law_pick" = true)
    (k3 : PySem.W.keepIn K (.ref f3) = true)
    (a4 : PySem.W.nsIn K mainGlobals "_law_words" = some (some (.ref f4)))
    (l4 : K.lookup f4 = some ⟨oc4, od4, .func (PySem.W.fnOf "_law_words" "_law_words" (defArgs sWords) (defBody sWords) (defScope sWords) .none kV4 dc4 pm4 an4 cd4 ct4), sl4⟩)
    (c4 : PySem.W.codeIn K (cd4) "_law_words" = true)
    (k4 : PySem.W.keepIn K (.ref f4) = true)
    (a5 : PySem.W.nsIn K mainGlobals "_law_plain" = some (some (.ref f5)))
    (l5 : K.lookup f5 = some ⟨oc5, od5, .func (PySem.W.fnOf "_law_plain" "_law_plain" (defArgs sPlain) (defBody sPlain) (defScope sPlain) .none kV5 dc5 pm5 an5 cd5 ct5), sl5⟩)
    (c5 : PySem.W.codeIn K (cd5) "_law_plain" = true)
    (k5 : PySem.W.keepIn K (.ref f5) = true)
    (a6 : PySem.W.nsIn K mainGlobals "_law_made" = some (some (.ref f6)))
    (l6 : K.lookup f6 = some ⟨oc6, od6, .func (PySem.W.fnOf "_law_made" "_law_made" (defArgs sMade) (defBody sMade) (defScope sMade) .none kV6 dc6 pm6 an6 cd6 ct6), sl6⟩)
    (c6 : PySem.W.codeIn K (cd6) "_law_made" = true)
    (k6 : PySem.W.keepIn K (.ref f6) = true)
    (a7 : PySem.W.nsIn K mainGlobals "_law_first_rows" = some (some (.ref f7)))
    (l7 : K.lookup f7 = some ⟨oc7, od7, .func (PySem.W.fnOf "_law_first_rows" "_law_first_rows" (defArgs sFirst) (defBody sFirst) (defScope sFirst) .none kV7 dc7 pm7 an7 cd7 ct7), sl7⟩)
    (c7 : PySem.W.codeIn K (cd7) "_law_first_rows" = true)
    (k7 : PySem.W.keepIn K (.ref f7) = true)
    (a8 : PySem.W.nsIn K mainGlobals "_law_is_machine" = some (some (.ref f8)))
    (l8 : K.lookup f8 = some ⟨oc8, od8, .func (PySem.W.fnOf "_law_is_machine" "_law_is_machine" (defArgs sIsM) (defBody sIsM) (defScope sIsM) .none kV8 dc8 pm8 an8 cd8 ct8), sl8⟩)
    (c8 : PySem.W.codeIn K (cd8) "_law_is_machine" = true)
    (k8 : PySem.W.keepIn K (.ref f8) = true)
    (a9 : PySem.W.nsIn K mainGlobals "_law_lot" = some (some (.ref f9)))
    (l9 : K.lookup f9 = some ⟨oc9, od9, .func (PySem.W.fnOf "_law_lot" "_law_lot" (defArgs sLot) (defBody sLot) (defScope sLot) .none kV9 dc9 pm9 an9 cd9 ct9), sl9⟩)
    (c9 : PySem.W.codeIn K (cd9) "_law_lot" = true)
    (k9 : PySem.W.keepIn K (.ref f9) = true)
    (a10 : PySem.W.nsIn K mainGlobals "_law_lot_made" = some (some (.ref f10)))
    (l10 : K.lookup f10 = some ⟨oc10, od10, .func (PySem.W.fnOf "_law_lot_made" "_law_lot_made" (defArgs sLotM) (defBody sLotM) (defScope sLotM) .none kV10 dc10 pm10 an10 cd10 ct10), sl10⟩)
    (c10 : PySem.W.codeIn K (cd10) "_law_lot_made" = true)
    (k10 : PySem.W.keepIn K (.ref f10) = true)
    (a11 : PySem.W.nsIn K mainGlobals "_law_begin" = some (some (.ref f11)))
    (l11 : K.lookup f11 = some ⟨oc11, od11, .func (PySem.W.fnOf "_law_begin" "_law_begin" (defArgs sBegin) (defBody sBegin) (defScope sBegin) .none kV11 dc11 pm11 an11 cd11 ct11), sl11⟩)
    (c11 : PySem.W.codeIn K (cd11) "_law_begin" = true)
    (k11 : PySem.W.keepIn K (.ref f11) = true)
    (a12 : PySem.W.nsIn K mainGlobals "_law_hides" = some (some (.ref f12)))
    (l12 : K.lookup f12 = some ⟨oc12, od12, .func (PySem.W.fnOf "_law_hides" "_law_hides" (defArgs sHidL) (defBody sHidL) (defScope sHidL) .none kV12 dc12 pm12 an12 cd12 ct12), sl12⟩)
    (c12 : PySem.W.codeIn K (cd12) "_law_hides" = true)
    (k12 : PySem.W.keepIn K (.ref f12) = true)
    (a13 : PySem.W.nsIn K mainGlobals "_law_mark_right" = some (some (.ref f13)))
    (l13 : K.lookup f13 = some ⟨oc13, od13, .func (PySem.W.fnOf "_law_mark_right" "_law_mark_right" (defArgs sMkR) (defBody sMkR) (defScope sMkR) .none kV13 dc13 pm13 an13 cd13 ct13), sl13⟩)
    (c13 : PySem.W.codeIn K (cd13) "_law_mark_right" = true)
    (k13 : PySem.W.keepIn K (.ref f13) = true)
    (a14 : PySem.W.nsIn K mainGlobals "_law_rule_fault" = some (some (.ref f14)))
    (l14 : K.lookup f14 = some ⟨oc14, od14, .func (PySem.W.fnOf "_law_rule_fault" "_law_rule_fault" (defArgs sRuleF) (defBody sRuleF) (defScope sRuleF) .none kV14 dc14 pm14 an14 cd14 ct14), sl14⟩)
    (c14 : PySem.W.codeIn K (cd14) "_law_rule_fault" = true)
    (k14 : PySem.W.keepIn K (.ref f14) = true)
    (a15 : PySem.W.nsIn K mainGlobals "_law_lot_fault" = some (some (.ref f15)))
    (l15 : K.lookup f15 = some ⟨oc15, od15, .func (PySem.W.fnOf "_law_lot_fault" "_law_lot_fault" (defArgs sLotF) (defBody sLotF) (defScope sLotF) .none kV15 dc15 pm15 an15 cd15 ct15), sl15⟩)
    (c15 : PySem.W.codeIn K (cd15) "_law_lot_fault" = true)
    (k15 : PySem.W.keepIn K (.ref f15) = true)
    (a16 : PySem.W.nsIn K mainGlobals "_law_lots_refused" = some (some (.ref f16)))
    (l16 : K.lookup f16 = some ⟨oc16, od16, .func (PySem.W.fnOf "_law_lots_refused" "_law_lots_refused" (defArgs sLRef) (defBody sLRef) (defScope sLRef) .none kV16 dc16 pm16 an16 cd16 ct16), sl16⟩)
    (c16 : PySem.W.codeIn K (cd16) "_law_lots_refused" = true)
    (k16 : PySem.W.keepIn K (.ref f16) = true)
    (a17 : PySem.W.nsIn K mainGlobals "law" = some (some (.ref f17)))
    (l17 : K.lookup f17 = some ⟨oc17, od17, .func (PySem.W.fnOf "law" "law" (defArgs sLaw) (defBody sLaw) (defScope sLaw) .none kV17 dc17 pm17 an17 cd17 ct17), sl17⟩)
    (c17 : PySem.W.codeIn K (cd17) "law" = true)
    (k17 : PySem.W.keepIn K (.ref f17) = true)
    (a18 : PySem.W.nsIn K mainGlobals "is_integer" = some (some (.ref f18)))
    (l18 : K.lookup f18 = some ⟨oc18, od18, .func (PySem.W.fnOf "is_integer" "is_integer" (defArgs sIsInt) (defBody sIsInt) (defScope sIsInt) .none kV18 dc18 pm18 an18 cd18 ct18), sl18⟩)
    (c18 : PySem.W.codeIn K (cd18) "is_integer" = true)
    (k18 : PySem.W.keepIn K (.ref f18) = true)
    (a19 : PySem.W.nsIn K mainGlobals "is_index" = some (some (.ref f19)))
    (l19 : K.lookup f19 = some ⟨oc19, od19, .func (PySem.W.fnOf "is_index" "is_index" (defArgs sIsIndex) (defBody sIsIndex) (defScope sIsIndex) .none kV19 dc19 pm19 an19 cd19 ct19), sl19⟩)
    (c19 : PySem.W.codeIn K (cd19) "is_index" = true)
    (k19 : PySem.W.keepIn K (.ref f19) = true)
    (a20 : PySem.W.nsIn K mainGlobals "is_word" = some (some (.ref f20)))
    (l20 : K.lookup f20 = some ⟨oc20, od20, .func (PySem.W.fnOf "is_word" "is_word" (defArgs sIsWord) (defBody sIsWord) (defScope sIsWord) .none kV20 dc20 pm20 an20 cd20 ct20), sl20⟩)
    (c20 : PySem.W.codeIn K (cd20) "is_word" = true)
    (k20 : PySem.W.keepIn K (.ref f20) = true)
    (a21 : PySem.W.nsIn K mainGlobals "is_tell" = some (some (.ref f21)))
    (l21 : K.lookup f21 = some ⟨oc21, od21, .func (PySem.W.fnOf "is_tell" "is_tell" (defArgs sIsTell) (defBody sIsTell) (defScope sIsTell) .none kV21 dc21 pm21 an21 cd21 ct21), sl21⟩)
    (c21 : PySem.W.codeIn K (cd21) "is_tell" = true)
    (k21 : PySem.W.keepIn K (.ref f21) = true)
    (a22 : PySem.W.nsIn K mainGlobals "check_different" = some (some (.ref f22)))
    (l22 : K.lookup f22 = some ⟨oc22, od22, .func (PySem.W.fnOf "check_different" "check_different" (defArgs sCheckDiff) (defBody sCheckDiff) (defScope sCheckDiff) .none kV22 dc22 pm22 an22 cd22 ct22), sl22⟩)
    (c22 : PySem.W.codeIn K (cd22) "check_different" = true)
    (k22 : PySem.W.keepIn K (.ref f22) = true)
    (a23 : PySem.W.nsIn K mainGlobals "check_group" = some (some (.ref f23)))
    (l23 : K.lookup f23 = some ⟨oc23, od23, .func (PySem.W.fnOf "check_group" "check_group" (defArgs sCheckGroup) (defBody sCheckGroup) (defScope sCheckGroup) .none kV23 dc23 pm23 an23 cd23 ct23), sl23⟩)
    (c23 : PySem.W.codeIn K (cd23) "check_group" = true)
    (k23 : PySem.W.keepIn K (.ref f23) = true)
    (a24 : PySem.W.nsIn K mainGlobals "check_deeds" = some (some (.ref f24)))
    (l24 : K.lookup f24 = some ⟨oc24, od24, .func (PySem.W.fnOf "check_deeds" "check_deeds" (defArgs sCheckDeeds) (defBody sCheckDeeds) (defScope sCheckDeeds) .none kV24 dc24 pm24 an24 cd24 ct24), sl24⟩)
    (c24 : PySem.W.codeIn K (cd24) "check_deeds" = true)
    (k24 : PySem.W.keepIn K (.ref f24) = true)
    (a25 : PySem.W.nsIn K mainGlobals "check_rows" = some (some (.ref f25)))
    (l25 : K.lookup f25 = some ⟨oc25, od25, .func (PySem.W.fnOf "check_rows" "check_rows" (defArgs sCheckRows) (defBody sCheckRows) (defScope sCheckRows) .none kV25 dc25 pm25 an25 cd25 ct25), sl25⟩)
    (c25 : PySem.W.codeIn K (cd25) "check_rows" = true)
    (k25 : PySem.W.keepIn K (.ref f25) = true)
    (a26 : PySem.W.nsIn K mainGlobals "check_tells" = some (some (.ref f26)))
    (l26 : K.lookup f26 = some ⟨oc26, od26, .func (PySem.W.fnOf "check_tells" "check_tells" (defArgs sCheckTells) (defBody sCheckTells) (defScope sCheckTells) .none kV26 dc26 pm26 an26 cd26 ct26), sl26⟩)
    (c26 : PySem.W.codeIn K (cd26) "check_tells" = true)
    (k26 : PySem.W.keepIn K (.ref f26) = true)
    (a27 : PySem.W.nsIn K mainGlobals "next_layer" = some (some (.ref f27)))
    (l27 : K.lookup f27 = some ⟨oc27, od27, .func (PySem.W.fnOf "next_layer" "next_layer" (defArgs sNL) (defBody sNL) (defScope sNL) .none kV27 dc27 pm27 an27 cd27 ct27), sl27⟩)
    (c27 : PySem.W.codeIn K (cd27) "next_layer" = true)
    (k27 : PySem.W.keepIn K (.ref f27) = true)
    (a28 : PySem.W.nsIn K mainGlobals "row_to" = some (some (.ref f28)))
    (l28 : K.lookup f28 = some ⟨oc28, od28, .func (PySem.W.fnOf "row_to" "row_to" (defArgs sRT) (defBody sRT) (defScope sRT) .none kV28 dc28 pm28 an28 cd28 ct28), sl28⟩)
    (c28 : PySem.W.codeIn K (cd28) "row_to" = true)
    (k28 : PySem.W.keepIn K (.ref f28) = true)
    (a29 : PySem.W.nsIn K mainGlobals "first_steps" = some (some (.ref f29)))
    (l29 : K.lookup f29 = some ⟨oc29, od29, .func (PySem.W.fnOf "first_steps" "first_steps" (defArgs sFS) (defBody sFS) (defScope sFS) (.ref T29) kV29 dc29 pm29 an29 cd29 ct29), sl29⟩)
    (c29 : PySem.W.codeIn K (cd29) "first_steps" = true)
    (k29 : PySem.W.keepIn K (.ref f29) = true)
    (lT29 : K.lookup T29 = some ⟨ocT29, odT29, .seq #[.none] nT29, slT29⟩)
    (aC : PySem.W.nsIn K mainGlobals "Machine" = some (some (.ref C)))
    (pgC : PySem.W.plainGet K C Str.empty = true)
    (hdC : PySem.W.hasDictIn K C = true)
    (poC : PySem.W.plainOver K C = true)
    (saC : PySem.W.findIn K (.ref C) "__setattr__" = some (some (.builtin "object.__setattr__")))
    (mkC : PySem.W.makesIn K C = true)
    (kcC : PySem.W.keepIn K (.ref C) = true)
    (nC_deeds : PySem.W.findIn K (.ref C) "deeds" = some none)
    (nC_rows : PySem.W.findIn K (.ref C) "rows" = some none)
    (nC_tells : PySem.W.findIn K (.ref C) "tells" = some none)
    (nC_start : PySem.W.findIn K (.ref C) "start" = some none)
    (a30 : PySem.W.findIn K (.ref C) "__init__" = some (some (.ref f30)))
    (i30 : PySem.W.isFn K (.ref f30) = true)
    (l30 : K.lookup f30 = some ⟨oc30, od30, .func (PySem.W.fnOf "__init__" "Machine.__init__" (defArgs sMInit) (defBody sMInit) (defScope sMInit) (.ref T30) kV30 dc30 pm30 an30 cd30 ct30), sl30⟩)
    (c30 : PySem.W.codeIn K (cd30) "Machine.__init__" = true)
    (k30 : PySem.W.keepIn K (.ref f30) = true)
    (lT30 : K.lookup T30 = some ⟨ocT30, odT30, .seq #[.int 0 tc0] nT30, slT30⟩)
    (a31 : PySem.W.findIn K (.ref C) "reached" = some (some (.ref f31)))
    (i31 : PySem.W.isFn K (.ref f31) = true)
    (l31 : K.lookup f31 = some ⟨oc31, od31, .func (PySem.W.fnOf "reached" "Machine.reached" (defArgs sMReach) (defBody sMReach) (defScope sMReach) .none kV31 dc31 pm31 an31 cd31 ct31), sl31⟩)
    (c31 : PySem.W.codeIn K (cd31) "Machine.reached" = true)
    (k31 : PySem.W.keepIn K (.ref f31) = true)
    (a32 : PySem.W.findIn K (.ref C) "__eq__" = some (some (.ref f32)))
    (i32 : PySem.W.isFn K (.ref f32) = true)
    (l32 : K.lookup f32 = some ⟨oc32, od32, .func (PySem.W.fnOf "__eq__" "Machine.__eq__" (defArgs sMEq) (defBody sMEq) (defScope sMEq) .none kV32 dc32 pm32 an32 cd32 ct32), sl32⟩)
    (c32 : PySem.W.codeIn K (cd32) "Machine.__eq__" = true)
    (k32 : PySem.W.keepIn K (.ref f32) = true)
    (a33 : PySem.W.findIn K (.ref C) "__len__" = some (some (.ref f33)))
    (i33 : PySem.W.isFn K (.ref f33) = true)
    (l33 : K.lookup f33 = some ⟨oc33, od33, .func (PySem.W.fnOf "__len__" "Machine.__len__" (defArgs sMLen) (defBody sMLen) (defScope sMLen) .none kV33 dc33 pm33 an33 cd33 ct33), sl33⟩)
    (c33 : PySem.W.codeIn K (cd33) "Machine.__len__" = true)
    (k33 : PySem.W.keepIn K (.ref f33) = true)
    (aCM : PySem.W.nsIn K mainGlobals "Mark" = some (some (.ref CM)))
    (pgCM : PySem.W.plainGet K CM Str.empty = true)
    (hdCM : PySem.W.hasDictIn K CM = true)
    (poCM : PySem.W.plainOver K CM = true)
    (saCM : PySem.W.findIn K (.ref CM) "__setattr__" = some (some (.builtin "object.__setattr__")))
    (mkCM : PySem.W.makesIn K CM = true)
    (kcCM : PySem.W.keepIn K (.ref CM) = true)
    (nCM_machine : PySem.W.findIn K (.ref CM) "machine" = some none)
    (nCM_rule : PySem.W.findIn K (.ref CM) "rule" = some none)
    (a34 : PySem.W.findIn K (.ref CM) "__init__" = some (some (.ref f34)))
    (i34 : PySem.W.isFn K (.ref f34) = true)
    (l34 : K.lookup f34 = some ⟨oc34, od34, .func (PySem.W.fnOf "__init__" "Mark.__init__" (defArgs sKInit) (defBody sKInit) (defScope sKInit) .none kV34 dc34 pm34 an34 cd34 ct34), sl34⟩)
    (c34 : PySem.W.codeIn K (cd34) "Mark.__init__" = true)
    (k34 : PySem.W.keepIn K (.ref f34) = true)
    (a35 : PySem.W.findIn K (.ref CM) "__eq__" = some (some (.ref f35)))
    (i35 : PySem.W.isFn K (.ref f35) = true)
    (l35 : K.lookup f35 = some ⟨oc35, od35, .func (PySem.W.fnOf "__eq__" "Mark.__eq__" (defArgs sKEq) (defBody sKEq) (defScope sKEq) .none kV35 dc35 pm35 an35 cd35 ct35), sl35⟩)
    (c35 : PySem.W.codeIn K (cd35) "Mark.__eq__" = true)
    (k35 : PySem.W.keepIn K (.ref f35) = true)
    (aCL : PySem.W.nsIn K mainGlobals "Lot" = some (some (.ref CL)))
    (pgCL : PySem.W.plainGet K CL Str.empty = true)
    (hdCL : PySem.W.hasDictIn K CL = true)
    (poCL : PySem.W.plainOver K CL = true)
    (saCL : PySem.W.findIn K (.ref CL) "__setattr__" = some (some (.builtin "object.__setattr__")))
    (mkCL : PySem.W.makesIn K CL = true)
    (kcCL : PySem.W.keepIn K (.ref CL) = true)
    (nCL_marks : PySem.W.findIn K (.ref CL) "marks" = some none)
    (nCL_begin : PySem.W.findIn K (.ref CL) "begin" = some none)
    (a36 : PySem.W.findIn K (.ref CL) "__init__" = some (some (.ref f36)))
    (i36 : PySem.W.isFn K (.ref f36) = true)
    (l36 : K.lookup f36 = some ⟨oc36, od36, .func (PySem.W.fnOf "__init__" "Lot.__init__" (defArgs sLInit) (defBody sLInit) (defScope sLInit) .none kV36 dc36 pm36 an36 cd36 ct36), sl36⟩)
    (c36 : PySem.W.codeIn K (cd36) "Lot.__init__" = true)
    (k36 : PySem.W.keepIn K (.ref f36) = true)
    (a37 : PySem.W.findIn K (.ref CL) "__eq__" = some (some (.ref f37)))
    (i37 : PySem.W.isFn K (.ref f37) = true)
    (l37 : K.lookup f37 = some ⟨oc37, od37, .func (PySem.W.fnOf "__eq__" "Lot.__eq__" (defArgs sLEq) (defBody sLEq) (defScope sLEq) .none kV37 dc37 pm37 an37 cd37 ct37), sl37⟩)
    (c37 : PySem.W.codeIn K (cd37) "Lot.__eq__" = true)
    (k37 : PySem.W.keepIn K (.ref f37) = true)
    (a38 : PySem.W.findIn K (.ref CL) "__len__" = some (some (.ref f38)))
    (i38 : PySem.W.isFn K (.ref f38) = true)
    (l38 : K.lookup f38 = some ⟨oc38, od38, .func (PySem.W.fnOf "__len__" "Lot.__len__" (defArgs sLLen) (defBody sLLen) (defScope sLLen) .none kV38 dc38 pm38 an38 cd38 ct38), sl38⟩)
    (c38 : PySem.W.codeIn K (cd38) "Lot.__len__" = true)
    (k38 : PySem.W.keepIn K (.ref f38) = true)
    (a39 : PySem.W.findIn K (.ref CL) "__getitem__" = some (some (.ref f39)))
    (i39 : PySem.W.isFn K (.ref f39) = true)
    (l39 : K.lookup f39 = some ⟨oc39, od39, .func (PySem.W.fnOf "__getitem__" "Lot.__getitem__" (defArgs sLGet) (defBody sLGet) (defScope sLGet) .none kV39 dc39 pm39 an39 cd39 ct39), sl39⟩)
    (c39 : PySem.W.codeIn K (cd39) "Lot.__getitem__" = true)
    (k39 : PySem.W.keepIn K (.ref f39) = true)
    (fiG : PySem.W.fnIn K f39 = true)
    (neC : PySem.W.findIn K (.ref C) "__ne__" = some (some (.builtin "object.__ne__")))
    (ca_C : PySem.W.findIn K (.ref C) "__class__" = some (some (.builtin "object.__class__")))
    (cs_C : PySem.W.specialIn K (.builtin "object.__class__") "__get__" = some (some (.builtin "getset_descriptor.__get__")))
    (ct_C : PySem.W.takesIn K (.builtin "object.__class__") = some true)
    (cm_C : PySem.W.mroIn K C (.type "object") = some true)
    (ci_C : PySem.W.isClsIn K C = true)
    (ty_C : PySem.W.typeIn K (.ref C) = some (.type "type"))
    (neCM : PySem.W.findIn K (.ref CM) "__ne__" = some (some (.builtin "object.__ne__")))
    (ca_CM : PySem.W.findIn K (.ref CM) "__class__" = some (some (.builtin "object.__class__")))
    (cs_CM : PySem.W.specialIn K (.builtin "object.__class__") "__get__" = some (some (.builtin "getset_descriptor.__get__")))
    (ct_CM : PySem.W.takesIn K (.builtin "object.__class__") = some true)
    (cm_CM : PySem.W.mroIn K CM (.type "object") = some true)
    (ci_CM : PySem.W.isClsIn K CM = true)
    (ty_CM : PySem.W.typeIn K (.ref CM) = some (.type "type"))
    (neCL : PySem.W.findIn K (.ref CL) "__ne__" = some (some (.builtin "object.__ne__")))
    (ca_CL : PySem.W.findIn K (.ref CL) "__class__" = some (some (.builtin "object.__class__")))
    (cs_CL : PySem.W.specialIn K (.builtin "object.__class__") "__get__" = some (some (.builtin "getset_descriptor.__get__")))
    (ct_CL : PySem.W.takesIn K (.builtin "object.__class__") = some true)
    (cm_CL : PySem.W.mroIn K CL (.type "object") = some true)
    (ci_CL : PySem.W.isClsIn K CL = true)
    (ty_CL : PySem.W.typeIn K (.ref CL) = some (.type "type"))
    (mtL : PySem.W.mroIn K CL (.type "tuple") = some false)
    (aW : PySem.W.findIn K (.ref CM) "hides" = some (some (.ref pW)))
    (gW : PySem.W.specialIn K (.ref pW) "__get__" = some (some (.builtin "property.__get__")))
    (tW : PySem.W.takesIn K (.ref pW) = some true)
    (rcW : PySem.W.recIn K pW "property" = some (.ref f40 :: rW))
    (l40 : K.lookup f40 = some ⟨oc40, od40, .func (PySem.W.fnOf "hides" "Mark.hides" (defArgs sKHides) (defBody sKHides) (defScope sKHides) .none kV40 dc40 pm40 an40 cd40 ct40), sl40⟩)
    (c40 : PySem.W.codeIn K (cd40) "Mark.hides" = true)
    (k40 : PySem.W.keepIn K (.ref f40) = true)
    (a00 : PySem.W.nsIn K mainGlobals "LooksError" = some (some (.ref E0)))
    (aT : PySem.W.nsIn K mainGlobals "TooMany" = some (some (.ref ET)))
    (xT : K.lookup ET = some (excClassObj nmT qnT ET NT bsT [.ref E0, .type "ValueError", .type "Exception", .type "BaseException", .type "object"] true snT subT abT colT ddT m0T m1T m2T m3T m5T "ValueError.__new__"))
    (saT : PySem.W.findIn K (.ref ET) "__setattr__" = some (some (.builtin "object.__setattr__")))
    (gaT : PySem.W.findIn K (.ref ET) "__getattribute__" = some (some (.builtin "BaseException.__getattribute__")))
    (ggT : PySem.W.findIn K (.ref ET) "__getattr__" = some none)
    (eT : PySem.W.subIn K (.ref ET) (.type "BaseException") = some true)
    (tT : PySem.W.typeIn K (.ref ET) = some (.type "type"))
    (kkT : PySem.W.keepIn K (.ref ET) = true)
    (hT : PySem.W.hasDictIn K ET = true)
    (iT : PySem.W.isClsIn K ET = true)
    (noT_what : PySem.W.findIn K (.ref ET) "what" = some none)
    (noT_many : PySem.W.findIn K (.ref ET) "many" = some none)
    (noT_most : PySem.W.findIn K (.ref ET) "most" = some none)
    (a41 : PySem.W.findIn K (.ref ET) "__init__" = some (some (.ref f41)))
    (t41 : PySem.W.typeIn K (.ref f41) = some (.type "function"))
    (l41 : K.lookup f41 = some ⟨oc41, od41, .func (PySem.W.fnOf "__init__" "TooMany.__init__" (defArgs sTooMany) (defBody sTooMany) (defScope sTooMany) .none kV41 dc41 pm41 an41 cd41 ct41), sl41⟩)
    (c41 : PySem.W.codeIn K (cd41) "TooMany.__init__" = true)
    (k41 : PySem.W.keepIn K (.ref f41) = true)
    (aO : PySem.W.nsIn K mainGlobals "OtherDeeds" = some (some (.ref EO)))
    (xO : K.lookup EO = some (excClassObj nmO qnO EO NO bsO [.ref E0, .type "ValueError", .type "Exception", .type "BaseException", .type "object"] true snO subO abO colO ddO m0O m1O m2O m3O m5O "ValueError.__new__"))
    (saO : PySem.W.findIn K (.ref EO) "__setattr__" = some (some (.builtin "object.__setattr__")))
    (gaO : PySem.W.findIn K (.ref EO) "__getattribute__" = some (some (.builtin "BaseException.__getattribute__")))
    (ggO : PySem.W.findIn K (.ref EO) "__getattr__" = some none)
    (eO : PySem.W.subIn K (.ref EO) (.type "BaseException") = some true)
    (tO : PySem.W.typeIn K (.ref EO) = some (.type "type"))
    (kkO : PySem.W.keepIn K (.ref EO) = true)
    (hO : PySem.W.hasDictIn K EO = true)
    (iO : PySem.W.isClsIn K EO = true)
    (noO_have : PySem.W.findIn K (.ref EO) "have" = some none)
    (noO_want : PySem.W.findIn K (.ref EO) "want" = some none)
    (a42 : PySem.W.findIn K (.ref EO) "__init__" = some (some (.ref f42)))
    (t42 : PySem.W.typeIn K (.ref f42) = some (.type "function"))
    (l42 : K.lookup f42 = some ⟨oc42, od42, .func (PySem.W.fnOf "__init__" "OtherDeeds.__init__" (defArgs sOtherDeeds) (defBody sOtherDeeds) (defScope sOtherDeeds) .none kV42 dc42 pm42 an42 cd42 ct42), sl42⟩)
    (c42 : PySem.W.codeIn K (cd42) "OtherDeeds.__init__" = true)
    (k42 : PySem.W.keepIn K (.ref f42) = true)
    (aR : PySem.W.nsIn K mainGlobals "BadRule" = some (some (.ref ER)))
    (xR : K.lookup ER = some (excClassObj nmR qnR ER NR bsR [.ref E0, .type "ValueError", .type "Exception", .type "BaseException", .type "object"] true snR subR abR colR ddR m0R m1R m2R m3R m5R "ValueError.__new__"))
    (saR : PySem.W.findIn K (.ref ER) "__setattr__" = some (some (.builtin "object.__setattr__")))
    (gaR : PySem.W.findIn K (.ref ER) "__getattribute__" = some (some (.builtin "BaseException.__getattribute__")))
    (ggR : PySem.W.findIn K (.ref ER) "__getattr__" = some none)
    (eR : PySem.W.subIn K (.ref ER) (.type "BaseException") = some true)
    (tR : PySem.W.typeIn K (.ref ER) = some (.type "type"))
    (kkR : PySem.W.keepIn K (.ref ER) = true)
    (hR : PySem.W.hasDictIn K ER = true)
    (iR : PySem.W.isClsIn K ER = true)
    (noR_rule : PySem.W.findIn K (.ref ER) "rule" = some none)
    (a43 : PySem.W.findIn K (.ref ER) "__init__" = some (some (.ref f43)))
    (t43 : PySem.W.typeIn K (.ref f43) = some (.type "function"))
    (l43 : K.lookup f43 = some ⟨oc43, od43, .func (PySem.W.fnOf "__init__" "BadRule.__init__" (defArgs sBadRule) (defBody sBadRule) (defScope sBadRule) .none kV43 dc43 pm43 an43 cd43 ct43), sl43⟩)
    (c43 : PySem.W.codeIn K (cd43) "BadRule.__init__" = true)
    (k43 : PySem.W.keepIn K (.ref f43) = true)
    (sTT : PySem.W.subIn K (.ref ET) (.ref ET) = some true)
    (sOT : PySem.W.subIn K (.ref EO) (.ref ET) = some false)
    (sOO : PySem.W.subIn K (.ref EO) (.ref EO) = some true)
    (sRR : PySem.W.subIn K (.ref ER) (.ref ER) = some true)
    (co_LETTERS : PySem.W.nsIn K mainGlobals "LETTERS" = some (some (.str zLE tc1)))
    (co_DIGITS : PySem.W.nsIn K mainGlobals "DIGITS" = some (some (.str zDG tc2)))
    (co_LONGEST_WORD : PySem.W.nsIn K mainGlobals "LONGEST_WORD" = some (some (.int 12 tc3)))
    (co_LONGEST_TELL : PySem.W.nsIn K mainGlobals "LONGEST_TELL" = some (some (.int 60 tc4)))
    (co_MOST_DEEDS : PySem.W.nsIn K mainGlobals "MOST_DEEDS" = some (some (.int 6 tc5)))
    (co_MOST_STATES : PySem.W.nsIn K mainGlobals "MOST_STATES" = some (some (.int 60 tc6)))
    (co_MOST_MARKS : PySem.W.nsIn K mainGlobals "MOST_MARKS" = some (some (.int 6 tc7)))
    (aRU : PySem.W.nsIn K mainGlobals "RULES" = some (some (.ref pR)))
    (lqpR : K.lookup pR = some oqpR)
    (cqpR : oqpR.cls = .type "tuple")
    (dqpR : oqpR.data = .seq iqpR nqpR)
    (zqpR : iqpR.size ≤ sizeLine)
    (vqpR : Vals [.str "kept", .str "cleared"] iqpR.toList)
    (z_int : PySem.W.nsIn K mainGlobals "int" = some none)
    (z_len : PySem.W.nsIn K mainGlobals "len" = some none)
    (z_list : PySem.W.nsIn K mainGlobals "list" = some none)
    (z_range : PySem.W.nsIn K mainGlobals "range" = some none)
    (z_tuple : PySem.W.nsIn K mainGlobals "tuple" = some none)
    (z_isinstance : PySem.W.nsIn K mainGlobals "isinstance" = some none)
    (z_bool : PySem.W.nsIn K mainGlobals "bool" = some none)
    (z_str : PySem.W.nsIn K mainGlobals "str" = some none)
    (z_all : PySem.W.nsIn K mainGlobals "all" = some none)
    (z_enumerate : PySem.W.nsIn K mainGlobals "enumerate" = some none)
    (z_min : PySem.W.nsIn K mainGlobals "min" = some none)
    (z_zip : PySem.W.nsIn K mainGlobals "zip" = some none)
    (z_set : PySem.W.nsIn K mainGlobals "set" = some none)
    (z_NotImplemented : PySem.W.nsIn K mainGlobals "NotImplemented" = some none) :
    LawAtS l w K L2.CX0 9 63 "_law_script" mg fa h := by
  have e := (PySem.W.mg_of X G a17).symm.trans hfa
  cases e
  have D1 : Df K mg "_law_pen" sPen ["_law_script"] f1 _ := ⟨fun_mk (st := sPen) l1 c1 k1, PySem.W.mg_of X G a1, (fun_mk (st := sPen) l1 c1 k1).binds (ps := ["_law_script"]) fun _ _ _ _ _ _ us hl => match us, hl with | [_], _ => rfl⟩
  have D2 : Df K mg "_law_draw" sDraw ["_law_pen_here", "_law_many"] f2 _ := ⟨fun_mk (st := sDraw) l2 c2 k2, PySem.W.mg_of X G a2, (fun_mk (st := sDraw) l2 c2 k2).binds (ps := ["_law_pen_here", "_law_many"]) fun _ _ _ _ _ _ us hl => match us, hl with | [_, _], _ => rfl⟩
  have D3 : Df K mg "_law_pick" sPick ["_law_pen_here", "_law_some"] f3 _ := ⟨fun_mk (st := sPick) l3 c3 k3, PySem.W.mg_of X G a3, (fun_mk (st := sPick) l3 c3 k3).binds (ps := ["_law_pen_here", "_law_some"]) fun _ _ _ _ _ _ us hl => match us, hl with | [_, _], _ => rfl⟩
  have D4 : Df K mg "_law_words" sWords ["_law_pen_here", "_law_many"] f4 _ := ⟨fun_mk (st := sWords) l4 c4 k4, PySem.W.mg_of X G a4, (fun_mk (st := sWords) l4 c4 k4).binds (ps := ["_law_pen_here", "_law_many"]) fun _ _ _ _ _ _ us hl => match us, hl with | [_, _], _ => rfl⟩
  have D5 : Df K mg "_law_plain" sPlain ["_law_pen_here", "_law_deeds", "_law_most", "_law_tells"] f5 _ := ⟨fun_mk (st := sPlain) l5 c5 k5, PySem.W.mg_of X G a5, (fun_mk (st := sPlain) l5 c5 k5).binds (ps := ["_law_pen_here", "_law_deeds", "_law_most", "_law_tells"]) fun _ _ _ _ _ _ us hl => match us, hl with | [_, _, _, _], _ => rfl⟩
  have D6 : Df K mg "_law_made" sMade ["_law_plain_here"] f6 _ := ⟨fun_mk (st := sMade) l6 c6 k6, PySem.W.mg_of X G a6, (fun_mk (st := sMade) l6 c6 k6).binds (ps := ["_law_plain_here"]) fun _ _ _ _ _ _ us hl => match us, hl with | [_], _ => rfl⟩
  have D7 : Df K mg "_law_first_rows" sFirst ["_law_plain_here"] f7 _ := ⟨fun_mk (st := sFirst) l7 c7 k7, PySem.W.mg_of X G a7, (fun_mk (st := sFirst) l7 c7 k7).binds (ps := ["_law_plain_here"]) fun _ _ _ _ _ _ us hl => match us, hl with | [_], _ => rfl⟩
  have D8 : Df K mg "_law_is_machine" sIsM ["_law_machine", "_law_plain_here"] f8 _ := ⟨fun_mk (st := sIsM) l8 c8 k8, PySem.W.mg_of X G a8, (fun_mk (st := sIsM) l8 c8 k8).binds (ps := ["_law_machine", "_law_plain_here"]) fun _ _ _ _ _ _ us hl => match us, hl with | [_, _], _ => rfl⟩
  have D9 : Df K mg "_law_lot" sLot ["_law_pen_here", "_law_deeds", "_law_many", "_law_most", "_law_tells"] f9 _ := ⟨fun_mk (st := sLot) l9 c9 k9, PySem.W.mg_of X G a9, (fun_mk (st := sLot) l9 c9 k9).binds (ps := ["_law_pen_here", "_law_deeds", "_law_many", "_law_most", "_law_tells"]) fun _ _ _ _ _ _ us hl => match us, hl with | [_, _, _, _, _], _ => rfl⟩
  have D10 : Df K mg "_law_lot_made" sLotM ["_law_lot_here"] f10 _ := ⟨fun_mk (st := sLotM) l10 c10 k10, PySem.W.mg_of X G a10, (fun_mk (st := sLotM) l10 c10 k10).binds (ps := ["_law_lot_here"]) fun _ _ _ _ _ _ us hl => match us, hl with | [_], _ => rfl⟩
  have D11 : Df K mg "_law_begin" sBegin ["_law_lot_here"] f11 _ := ⟨fun_mk (st := sBegin) l11 c11 k11, PySem.W.mg_of X G a11, (fun_mk (st := sBegin) l11 c11 k11).binds (ps := ["_law_lot_here"]) fun _ _ _ _ _ _ us hl => match us, hl with | [_], _ => rfl⟩
  have D12 : Df K mg "_law_hides" sHidL ["_law_plain_here"] f12 _ := ⟨fun_mk (st := sHidL) l12 c12 k12, PySem.W.mg_of X G a12, (fun_mk (st := sHidL) l12 c12 k12).binds (ps := ["_law_plain_here"]) fun _ _ _ _ _ _ us hl => match us, hl with | [_], _ => rfl⟩
  have D13 : Df K mg "_law_mark_right" sMkR ["_law_mark", "_law_plain_here", "_law_rule"] f13 _ := ⟨fun_mk (st := sMkR) l13 c13 k13, PySem.W.mg_of X G a13, (fun_mk (st := sMkR) l13 c13 k13).binds (ps := ["_law_mark", "_law_plain_here", "_law_rule"]) fun _ _ _ _ _ _ us hl => match us, hl with | [_, _, _], _ => rfl⟩
  have D14 : Df K mg "_law_rule_fault" sRuleF ["_law_plain_here", "_law_rule"] f14 _ := ⟨fun_mk (st := sRuleF) l14 c14 k14, PySem.W.mg_of X G a14, (fun_mk (st := sRuleF) l14 c14 k14).binds (ps := ["_law_plain_here", "_law_rule"]) fun _ _ _ _ _ _ us hl => match us, hl with | [_, _], _ => rfl⟩
  have D15 : Df K mg "_law_lot_fault" sLotF ["_law_marks"] f15 _ := ⟨fun_mk (st := sLotF) l15 c15 k15, PySem.W.mg_of X G a15, (fun_mk (st := sLotF) l15 c15 k15).binds (ps := ["_law_marks"]) fun _ _ _ _ _ _ us hl => match us, hl with | [_], _ => rfl⟩
  have D16 : Df K mg "_law_lots_refused" sLRef ["_law_pen_here", "_law_deeds", "_law_lot_here"] f16 _ := ⟨fun_mk (st := sLRef) l16 c16 k16, PySem.W.mg_of X G a16, (fun_mk (st := sLRef) l16 c16 k16).binds (ps := ["_law_pen_here", "_law_deeds", "_law_lot_here"]) fun _ _ _ _ _ _ us hl => match us, hl with | [_, _, _], _ => rfl⟩
  have D17 : Df K mg "law" sLaw ["_law_script"] f17 _ := ⟨fun_mk (st := sLaw) l17 c17 k17, PySem.W.mg_of X G a17, (fun_mk (st := sLaw) l17 c17 k17).binds (ps := ["_law_script"]) fun _ _ _ _ _ _ us hl => match us, hl with | [_], _ => rfl⟩
  have D18 : Df K mg "is_integer" sIsInt ["value"] f18 _ := ⟨fun_mk (st := sIsInt) l18 c18 k18, PySem.W.mg_of X G a18, (fun_mk (st := sIsInt) l18 c18 k18).binds (ps := ["value"]) fun _ _ _ _ _ _ us hl => match us, hl with | [_], _ => rfl⟩
  have D19 : Df K mg "is_index" sIsIndex ["value", "many"] f19 _ := ⟨fun_mk (st := sIsIndex) l19 c19 k19, PySem.W.mg_of X G a19, (fun_mk (st := sIsIndex) l19 c19 k19).binds (ps := ["value", "many"]) fun _ _ _ _ _ _ us hl => match us, hl with | [_, _], _ => rfl⟩
  have D20 : Df K mg "is_word" sIsWord ["value"] f20 _ := ⟨fun_mk (st := sIsWord) l20 c20 k20, PySem.W.mg_of X G a20, (fun_mk (st := sIsWord) l20 c20 k20).binds (ps := ["value"]) fun _ _ _ _ _ _ us hl => match us, hl with | [_], _ => rfl⟩
  have D21 : Df K mg "is_tell" sIsTell ["value"] f21 _ := ⟨fun_mk (st := sIsTell) l21 c21 k21, PySem.W.mg_of X G a21, (fun_mk (st := sIsTell) l21 c21 k21).binds (ps := ["value"]) fun _ _ _ _ _ _ us hl => match us, hl with | [_], _ => rfl⟩
  have D22 : Df K mg "check_different" sCheckDiff ["deeds"] f22 _ := ⟨fun_mk (st := sCheckDiff) l22 c22 k22, PySem.W.mg_of X G a22, (fun_mk (st := sCheckDiff) l22 c22 k22).binds (ps := ["deeds"]) fun _ _ _ _ _ _ us hl => match us, hl with | [_], _ => rfl⟩
  have D23 : Df K mg "check_group" sCheckGroup ["deeds"] f23 _ := ⟨fun_mk (st := sCheckGroup) l23 c23 k23, PySem.W.mg_of X G a23, (fun_mk (st := sCheckGroup) l23 c23 k23).binds (ps := ["deeds"]) fun _ _ _ _ _ _ us hl => match us, hl with | [_], _ => rfl⟩
  have D24 : Df K mg "check_deeds" sCheckDeeds ["deeds"] f24 _ := ⟨fun_mk (st := sCheckDeeds) l24 c24 k24, PySem.W.mg_of X G a24, (fun_mk (st := sCheckDeeds) l24 c24 k24).binds (ps := ["deeds"]) fun _ _ _ _ _ _ us hl => match us, hl with | [_], _ => rfl⟩
  have D25 : Df K mg "check_rows" sCheckRows ["rows", "many"] f25 _ := ⟨fun_mk (st := sCheckRows) l25 c25 k25, PySem.W.mg_of X G a25, (fun_mk (st := sCheckRows) l25 c25 k25).binds (ps := ["rows", "many"]) fun _ _ _ _ _ _ us hl => match us, hl with | [_, _], _ => rfl⟩
  have D26 : Df K mg "check_tells" sCheckTells ["tells", "many"] f26 _ := ⟨fun_mk (st := sCheckTells) l26 c26 k26, PySem.W.mg_of X G a26, (fun_mk (st := sCheckTells) l26 c26 k26).binds (ps := ["tells", "many"]) fun _ _ _ _ _ _ us hl => match us, hl with | [_, _], _ => rfl⟩
  have D27 : Df K mg "next_layer" sNL ["deeds", "tables", "layer", "met"] f27 _ := ⟨fun_mk (st := sNL) l27 c27 k27, PySem.W.mg_of X G a27, (fun_mk (st := sNL) l27 c27 k27).binds (ps := ["deeds", "tables", "layer", "met"]) fun _ _ _ _ _ _ us hl => match us, hl with | [_, _, _, _], _ => rfl⟩
  have D28 : Df K mg "row_to" sRT ["found", "states"] f28 _ := ⟨fun_mk (st := sRT) l28 c28 k28, PySem.W.mg_of X G a28, (fun_mk (st := sRT) l28 c28 k28).binds (ps := ["found", "states"]) fun _ _ _ _ _ _ us hl => match us, hl with | [_, _], _ => rfl⟩
  have F29 : FunD K "first_steps" "first_steps" (defArgs sFS) (defBody sFS) (defScope sFS) [.non] [] f29 _ := ⟨⟨_, _, _, _, _, _, _, _, _, _, rfl, l29, c29, .inr ⟨by simp, T29, _, [.none], nT29, rfl, lT29, rfl, (.cons rfl .nil)⟩, .inl rfl⟩, k29⟩
  obtain ⟨ds29, vd29, b029⟩ := F29.binds1 (ps := ["deeds", "tables", "begin", "most"]) 3 0 (by simp) rfl fun T kV doc pm an cdv ct us its hu hi => match us, hu, its, hi with | [_, _, _], _, [_], _ => ⟨_, rfl, rfl⟩
  have g29 : mg "first_steps" = some (.ref f29) := PySem.W.mg_of X G a29
  have F30 : FunD K "__init__" "Machine.__init__" (defArgs sMInit) (defBody sMInit) (defScope sMInit) [.int 0] [] f30 _ := ⟨⟨_, _, _, _, _, _, _, _, _, _, rfl, l30, c30, .inr ⟨by simp, T30, _, [.int 0 tc0], nT30, rfl, lT30, rfl, (.cons ⟨_, rfl⟩ .nil)⟩, .inl rfl⟩, k30⟩
  have b30 : Binds K (PySem.W.fnOf "__init__" "Machine.__init__" (defArgs sMInit) (defBody sMInit) (defScope sMInit) (.ref T30) kV30 dc30 pm30 an30 cd30 ct30) ["self", "deeds", "rows", "tells", "start"] [] := by
    obtain ⟨ds, v, b⟩ := F30.binds1 (ps := ["self", "deeds", "rows", "tells", "start"]) 5 1 (by simp) rfl fun T kV doc pm an cdv ct us its hu hi => match us, hu, its, hi with | [_, _, _, _, _], _, [_], _ => ⟨_, rfl, rfl⟩
    cases v
    exact b
  obtain ⟨ds30, vd30, b030⟩ := F30.binds1 (ps := ["self", "deeds", "rows", "tells", "start"]) 4 0 (by simp) rfl fun T kV doc pm an cdv ct us its hu hi => match us, hu, its, hi with | [_, _, _, _], _, [_], _ => ⟨_, rfl, rfl⟩
  have Mk30 : Mk K C f30 := ⟨mkC, a30, i30, kcC⟩
  have F31 := fun_mk (st := sMReach) l31 c31 k31
  have b31 : Binds K _ ["self"] [] := F31.binds (ps := ["self"]) fun _ _ _ _ _ _ us hl => match us, hl with | [_], _ => rfl
  have MT31 : Meth K C "reached" f31 := ⟨a31, i31, k31⟩
  have F32 := fun_mk (st := sMEq) l32 c32 k32
  have b32 : Binds K _ ["self", "other"] [] := F32.binds (ps := ["self", "other"]) fun _ _ _ _ _ _ us hl => match us, hl with | [_, _], _ => rfl
  have F33 := fun_mk (st := sMLen) l33 c33 k33
  have b33 : Binds K _ ["self"] [] := F33.binds (ps := ["self"]) fun _ _ _ _ _ _ us hl => match us, hl with | [_], _ => rfl
  have F34 := fun_mk (st := sKInit) l34 c34 k34
  have b34 : Binds K _ ["self", "machine", "rule"] [] := F34.binds (ps := ["self", "machine", "rule"]) fun _ _ _ _ _ _ us hl => match us, hl with | [_, _, _], _ => rfl
  have Mk34 : Mk K CM f34 := ⟨mkCM, a34, i34, kcCM⟩
  have F35 := fun_mk (st := sKEq) l35 c35 k35
  have b35 : Binds K _ ["self", "other"] [] := F35.binds (ps := ["self", "other"]) fun _ _ _ _ _ _ us hl => match us, hl with | [_, _], _ => rfl
  have F36 := fun_mk (st := sLInit) l36 c36 k36
  have b36 : Binds K _ ["self", "marks"] [] := F36.binds (ps := ["self", "marks"]) fun _ _ _ _ _ _ us hl => match us, hl with | [_, _], _ => rfl
  have Mk36 : Mk K CL f36 := ⟨mkCL, a36, i36, kcCL⟩
  have F37 := fun_mk (st := sLEq) l37 c37 k37
  have b37 : Binds K _ ["self", "other"] [] := F37.binds (ps := ["self", "other"]) fun _ _ _ _ _ _ us hl => match us, hl with | [_, _], _ => rfl
  have F38 := fun_mk (st := sLLen) l38 c38 k38
  have b38 : Binds K _ ["self"] [] := F38.binds (ps := ["self"]) fun _ _ _ _ _ _ us hl => match us, hl with | [_], _ => rfl
  have F39 := fun_mk (st := sLGet) l39 c39 k39
  have b39 : Binds K _ ["self", "at"] [] := F39.binds (ps := ["self", "at"]) fun _ _ _ _ _ _ us hl => match us, hl with | [_, _], _ => rfl
  have F40 := fun_mk (st := sKHides) l40 c40 k40
  have b40 : Binds K _ ["self"] [] := F40.binds (ps := ["self"]) fun _ _ _ _ _ _ us hl => match us, hl with | [_], _ => rfl
  have FET := fun_mk (st := sTooMany) l41 c41 k41
  have OT : OTooMany K mg ET f41 _ := ⟨⟨⟨nmT, qnT, NT, bsT, _, snT, subT, abT, colT, ddT, m0T, m1T, m2T, m3T, m5T, xT, rfl⟩, saT, eT, tT, kkT⟩, ⟨gaT, ggT, eT, hT⟩, PySem.W.mg_of X G aT, a41, t41, (fun f hf => by
      simp only [List.mem_cons, List.not_mem_nil, or_false] at hf
      rcases hf with rfl | rfl | rfl
      · exact noT_what
      · exact noT_many
      · exact noT_most), FET, FET.binds (ps := ["self", "what", "many", "most"]) fun _ _ _ _ _ _ us hl => match us, hl with | [_, _, _, _], _ => rfl⟩
  have FEO := fun_mk (st := sOtherDeeds) l42 c42 k42
  have OO : OOtherDeeds K mg EO f42 _ := ⟨⟨⟨nmO, qnO, NO, bsO, _, snO, subO, abO, colO, ddO, m0O, m1O, m2O, m3O, m5O, xO, rfl⟩, saO, eO, tO, kkO⟩, ⟨gaO, ggO, eO, hO⟩, PySem.W.mg_of X G aO, a42, t42, (fun f hf => by
      simp only [List.mem_cons, List.not_mem_nil, or_false] at hf
      rcases hf with rfl | rfl
      · exact noO_have
      · exact noO_want), FEO, FEO.binds (ps := ["self", "have", "want"]) fun _ _ _ _ _ _ us hl => match us, hl with | [_, _, _], _ => rfl⟩
  have FER := fun_mk (st := sBadRule) l43 c43 k43
  have OR : OBadRule K mg ER f43 _ := ⟨⟨⟨nmR, qnR, NR, bsR, _, snR, subR, abR, colR, ddR, m0R, m1R, m2R, m3R, m5R, xR, rfl⟩, saR, eR, tR, kkR⟩, ⟨gaR, ggR, eR, hR⟩, PySem.W.mg_of X G aR, a43, t43, (fun f hf => by
      simp only [List.mem_cons, List.not_mem_nil, or_false] at hf
      rcases hf with rfl
      · exact noR_rule), FER, FER.binds (ps := ["self", "rule"]) fun _ _ _ _ _ _ us hl => match us, hl with | [_, _], _ => rfl⟩
  refine ⟨PySem.W.fnOf "law" "law" (defArgs sLaw) (defBody sLaw) (defScope sLaw) .none kV17 dc17 pm17 an17 cd17 ct17, [], spLaw K, ?_, ?_, ?_, fun s v => .of_eq rfl, ?_, fun base _ _ TB => ?_⟩
  · intro p hp
    exact nomatch hp
  · intro p hp
    exact nomatch hp
  · intro p hp
    exact nomatch hp
  · intro H a ns hns _ _ hS
    exact ⟨a, ns, rfl, hS, hns, fun _ => rfl⟩
  · have BT : Bt2 mg := ⟨⟨PySem.W.mg_none_of X G z_int, PySem.W.mg_none_of X G z_len, PySem.W.mg_none_of X G z_list, PySem.W.mg_none_of X G z_range, PySem.W.mg_none_of X G z_tuple⟩, PySem.W.mg_none_of X G z_isinstance, PySem.W.mg_none_of X G z_bool, PySem.W.mg_none_of X G z_str, PySem.W.mg_none_of X G z_all, PySem.W.mg_none_of X G z_enumerate, PySem.W.mg_none_of X G z_min, ⟨_, PySem.W.mg_of X G co_LETTERS⟩, ⟨_, PySem.W.mg_of X G co_DIGITS⟩, ⟨_, PySem.W.mg_of X G co_LONGEST_WORD⟩, ⟨_, PySem.W.mg_of X G co_LONGEST_TELL⟩, ⟨_, PySem.W.mg_of X G co_MOST_DEEDS⟩, ⟨_, PySem.W.mg_of X G co_MOST_STATES⟩⟩
    have B1 : Bt mg := BT.toBt
    have BK : Bk K mg := ⟨⟨pR, PySem.W.mg_of X G aRU, (fun H => .inr ⟨_, _, _, lqpR, cqpR, dqpR, zqpR, vqpR⟩)⟩, ⟨_, PySem.W.mg_of X G co_MOST_MARKS⟩⟩
    have MT : Tm K mg C := ⟨⟨pgC, hdC, poC, saC⟩, nC_deeds, nC_rows, nC_tells, nC_start, PySem.W.mg_of X G aC⟩
    have MK : Tk K mg CM := ⟨⟨pgCM, hdCM, poCM, saCM⟩, nCM_machine, nCM_rule, PySem.W.mg_of X G aCM⟩
    have ML : Tl2 K mg CL := ⟨⟨pgCL, hdCL, poCL, saCL⟩, nCL_marks, nCL_begin, PySem.W.mg_of X G aCL⟩
    have GI : FnOk l.prog w K mg base L2.CX0 5 f30 _ pInit (spMInit K C) := ok_minit F30 MT BT D24 D23 D22 D20 D25 D19 D18 D26 D21
    have GR : FnOk l.prog w K mg base L2.CX0 3 f31 _ ["self"] (spReach K C) := ok_reach F31 MT BT (PySem.W.mg_none_of X G z_zip) F29 g29 b029 vd29 D27 D28
    have GQ : FnOk l.prog w K mg base L2.CX0 1 f32 _ pEq (spMEq K C) := ok_meq F32 MT ⟨ca_C, cs_C, ct_C, cm_C⟩ BT
    have GM : FnOk l.prog w K mg base L2.CX0 7 _ _ ["_law_plain_here"] (spMade K C) := ok_made D6 MT BT Mk30 GI b30
    have GKI : FnOk l.prog w K mg base L2.CX0 1 f34 _ pKI (spKInit K CM) := ok_kinit F34 MK BK
    have GKB : FnOk l.prog w K mg base (L2.CX l.prog w) 3 f34 _ pKI (spKBad K CM ER) := ok_kbad F34 MK BK OR
    have GLI : FnOk l.prog w K mg base L2.CX0 1 f36 _ pLI (spLInit K C CM CL) := ok_linit F36 MT MK ML BT BK
    have GLB : FnOk l.prog w K mg base (L2.CX l.prog w) 3 f36 _ pLI (spLBad K C CM CL ET EO) := ok_lbad F36 MT MK ML BT BK OT OO
    have GKQ : FnOk l.prog w K mg base L2.CX0 2 f35 _ pEq (spEqB (KEqR K C CM)) := ok_keq F35 MK ⟨ca_CM, cs_CM, ct_CM, cm_CM⟩ BT ⟨a32, i32, neC, cm_C⟩ b32 GQ
    have GLQ : FnOk l.prog w K mg base L2.CX0 4 f37 _ pEq (spEqB (LEqR K C CM CL)) := ok_leq F37 ML ⟨ca_CL, cs_CL, ct_CL, cm_CL⟩ BT ⟨a35, i35, neCM, cm_CM⟩ b35 GKQ
    have GLNI : FnNI l.prog w K mg base 1 f37 _ pEq (preNT CL) := ok_lni F37 ML ⟨⟨ca_CL, cs_CL, ct_CL, cm_CL⟩, ci_CL, ty_CL⟩ BT (PySem.W.mg_none_of X G z_NotImplemented)
    have GH : FnOk l.prog w K mg base L2.CX0 4 f40 _ ["self"] (spHides K C CM) := ok_hides F40 MT MK BT (PySem.W.mg_none_of X G z_set) MT31 b31 GR
    have PW' : PropOf K CM "hides" pW f40 := ⟨aW, gW, tW, rW, rcW⟩
    have GHL : FnOk l.prog w K mg base L2.CX0 2 _ _ ["_law_plain_here"] (spHidL K) := ok_hidL D12 D7 BT (PySem.W.mg_none_of X G z_set)
    have GIS : FnOk l.prog w K mg base L2.CX0 3 _ _ pIsM (spIsM K C) := ok_ism D8 MT BT F33 b33 ⟨a33, i33⟩
    have GD : FnOk l.prog w K mg base L2.CX0 1 _ _ pDraw spDraw := ok_draw D2.F B1
    have GPK : FnOk l.prog w K mg base L2.CX0 2 _ _ pPick (spPickL K) := ok_pickL D3 D2 B1
    have GLF : FnOk l.prog w K mg base L2.CX0 5 _ _ ["_law_marks"] (spLotF K C CM CL) := ok_lotf D15 ML Mk36 b36 GLB OT OO (exm_of eT iT tT sTT) (exm_of eT iT tT sOT) (exm_of eO iO tO sOO)
    have RF : Rf l.prog w K mg base C CM CL := ⟨BT, MK, ⟨_, _, D2, GD⟩, ⟨_, _, D3, GPK⟩, ⟨_, _, D5, ok_plainT D5 D2 D3 B1⟩, ⟨_, _, D6, GM⟩, ⟨_, _, Mk34, b34, GKI⟩, ⟨_, _, D15, GLF⟩⟩
    have FF : Fs l.prog w K mg base C CM CL := ⟨BT, MT, MK, ML,
      ⟨_, _, D1, ok_pen D1 B1⟩,
      ⟨_, _, D2, GD⟩,
      ⟨_, _, D3, GPK⟩,
      ⟨_, _, D4, ok_words D4 D2 D3 B1⟩,
      ⟨_, _, D6, GM⟩,
      ⟨_, _, D9, ok_lot D9 D5 D3 (ok_plain D5 D2 D3 B1) GPK B1⟩,
      ⟨_, _, D10, ok_lotm D10 D6 GM MK ML Mk34 b34 GKI Mk36 b36 GLI⟩,
      ⟨_, _, D11, ok_begin D11 B1⟩,
      ⟨_, _, D13, ok_mkR D13 MT MK BT D8 GIS D12 GHL PW' b40 GH⟩,
      ⟨_, _, D14, ok_rulef D14 D6 GM MK Mk34 b34 GKB OR (exm_of eR iR tR sRR)⟩,
      ⟨_, _, D16, ok_lref RF D16⟩,
      ⟨_, _, Mk34, b34, GKI⟩, ⟨_, _, Mk36, b36, GLI⟩,
      ⟨_, _, ⟨a38, i38⟩, b38, ok_llen F38 ML BT⟩,
      ⟨_, _, a39, fiG, i39, b39, ok_lget F39 ML⟩,
      ⟨_, _, ⟨a35, i35, neCM, cm_CM⟩, b35, GKQ⟩,
      ⟨_, _, ⟨a37, i37, neCL, cm_CL⟩, b37, GLQ, GLNI⟩, mtL⟩
    exact ok_law FF D17.F

theorem walk {l : PySem.W.OpenLaw} {q : Program} {loose : List Str} {XP : (Str → Option Value) → Heap → Prop} {YP : World → Heap → Prop} {d : DefRec} {K : Params → PySem.W.Frag} (hn : l.most = some 63) (hdf : d.params.defaults = [])
    (hY : ∀ (w : World) (h : Heap), YP w h → (K w.params).In h)
    (F : ∀ (w : World) (mg : Str → Option Value) (fa : Addr) (h : Heap), (K w.params).In h → h.Ns mainGlobals mg → mg d.name = some (.ref fa) → OwnTabs q mg h → LawAtS l w (K w.params) L2.CX0 9 63 "_law_script" mg fa h) :
    PySem.W.WalkO q loose XP YP l.row.toRowW d [] (fun f vs => PySem.call f vs) :=
  walk_tabs (n := 63) (k := 9) (x := "_law_script") (CX := fun _ => L2.CX0) hn (by decide) hdf ⟨rfl, by decide, by decide⟩ hY (fun w mg fa h _ => F w mg fa h) fun _ _ _ _ _ z => z
end K1
open PySem PySem.W PyProof.Rows in
set_option maxRecDepth 100000 in
set_option maxHeartbeats 0 in
theorem PySem.Challenge.cw_betweenlooks_k29_marks_and_lots_made_holds : PySem.Challenge.rw_betweenlooks_k29_marks_and_lots_made.Holds := by
  w_on; o_law; k_head; (case hw => w_witness2)
  k_fill
  refine K1.walk (l := PySem.Challenge.rw_betweenlooks_k29_marks_and_lots_made) rfl rfl (fun w h Y => PySem.W.kIn_of Y) ?F
  case F =>
    intro w mg fa h KX G hmg OT
    refine' K1.all_mk KX G hmg OT ?a1 ?l1 ?c1 ?k1 ?a2 ?l2 ?c2 ?k2 ?a3 ?l3 ?c3 ?k3 ?a4 ?l4 ?c4 ?k4 ?a5 ?l5 ?c5 ?k5 ?a6 ?l6 ?c6 ?k6 ?a7 ?l7 ?c7 ?k7 ?a8 ?l8 ?c8 ?k8 ?a9 ?l9 ?c9 ?k9 ?a10 ?l10 ?c10 ?k10 ?a11 ?l11 ?c11 ?k11 ?a12 ?l12 ?c12 ?k12 ?a13 ?l13 ?c13 ?k13 ?a14 ?l14 ?c14 ?k14 ?a15 ?l15 ?c15 ?k15 ?a16 ?l16 ?c16 ?k16 ?a17 ?l17 ?c17 ?k17 ?a18 ?l18 ?c18 ?k18 ?a19 ?l19 ?c19 ?k19 ?a20 ?l20 ?c20 ?k20 ?a21 ?l21 ?c21 ?k21 ?a22 ?l22 ?c22 ?k22 ?a23 ?l23 ?c23 ?k23 ?a24 ?l24 ?c24 ?k24 ?a25 ?l25 ?c25 ?k25 ?a26 ?l26 ?c26 ?k26 ?a27 ?l27 ?c27 ?k27 ?a28 ?l28 ?c28 ?k28 ?a29 ?l29 ?c29 ?k29 ?lT29 ?aC ?pgC ?hdC ?poC ?saC ?mkC ?kcC ?nC_deeds ?nC_rows ?nC_tells ?nC_start ?a30 ?i30 ?l30 ?c30 ?k30 ?lT30 ?a31 ?i31 ?l31 ?c31 ?k31 ?a32 ?i32 ?l32 ?c32 ?k32 ?a33 ?i33 ?l33 ?c33 ?k33 ?aCM ?pgCM ?hdCM ?poCM ?saCM ?mkCM ?kcCM ?nCM_machine ?nCM_rule ?a34 ?i34 ?l34 ?c34 ?k34 ?a35 ?i35 ?l35 ?c35 ?k35 ?aCL ?pgCL ?hdCL ?poCL ?saCL ?mkCL ?kcCL ?nCL_marks ?nCL_begin ?a36 ?i36 ?l36 ?c36 ?k36 ?a37 ?i37 ?l37 ?c37 ?k37 ?a38 ?i38 ?l38 ?c38 ?k38 ?a39 ?i39 ?l39 ?c39 ?k39 ?fiG ?neC ?ca_C ?cs_C ?ct_C ?cm_C ?ci_C ?ty_C ?neCM ?ca_CM ?cs_CM ?ct_CM ?cm_CM ?ci_CM ?ty_CM ?neCL ?ca_CL ?cs_CL ?ct_CL ?cm_CL ?ci_CL ?ty_CL ?mtL ?aW ?gW ?tW ?rcW ?l40 ?c40 ?k40 ?a00 ?aT ?xT ?saT ?gaT ?ggT ?eT ?tT ?kkT ?hT ?iT ?noT_what ?noT_many ?noT_most ?a41 ?t41 ?l41 ?c41 ?k41 ?aO ?xO ?saO ?gaO ?ggO ?eO ?tO ?kkO ?hO ?iO ?noO_have ?noO_want ?a42 ?t42 ?l42 ?c42 ?k42 ?aR ?xR ?saR ?gaR ?ggR ?eR ?tR ?kkR ?hR ?iR ?noR_rule ?a43 ?t43 ?l43 ?c43 ?k43 ?sTT ?sOT ?sOO ?sRR ?co_LETTERS ?co_DIGITS ?co_LONGEST_WORD ?co_LONGEST_TELL ?co_MOST_DEEDS ?co_MOST_STATES ?co_MOST_MARKS ?aRU ?lqpR ?cqpR ?dqpR ?zqpR ?vqpR ?z_int ?z_len ?z_list ?z_range ?z_tuple ?z_isinstance ?z_bool ?z_str ?z_all ?z_enumerate ?z_min ?z_zip ?z_set ?z_NotImplemented
    (case a1 => k_is)
    (case l1 => k_is)
    (case c1 => k_is)
    (case k1 => k_is)
    (case a2 => k_is)
    (case l2 => k_is)
    (case c2 => k_is)
    (case k2 => k_is)
    (case a3 => k_is)
    (case l3 => k_is)
    (case c3 => k_is)
    (case k3 => k_is)
    (case a4 => k_is)
    (case l4 => k_is)
    (case c4 => k_is)
    (case k4 => k_is)
    (case a5 => k_is)
    (case l5 => k_is)
    (case c5 => k_is)
    (case k5 => k_is)
    (case a6 => k_is)
    (case l6 => k_is)
    (case c6 => k_is)
    (case k6 => k_is)
    (case a7 => k_is)
    (case l7 => k_is)
    (case c7 => k_is)
    (case k7 => k_is)
    (case a8 => k_is)
    (case l8 => k_is)
    (case c8 => k_is)
    (case k8 => k_is)
    (case a9 => k_is)
    (case l9 => k_is)
    (case c9 => k_is)
    (case k9 => k_is)
    (case a10 => k_is)
    (case l10 => k_is)
    (case c10 => k_is)
    (case k10 => k_is)
    (case a11 => k_is)
    (case l11 => k_is)
    (case c11 => k_is)
    (case k11 => k_is)
    (case a12 => k_is)
    (case l12 => k_is)
    (case c12 => k_is)
    (case k12 => k_is)
    (case a13 => k_is)
    (case l13 => k_is)
    (case c13 => k_is)
    (case k13 => k_is)
    (case a14 => k_is)
    (case l14 => k_is)
    (case c14 => k_is)
    (case k14 => k_is)
    (case a15 => k_is)
    (case l15 => k_is)
    (case c15 => k_is)
    (case k15 => k_is)
    (case a16 => k_is)
    (case l16 => k_is)
    (case c16 => k_is)
    (case k16 => k_is)
    (case a17 => k_is)
    (case l17 => k_is)
    (case c17 => k_is)
    (case k17 => k_is)
    (case a18 => k_is)
    (case l18 => k_is)
    (case c18 => k_is)
    (case k18 => k_is)
    (case a19 => k_is)
    (case l19 => k_is)
    (case c19 => k_is)
    (case k19 => k_is)
    (case a20 => k_is)
    (case l20 => k_is)
    (case c20 => k_is)
    (case k20 => k_is)
    (case a21 => k_is)
    (case l21 => k_is)
    (case c21 => k_is)
    (case k21 => k_is)
    (case a22 => k_is)
    (case l22 => k_is)
    (case c22 => k_is)
    (case k22 => k_is)
    (case a23 => k_is)
    (case l23 => k_is)
    (case c23 => k_is)
    (case k23 => k_is)
    (case a24 => k_is)
    (case l24 => k_is)
    (case c24 => k_is)
    (case k24 => k_is)
    (case a25 => k_is)
    (case l25 => k_is)
    (case c25 => k_is)
    (case k25 => k_is)
    (case a26 => k_is)
    (case l26 => k_is)
    (case c26 => k_is)
    (case k26 => k_is)
    (case a27 => k_is)
    (case l27 => k_is)
    (case c27 => k_is)
    (case k27 => k_is)
    (case a28 => k_is)
    (case l28 => k_is)
    (case c28 => k_is)
    (case k28 => k_is)
    (case a29 => k_is)
    (case l29 => k_is)
    (case c29 => k_is)
    (case k29 => k_is)
    (case lT29 => k_is)
    (case aC => k_is)
    (case pgC => k_is)
    (case hdC => k_is)
    (case poC => k_is)
    (case saC => k_is)
    (case mkC => k_is)
    (case kcC => k_is)
    (case nC_deeds => k_is)
    (case nC_rows => k_is)
    (case nC_tells => k_is)
    (case nC_start => k_is)
    (case a30 => k_is)
    (case i30 => k_is)
    (case l30 => k_is)
    (case c30 => k_is)
    (case k30 => k_is)
    (case lT30 => k_is)
    (case a31 => k_is)
    (case i31 => k_is)
    (case l31 => k_is)
    (case c31 => k_is)
    (case k31 => k_is)
    (case a32 => k_is)
    (case i32 => k_is)
    (case l32 => k_is)
    (case c32 => k_is)
    (case k32 => k_is)
    (case a33 => k_is)
    (case i33 => k_is)
    (case l33 => k_is)
    (case c33 => k_is)
    (case k33 => k_is)
    (case aCM => k_is)
    (case pgCM => k_is)
    (case hdCM => k_is)
    (case poCM => k_is)
    (case saCM => k_is)
    (case mkCM => k_is)
    (case kcCM => k_is)
    (case nCM_machine => k_is)
    (case nCM_rule => k_is)
    (case a34 => k_is)
    (case i34 => k_is)
    (case l34 => k_is)
    (case c34 => k_is)
    (case k34 => k_is)
    (case a35 => k_is)
    (case i35 => k_is)
    (case l35 => k_is)
    (case c35 => k_is)
    (case k35 => k_is)
    (case aCL => k_is)
    (case pgCL => k_is)
    (case hdCL => k_is)
    (case poCL => k_is)
    (case saCL => k_is)
    (case mkCL => k_is)
    (case kcCL => k_is)
    (case nCL_marks => k_is)
    (case nCL_begin => k_is)
    (case a36 => k_is)
    (case i36 => k_is)
    (case l36 => k_is)
    (case c36 => k_is)
    (case k36 => k_is)
    (case a37 => k_is)
    (case i37 => k_is)
    (case l37 => k_is)
    (case c37 => k_is)
    (case k37 => k_is)
    (case a38 => k_is)
    (case i38 => k_is)
    (case l38 => k_is)
    (case c38 => k_is)
    (case k38 => k_is)
    (case a39 => k_is)
    (case i39 => k_is)
    (case l39 => k_is)
    (case c39 => k_is)
    (case k39 => k_is)
    (case fiG => k_is)
    (case neC => k_is)
    (case ca_C => k_is)
    (case cs_C => k_is)
    (case ct_C => k_is)
    (case cm_C => k_is)
    (case ci_C => k_is)
    (case ty_C => k_is)
    (case neCM => k_is)
    (case ca_CM => k_is)
    (case cs_CM => k_is)
    (case ct_CM => k_is)
    (case cm_CM => k_is)
    (case ci_CM => k_is)
    (case ty_CM => k_is)
    (case neCL => k_is)
    (case ca_CL => k_is)
    (case cs_CL => k_is)
    (case ct_CL => k_is)
    (case cm_CL => k_is)
    (case ci_CL => k_is)
    (case ty_CL => k_is)
    (case mtL => k_is)
    (case aW => k_is)
    (case gW => k_is)
    (case tW => k_is)
    (case rcW => k_is)
    (case l40 => k_is)
    (case c40 => k_is)
    (case k40 => k_is)
    (case a00 => k_is)
    (case aT => k_is)
    (case xT => k_is)
    (case saT => k_is)
    (case gaT => k_is)
    (case ggT => k_is)
    (case eT => k_is)
    (case tT => k_is)
    (case kkT => k_is)
    (case hT => k_is)
    (case iT => k_is)
    (case noT_what => k_is)
    (case noT_many => k_is)
    (case noT_most => k_is)
    (case a41 => k_is)
    (case t41 => k_is)
    (case l41 => k_is)
    (case c41 => k_is)
    (case k41 => k_is)
    (case aO => k_is)
    (case xO => k_is)
    (case saO => k_is)
    (case gaO => k_is)
    (case ggO => k_is)
    (case eO => k_is)
    (case tO => k_is)
    (case kkO => k_is)
    (case hO => k_is)
    (case iO => k_is)
    (case noO_have => k_is)
    (case noO_want => k_is)
    (case a42 => k_is)
    (case t42 => k_is)
    (case l42 => k_is)
    (case c42 => k_is)
    (case k42 => k_is)
    (case aR => k_is)
    (case xR => k_is)
    (case saR => k_is)
    (case gaR => k_is)
    (case ggR => k_is)
    (case eR => k_is)
    (case tR => k_is)
    (case kkR => k_is)
    (case hR => k_is)
    (case iR => k_is)
    (case noR_rule => k_is)
    (case a43 => k_is)
    (case t43 => k_is)
    (case l43 => k_is)
    (case c43 => k_is)
    (case k43 => k_is)
    (case sTT => k_is)
    (case sOT => k_is)
    (case sOO => k_is)
    (case sRR => k_is)
    (case co_LETTERS => k_is)
    (case co_DIGITS => k_is)
    (case co_LONGEST_WORD => k_is)
    (case co_LONGEST_TELL => k_is)
    (case co_MOST_DEEDS => k_is)
    (case co_MOST_STATES => k_is)
    (case co_MOST_MARKS => k_is)
    (case aRU => k_is)
    (case lqpR => k_is)
    (case cqpR => rfl)
    (case dqpR => rfl)
    (case zqpR => exact Nat.le_of_ble_eq_true rfl)
    (case vqpR => exact (.cons ⟨_, rfl⟩ (.cons ⟨_, rfl⟩ .nil)))
    (case z_int => k_is)
    (case z_len => k_is)
    (case z_list => k_is)
    (case z_range => k_is)
    (case z_tuple => k_is)
    (case z_isinstance => k_is)
    (case z_bool => k_is)
    (case z_str => k_is)
    (case z_all => k_is)
    (case z_enumerate => k_is)
    (case z_min => k_is)
    (case z_zip => k_is)
    (case z_set => k_is)
    (case z_NotImplemented => k_is)
