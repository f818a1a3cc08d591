import PyProof.Rows.All
import Wide.All
import OpenK.AllK
import Wide.FinOn
import HandS.TupLe
import HandS.Conv
import HandS.WideBits
import HandS.ForMost
import HandS.Flow
import HandS.Wide
import HandS.Walk
import KE.GoesMore
import HandS.OwnEq
import PyProof.InstNe
import PyProof.NeKinds
import PyProof.IsRules
import HandS.ExcInit
import HandS.ExcField
import HandS.WordsExc
import HandS.IsInst
import HandS.TupAny
import KE.KMathGC
import HandS.Gcd
import HandS.SetFor
import HandS.Strs
import HandS.Defaults
import OpenK.KMeth
import HandS.Lambda
import HandS.EndTab
import PyProof.ReprRoads
import HandS.Exc
import HandS.TryMany
import HandS.RaiseMore
import HandS.FStrTup
import HandS.ExcOwn
import HandS.MakeKwOnly
import PySem.Challenge.RW_betweenlooks_k09_acts_and_their_operator
set_option Elab.async false
set_option maxRecDepth 100000
namespace K1
open PySem L2
def top (i : Nat) : Stmt := PySem.Challenge.pw_betweenlooks_k09_acts_and_their_operator.main.body.getD i (.Pass ⟨0, 0, 0, 0⟩)
abbrev sPen : Stmt := top 18
abbrev sDraw : Stmt := top 19
abbrev sPick : Stmt := top 20
abbrev sWords : Stmt := top 43
/-! the pen: a dict of three -/
abbrev kCells : Key := Sum.inr "cells"
abbrev kAt : Key := Sum.inr "at"
abbrev kLeft : Key := Sum.inr "left"
theorem n_ca : ¬ (kCells = kAt) := by decide +kernel
theorem n_cl : ¬ (kCells = kLeft) := by decide +kernel
theorem n_al : ¬ (kAt = kLeft) := by decide +kernel
theorem n_la : ¬ (kLeft = kAt) := by decide +kernel
theorem n_ac : ¬ (kAt = kCells) := by decide +kernel
theorem n_lc : ¬ (kLeft = kCells) := by decide +kernel
def penK (c : Addr) (a l : Int) : List (Key × V) := [(kCells, .ref c), (kAt, .int a), (kLeft, .int l)]
theorem penK_cells (c : Addr) (a l : Int) : valV (penK c a l) kCells = some (.ref c) := valV_pos rfl
theorem penK_at (c : Addr) (a l : Int) : valV (penK c a l) kAt = some (.int a) := by
  unfold penK; rw [valV_neg n_ca]; exact valV_pos rfl
theorem penK_left (c : Addr) (a l : Int) : valV (penK c a l) kLeft = some (.int l) := by
  unfold penK; rw [valV_neg n_cl, valV_neg n_al]; exact valV_pos rfl
theorem penK_put_at (c : Addr) (a l b : Int) : putK (penK c a l) kAt (.int b) = penK c b l := by
  have h1 : ¬ (("cells" : Str) = "at") := by decide +kernel
  have h2 : ¬ (("left" : Str) = "at") := by decide +kernel
  unfold penK putK; simp [h1, h2]
theorem penK_put_left (c : Addr) (a l b : Int) : putK (penK c a l) kLeft (.int b) = penK c a b := by
  have h1 : ¬ (("cells" : Str) = "left") := by decide +kernel
  have h2 : ¬ (("at" : Str) = "left") := by decide +kernel
  unfold penK putK; simp [h1, h2]
/-- at d stands a pen that was drawn from at most n times -/
def PenAt (H : Hp) (d c : Addr) (n : Nat) : Prop := ∃ (ns : List Int) (a l : Int), H d = some (.dK (penK c a l)) ∧ H c = some (.lst (ns.map V.int)) ∧ ns.length ≤ 63 ∧ 0 ≤ a ∧ a ≤ n
/-- all but d is kept -/
def Kept (d : Addr) (H H' : Hp) : Prop := ∀ b o, H b = some o → b ≠ d → H' b = some o
theorem Kept.refl (d : Addr) (H : Hp) : Kept d H H := fun _ _ e _ => e
theorem Kept.trans {d : Addr} {H H1 H2 : Hp} (a : Kept d H H1) (b : Kept d H1 H2) : Kept d H H2 := fun c o e n => b c o (a c o e n) n
theorem Kept.same {d : Addr} {H H1 : Hp} (a : Same H H1) : Kept d H H1 := fun c o e _ => a c o e
theorem same_upd {H : Hp} {p : Addr} {o : HO} (h : H p = none) : Same H (upd H p o) := fun b u e => by rw [upd_ne (ne_of_none e h)]; exact e
theorem PenAt.mono {H : Hp} {d c : Addr} {n m : Nat} (h : PenAt H d c n) (l : n ≤ m) : PenAt H d c m := by
  obtain ⟨ns, a, x, h1, h2, h3, h4, h5⟩ := h
  exact ⟨ns, a, x, h1, h2, h3, h4, by omega⟩
theorem PenAt.same {H H' : Hp} {d c : Addr} {n : Nat} (h : PenAt H d c n) (s : Same H H') : PenAt H' d c n := by
  obtain ⟨ns, a, x, h1, h2, h3⟩ := h
  exact ⟨ns, a, x, s _ _ h1, s _ _ h2, h3⟩
theorem PenAt.ne {H : Hp} {d c D : Addr} {n : Nat} (h : PenAt H d c n) (z : H D = none) : D ≠ d ∧ D ≠ c := by
  obtain ⟨ns, a, x, h1, h2, h3⟩ := h
  exact ⟨(ne_of_none h1 z).symm, (ne_of_none h2 z).symm⟩
theorem PenAt.upd {H : Hp} {d c D : Addr} {n : Nat} {o : HO} (h : PenAt H d c n) (n1 : D ≠ d) (n2 : D ≠ c) : PenAt (upd H D o) d c n := by
  obtain ⟨ns, a, x, h1, h2, h3⟩ := h
  exact ⟨ns, a, x, by rw [upd_ne n1.symm]; exact h1, by rw [upd_ne n2.symm]; exact h2, h3⟩
theorem Kept.upd {d D : Addr} {H0 H : Hp} {o : HO} (k : Kept d H0 H) (h : H0 D = none) : Kept d H0 (upd H D o) := fun b u e nb => by
  rw [upd_ne (ne_of_none e h)]; exact k b u e nb
theorem Kept.free {d c : Addr} {H H' : Hp} {n : Nat} (k : Kept d H H') (p : PenAt H' d c n) {l : Addr} (h : H' l = none) : H l = none := by
  cases q : H l with
  | none => rfl
  | some o =>
    by_cases e : l = d
    · obtain ⟨ns, a, x, h1, _⟩ := p
      subst e; rw [h] at h1; cases h1
    · have := k l o q e; rw [h] at this; cases this
theorem penK_len (c : Addr) (a l : Int) : (penK c a l).length < sizeLine := by show 3 < sizeLine; decide
theorem dp_ints {K : PySem.W.Frag} {H : Hp} : ∀ ns : List Int, DpAll K H (ns.map V.int) (ns.map PyData.int)
  | [] => .nil
  | n :: r => .cons (.int n) (dp_ints r)
theorem canLay_ints : ∀ ns : List Int, PyData.canLayAll0 (ns.map PyData.int) = true
  | [] => rfl
  | n :: r => by simp [PyData.canLayAll0, PyData.canLay0, canLay_ints r]
theorem eqv_ints_nil (ns : List Int) : PyData.eqv (.list (ns.map PyData.int)) (.list []) = ns.isEmpty := by
  cases ns <;> simp [PyData.eqv, PyData.eqvAll]
theorem shaped_ints (ns : List Int) : SeqAt.shaped (.list (ns.map PyData.int)) = true := by
  have h : ∀ ns : List Int, PyData.depthAll (ns.map PyData.int) ≤ 1 := by
    intro ns
    induction ns with
    | nil => decide
    | cons n r ih => simp only [List.map_cons, PyData.depthAll, PyData.depth]; omega
  have h1 := h ns
  unfold SeqAt.shaped
  rw [PyData.canLay0, canLay_ints, PyData.depth]
  simp only [Bool.true_and, decide_eq_true_eq]
  omega
theorem map_get {ns : List Int} {j : Nat} (h : j < ns.length) : (ns.map V.int)[j]? = some (V.int (ns.getD j 0)) := by
  simp [List.getElem?_eq_getElem h, h]
theorem fmod_nat {a m : Int} (hm : 0 < m) : ∃ j : Nat, a.fmod m = (j : Int) ∧ (j : Int) < m := by
  have h1 := Int.fmod_nonneg_of_pos a hm
  have h2 := Int.fmod_lt_of_pos a hm
  exact ⟨(a.fmod m).toNat, by omega, by omega⟩
theorem fmod_bd {a m : Int} (hm : 0 < m) (hM : m ≤ 2147483648) : -(2 ^ 64) < a.fmod m ∧ a.fmod m < 2 ^ 64 := by
  have h1 := Int.fmod_nonneg_of_pos a hm
  have h2 := Int.fmod_lt_of_pos a hm
  exact ⟨by omega, by omega⟩
structure Bt (mg : Str → Option Value) : Prop where
  int : mg "int" = none
  len : mg "len" = none
  list : mg "list" = none
  range : mg "range" = none
  tuple : mg "tuple" = none
/-- draw: r below many; the pen has been drawn from once more; all else is kept -/
def spDraw : Sp := fun vs H Q _ => ∃ (d c : Addr) (n : Nat) (many : Int), vs = [.ref d, .int many] ∧ PenAt H d c n ∧ n ≤ 1000000 ∧ 0 < many ∧ many < 1073741824 ∧
  ∀ (r : Int) (H' : Hp), 0 ≤ r → r < many → PenAt H' d c (n + 1) → Kept d H H' → Q (.int r) H'
section
variable {P : Program} {w : World} {K : PySem.W.Frag} {mg : Str → Option Value} {base : Heap}
theorem scDraw : FnScope ["_law_pen_here", "_law_many", "_law_digit", "_law_at", "_law_cell", "_law_mixed"] ["_law_pen_here", "_law_many"] (defScope sDraw) := ⟨rfl, rfl, rfl, by decide +kernel, rfl, by decide +kernel, by decide +kernel⟩
theorem ok_draw {f : Addr} {fd : FuncData} (F : Fun K "_law_draw" "_law_draw" sDraw f fd) (T : Bt mg) : FnOk P w K mg base CX0 1 f fd ["_law_pen_here", "_law_many"] spDraw := by
  refine F.ok scDraw (fun vs H Q E h => ?_) (fun cdv A outer s H vs Q E hr h => ?_)
  · obtain ⟨d, c, n, many, rfl, _⟩ := h
    rfl
  · obtain ⟨d, c, n, many, rfl, ⟨ns, a, l, hd, hc, hns, ha0, ha1⟩, hn, hm0, hm1, k⟩ := h
    have hu := hu_of hr
    have ncd : c ≠ d := ne_of hc hd (by intro z; cases z)
    have gL : DGet H d (.str "left") (some (.int l)) := by have := DGet.k (k := kLeft) hd; rw [penK_left] at this; exact this
    refine ⟨_, pss_cons (ps_if (pt_cmpR op_ge (pe_dget hu (pv 0) pe_str (fun _ _ => rfl)) (pv 1) (nomark _))
        (pss_cons (ps_set (i := 2) scDraw.nd rfl (Or.inl rfl) (pe_op op_modN (pe_callTy call_int1 (by rfl) T.int (by decide +kernel) (pa_cons (pe_dget hu (pv 0) pe_str (fun _ _ => rfl)) pa_nil)) (pv 1)))
        (pss_cons (ps_dput hu (pv 0) pe_str (pe_op op_fdivN (pe_dget hu (pv 0) pe_str (fun _ _ => rfl)) (pv 1)) rfl)
        (pss_one (ps_ret (pv 2))))) pss_nil)
      (pss_cons (ps_set (i := 3) scDraw.nd rfl (Or.inl rfl) (pe_dget hu (pv 0) pe_str (fun _ _ => rfl)))
      (pss_cons (ps_dput hu (pv 0) pe_str (pe_op op_add (pv 3) pe_int) rfl)
      (pss_cons (ps_set (i := 4) scDraw.nd rfl (Or.inl rfl) (pe_op op_add (pe_op op_mul pe_int (pv 3)) pe_int))
      (pss_cons (ps_if (pt_cmpR (op_neD hr.units) (pe_dget hu (pv 0) pe_str (fun _ _ => rfl)) (pe_lst pa_nil) (nomark _))
          (pss_one (ps_set (i := 4) scDraw.nd rfl (Or.inl rfl) (pe_ix ix_list (pe_dget hu (pv 0) pe_str (fun _ _ => rfl)) (pe_op op_modN (pe_callTy call_int1 (by rfl) T.int (by decide +kernel) (pa_cons (pv 3) pa_nil)) (pe_callB call_len (by rfl) T.len PySem.boot_len (pa_cons (pe_dget hu (pv 0) pe_str (fun _ _ => rfl)) pa_nil))) (fun _ _ => rfl)))) pss_nil)
      (pss_cons (ps_if (PW.pt (pw_and (pt_cmpR op_lt (pv 3) (pe_callB call_len (by rfl) T.len PySem.boot_len (pa_cons (pe_dget hu (pv 0) pe_str (fun _ _ => rfl)) pa_nil)) (nomark _)) (pw_and1 (pt_cmpR op_ge (pv 4) (pe_op op_pow pe_int pe_int) (nomark _)))))
          (pss_cons (ps_dput hu (pv 0) pe_str (pe_op op_fdivN (pe_op op_sub (pv 4) (pe_op op_pow pe_int pe_int)) (pv 1)) rfl)
          (pss_one (ps_ret (pe_op op_modN (pe_callTy call_int1 (by rfl) T.int (by decide +kernel) (pa_cons (pe_op op_sub (pv 4) (pe_op op_pow pe_int pe_int)) pa_nil)) (pv 1))))) pss_nil)
      (pss_cons (ps_set (i := 5) scDraw.nd rfl (Or.inl rfl) (pe_op op_add (pe_op op_add (pe_op op_add (pe_op op_mul (pe_op op_modN (pe_callTy call_int1 (by rfl) T.int (by decide +kernel) (pa_cons (pv 4) pa_nil)) pe_int) pe_int) (pe_op op_mul (pe_op op_mul pe_int (pv 3)) (pv 3))) (pe_op op_mul pe_int (pv 3))) pe_int))
      (pss_cons (ps_set (i := 5) scDraw.nd rfl (Or.inl rfl) (pe_op op_modN (pe_callTy call_int1 (by rfl) T.int (by decide +kernel) (pa_cons (pv 5) pa_nil)) pe_int))
      (pss_cons (ps_set (i := 5) scDraw.nd rfl (Or.inl rfl) (pe_op op_modN (pe_callTy call_int1 (by rfl) T.int (by decide +kernel) (pa_cons (pe_op op_mul (pv 5) (pe_op op_add (pv 5) pe_int)) pa_nil)) pe_int))
      (pss_one (ps_ret (pe_op op_modN (pe_callTy call_int1 (by rfl) T.int (by decide +kernel) (pa_cons (pe_op op_fdivN (pe_op op_modN (pe_callTy call_int1 (by rfl) T.int (by decide +kernel) (pa_cons (pe_op op_mul (pv 5) (pv 5)) pa_nil)) pe_int) pe_int) pa_nil)) (pv 1)))))))))))), ?_⟩
    -- pen['left'] >= many
    refine ⟨_, rfl, d, _, rfl, gL, _, rfl, _, _, rfl, rfl, _, rfl, ?_⟩
    refine ite2 (fun _ => ?_) (fun _ => ?_)
    · refine ⟨_, rfl, d, _, rfl, gL, .inl ⟨_, rfl, ?_⟩⟩
      refine ⟨_, rfl, _, _, rfl, rfl, (by omega), ?_⟩
      refine ⟨_, rfl, d, _, rfl, gL, _, rfl, _, _, rfl, rfl, ⟨by omega, by omega⟩, ?_⟩
      refine ⟨_, rfl, d, _, rfl, DPut.k (k := kLeft) hd (penK_len _ _ _), ?_⟩
      refine ⟨_, rfl, ?_⟩
      refine k _ _ (Int.fmod_nonneg_of_pos _ hm0) (Int.fmod_lt_of_pos _ hm0) ⟨ns, a, l.fdiv many, ?_, ?_, hns, ha0, by omega⟩ ?_
      · rw [upd_same, penK_put_left]
      · rw [upd_ne ncd]; exact hc
      · intro b o e nb; rw [upd_ne nb]; exact e
    · have gA : DGet H d (.str "at") (some (.int a)) := by have := DGet.k (k := kAt) hd; rw [penK_at] at this; exact this
      refine ⟨_, rfl, d, _, rfl, gA, ?_⟩
      refine ⟨_, rfl, _, _, rfl, rfl, _, rfl, d, _, rfl, DPut.k (k := kAt) hd (penK_len _ _ _), ?_⟩
      rw [penK_put_at]
      have hd1 : upd H d (.dK (penK c (a + 1) l)) d = some (.dK (penK c (a + 1) l)) := upd_same
      have hc1 : upd H d (.dK (penK c (a + 1) l)) c = some (.lst (ns.map V.int)) := by rw [upd_ne ncd]; exact hc
      have kp1 : Kept d H (upd H d (.dK (penK c (a + 1) l))) := fun b o e nb => by rw [upd_ne nb]; exact e
      generalize upd H d (.dK (penK c (a + 1) l)) = H1 at hd1 hc1 kp1 ⊢
      refine ⟨_, rfl, _, _, rfl, rfl, .inl ⟨by decide, by decide⟩, _, _, rfl, rfl, ?_⟩
      have gC1 : DGet H1 d (.str "cells") (some (.ref c)) := by have := DGet.k (k := kCells) hd1; rw [penK_cells] at this; exact this
      refine ⟨_, rfl, d, _, rfl, gC1, Nat.zero_le _, fun q hq => ?_⟩
      have sm : Same H1 (upd H1 q (.lst [])) := same_upd hq
      have hq1 : upd H1 q (.lst []) q = some (.lst []) := upd_same
      have hd2 := sm _ _ hd1
      have hc2 := sm _ _ hc1
      have kp2 : Kept d H (upd H1 q (.lst [])) := kp1.trans (.same sm)
      generalize upd H1 q (.lst []) = H2 at hq1 hd2 hc2 kp2 ⊢
      have gC2 : DGet H2 d (.str "cells") (some (.ref c)) := by have := DGet.k (k := kCells) hd2; rw [penK_cells] at this; exact this
      refine ⟨_, _, .lst (SqL.of hc2) (dp_ints ns), .lst (SqL.of hq1) .nil, shaped_ints ns, by decide +kernel, _, rfl, ?_⟩
      rw [eqv_ints_nil]
      have len2 : LenV K (.ref c) H2 ns.length := .inl ⟨_, SqL.of hc2, (List.length_map _).symm⟩
      have hpos : (!ns.isEmpty) = true → 0 < ns.length := fun hne => by
        cases ns with
        | nil => cases hne
        | cons _ _ => exact Nat.succ_pos _
      have hix : (!ns.isEmpty) = true → atI (ns.map V.int) (a.fmod (ns.length : Int)) = some (V.int (ns.getD (a.fmod (ns.length : Int)).toNat 0)) := fun hne => by
        have hp := hpos hne
        obtain ⟨j, ej, hj⟩ := fmod_nat (a := a) (m := (ns.length : Int)) (by omega)
        rw [ej]
        exact atI_nat (map_get (by omega))
      refine ite2 (fun hne => ⟨_, rfl, d, _, rfl, gC2, _, rfl, .inl ⟨_, rfl, ⟨_, rfl, d, _, rfl, gC2, _, _, rfl, len2, _, _, rfl, rfl, (by have := hpos hne; omega), c, _, _, _, rfl, rfl, SqL.of hc2, hix hne, ?_⟩⟩⟩) (fun _ => ?_)
      all_goals
        refine ⟨_, rfl, _, rfl, d, _, rfl, gC2, _, _, rfl, len2, _, _, rfl, rfl, _, rfl, ?_⟩
        have fin : ∀ (H3 : Hp) (l' : Int) (r : Int), H3 d = some (.dK (penK c (a + 1) l')) → H3 c = some (.lst (ns.map V.int)) → Kept d H H3 → Q (.int (r.fmod many)) H3 := fun H3 l' r e1 e2 e3 =>
          k _ _ (Int.fmod_nonneg_of_pos _ hm0) (Int.fmod_lt_of_pos _ hm0) ⟨ns, a + 1, l', e1, e2, hns, by omega, by omega⟩ e3
        refine ite2 (fun _ => ⟨_, rfl, _, _, rfl, rfl, ⟨by decide, by decide, by decide⟩, _, _, rfl, rfl, _, rfl, ite2 (fun _ => ?_) (fun _ => ?_)⟩) (fun _ => ?_)
        ·
          refine ⟨_, rfl, _, _, rfl, rfl, ⟨by decide, by decide, by decide⟩, _, _, rfl, rfl, _, rfl, _, _, rfl, rfl, ⟨by omega, by omega⟩, _, rfl, d, _, rfl, DPut.k (k := kLeft) hd2 (penK_len _ _ _), ?_⟩
          rw [penK_put_left]
          refine ⟨_, rfl, _, _, rfl, rfl, ⟨by decide, by decide, by decide⟩, _, _, rfl, rfl, .inl ⟨_, rfl, ?_⟩⟩
          refine ⟨_, rfl, _, _, rfl, rfl, (by omega), ?_⟩
          refine fin _ _ _ upd_same (by rw [upd_ne ncd]; exact hc2) (fun b o e nb => by rw [upd_ne nb]; exact kp2 b o e nb)
        all_goals
          refine ⟨_, rfl, .inl ⟨_, rfl, ?_⟩⟩
          refine ⟨_, _, rfl, rfl, (by omega), ?_⟩
          refine ⟨_, _, rfl, rfl, .inr ⟨by decide, by decide⟩, ?_⟩
          refine ⟨_, rfl, _, _, rfl, rfl, .inl ⟨by decide, by decide⟩, _, rfl, _, _, rfl, rfl, .inr ⟨by omega, by omega⟩, ?_⟩
          refine ⟨_, _, rfl, rfl, _, rfl, _, _, rfl, rfl, .inl ⟨by decide, by decide⟩, ?_⟩
          refine ⟨_, _, rfl, rfl, _, _, rfl, rfl, ?_⟩
          -- mixed = int(mixed) % 2147483647
          refine ⟨_, rfl, .inl ⟨_, rfl, ?_⟩⟩
          refine ⟨_, _, rfl, rfl, (by omega), ?_⟩
          refine ⟨_, rfl, _, rfl, _, _, rfl, rfl, _, _, rfl, rfl, .inl (fmod_bd (by decide) (by decide)), .inl ⟨_, rfl, ?_⟩⟩
          refine ⟨_, _, rfl, rfl, (by omega), ?_⟩
          refine ⟨_, rfl, _, rfl, _, _, rfl, rfl, .inl (fmod_bd (by decide) (by decide)), .inl ⟨_, rfl, ?_⟩⟩
          refine ⟨_, _, rfl, rfl, (by omega), _, _, rfl, rfl, ⟨by decide, by decide⟩, .inl ⟨_, rfl, ?_⟩⟩
          refine ⟨_, rfl, _, _, rfl, rfl, (by omega), ?_⟩
          exact fin _ _ _ hd2 hc2 kp2
end
end K1
set_option Elab.async false
set_option linter.all false
set_option maxRecDepth 100000
namespace EO
open PySem
open AutoSeq1 (wpAny_loadPart')
set_option maxHeartbeats 1000000 in
theorem meets_enumerate_newT (l : Addr) (items : Array Value) (n : Nat) (dct : Option Addr) (sl : Array (Option Value)) :
    Meets (Builtin.«enumerate.__new__» ⟨[.type "enumerate", .ref l], []⟩) (fun _ R s => s.heap.get? l = some { cls := .type "tuple", dict := dct, data := .seq items n, slots := sl } ∧
      R (.ok (.ret (.ref (s.heap.push { cls := .type "tuple_iterator", data := .fields #[.ref l, .int 0 0] }).objs.size)))
        { s with heap := (s.heap.push { cls := .type "tuple_iterator", data := .fields #[.ref l, .int 0 0] }).push { cls := .type "enumerate", data := .fields #[.none, .bool false, .ref s.heap.objs.size, rawInt 0, .none, .none] } }) :=
  .of_wp fun prog w A R s h => by
    obtain ⟨hp, g, d, tk, os⟩ := s; obtain ⟨hl, h⟩ := h
    have hsub := sub_enumerate
    have hL : Heap.IsTuple (Shared.heap ⟨hp, g, d, tk, os⟩) l items := ⟨_, hl, rfl, n, rfl⟩
    wp_walk using wpAny_loadPart' hl
    refine wpAny_stack_any fun st => wpAny_pure ?_
    split
    · rename_i c _ _ _ _ _
      cases (c == Value.type "enumerate")
      · wp_walk using wpAny_loadPart' hl, wpAny_pyIter_tuple hL
        exact ⟨_, rfl, h⟩
      · wp_walk using wpAny_loadPart' hl, wpAny_pyIter_tuple hL
        exact ⟨_, rfl, h⟩
    · wp_walk using wpAny_loadPart' hl, wpAny_pyIter_tuple hL
      exact ⟨_, rfl, h⟩
section
variable {prog : Program} {w : World} {A : Around} {E : Value → Shared → Prop} {s : Shared}
theorem call_enumerate_tuple {l : Addr} {items : Array Value} {Q : Value → Shared → Prop} (hL : s.heap.IsTuple l items)
    (h : ∀ h', IsEnum h' (s.heap.objs.size + 1) s.heap.objs.size 0 .none → h'.IsTupleIter s.heap.objs.size l 0 → h'.objs.size = s.heap.objs.size + 2 →
      (∀ b o, s.heap.get? b = some o → h'.get? b = some o) → Q (.ref (s.heap.objs.size + 1)) { s with heap := h' }) :
    wpAny (model prog w) A (call (.type "enumerate") [.ref l]) Q E s := by
  obtain ⟨⟨c, dct, dt, sl⟩, hl, hc, n, hd⟩ := hL
  replace hc : c = .type "tuple" := hc
  replace hd : dt = .seq items n := hd
  subst hc hd
  refine callType_new F.called_enumerate (by decide) (F.typeCall_enumerate_1 _) (F.newCall_enumerate_1 _) (fun obj => F.args_object_init_2 obj _) F.entry_enumerate_new
    (meets_enumerate_newT l items n dct sl) ⟨hl, ?_⟩
  have hz : (s.heap.push { cls := .type "tuple_iterator", data := .fields #[.ref l, .int 0 0] }).objs.size = s.heap.objs.size + 1 := Heap.size_push ..
  show _ ∧ _
  rw [hz]
  have he : IsEnum ((s.heap.push { cls := .type "tuple_iterator", data := .fields #[.ref l, .int 0 0] }).push
      { cls := .type "enumerate", data := .fields #[.none, .bool false, .ref s.heap.objs.size, rawInt 0, .none, .none] }) (s.heap.objs.size + 1) s.heap.objs.size 0 .none := by
    have := Heap.get?_push_size (s.heap.push { cls := .type "tuple_iterator", data := .fields #[.ref l, .int 0 0] })
      (o := { cls := .type "enumerate", data := .fields #[.none, .bool false, .ref s.heap.objs.size, rawInt 0, .none, .none] }) rfl
    rw [hz] at this; exact this
  refine ⟨⟨_, he, rfl⟩, h _ he ⟨_, Heap.get?_push_of_some _ (Heap.get?_push_size _ rfl), rfl, rfl⟩ (by rw [Heap.size_push, hz]) fun b o x => Heap.get?_push_of_some _ (Heap.get?_push_of_some _ x)⟩
theorem enumT_end {e it t : Addr} {i : Nat} {k : Int} {items : Array Value} {old : Value} {Q : Option Value → Shared → Prop} (hh : A.handled = none)
    (he : IsEnum s.heap e it k old) (hit : s.heap.IsTupleIter it t i) (ht : s.heap.IsTuple t items) (hx : items[i]? = none)
    (hQ : ∀ h', Heap.ExtBut it s.heap h' → Q none { s with heap := h' }) : wpAny (model prog w) A (pyNext (.ref e)) Q E s := by
  have hT : s.TypeIs (.ref e) "enumerate" := ⟨_, he, rfl⟩
  unfold pyNext
  refine wpAny_bind (wpAny_attempt (wpAny_callSpecial?_slot (name := Str.ofString "__next__") hT F.slot_enumerate_next
    (wpAny_call_entry F.slot_enumerate_next hT F.entry_enumerate_next ?_ (F.args_enumerate_next_1 _))))
  show wpAny _ _ (field (.ref e) 2 >>= _) _ _ _
  refine wpAny_bind (wpAny_field he rfl (x := .ref it) rfl ?_)
  refine wpAny_bind (wpAny_nextOf_tuple_end hh hit ht hx fun h' x he' hx' => ?_)
  obtain ⟨o, ho, hc⟩ := hx'
  refine wpAny_bind (wpAny_isInstance (T := "StopIteration") (b := true) ⟨o, ho, hc⟩ isSubtype_stop ?_)
  exact wpAny_pure (hQ _ he')
end
end EO
namespace L2
open PySem PySem.Spec PyProof.Rows
/-! ### enumerate(tuple) -/
def IteT (K : PySem.W.Frag) (a : Addr) : It :=
  ⟨fun i H => ∃ (xs : List V) (x : V), SqT K H a xs ∧ xs[i]? = some x, fun i H v H' => ∃ T x, v = .ref T ∧ H T = none ∧ H' = upd H T (.tup [.int (i : Nat), x]) ∧ ∀ xs, SqT K H a xs → xs[i]? = some x, fun i H => ∃ xs : List V, SqT K H a xs ∧ xs.length ≤ i⟩
theorem turn_enumT {P : Program} {w : World} {K : PySem.W.Frag} {elts : List Expr} {kk : Nat} {tpos : Pos} (a e it : Addr) :
    Turn P w K (.Tuple elts kk tpos) (IteT K a) [e, it] e (fun i h => (∃ old, IsEnum h e it ((i : Nat) : Int) old) ∧ h.IsTupleIter it a i ∧ e ≠ it) where
  mem := by simp
  obj := fun i h st b hb => by
    obtain ⟨⟨old, he⟩, ⟨o, ho, hc, hd⟩, _⟩ := st
    have e' : b = e ∨ b = it := by simpa using hb
    rcases e' with z | z
    · rw [z]; exact ⟨_, he, fun v q => nomatch q⟩
    · rw [z]; exact ⟨o, ho, fun v q => by rw [hd] at q; cases q⟩
  keep := fun i h h' st k => let ⟨⟨old, he⟩, hi, hne⟩ := st; ⟨⟨old, k e (by simp) _ he⟩, hi.at fun o q => k it (by simp) o q, hne⟩
  item := by
    intro X hP hw hK hc i pins s σ H E I hf st hg
    subst hP hw hK
    obtain ⟨⟨old, he⟩, hit, hne⟩ := st
    obtain ⟨xs, x, hq, hx⟩ := hg
    obtain ⟨its, rv, p, hz⟩ := I.tuple hq
    obtain ⟨u, hu, ru⟩ := rv.get hx
    have hil' : i < its.length := (List.getElem?_eq_some_iff.mp hu).1
    have hel : e < s.heap.objs.size := Heap.lt_size he
    have hil : it < s.heap.objs.size := by obtain ⟨_, q, _⟩ := hit; exact Heap.lt_size q
    have hai : a ≠ it := by
      intro z
      obtain ⟨o1, q1, c1, _⟩ := p
      obtain ⟨o2, q2, c2, _⟩ := hit
      rw [z, q2] at q1; cases q1; rw [c2] at c1; exact absurd c1 (by simp)
    have hea : e ≠ a := by
      intro z
      obtain ⟨o1, q1, c1, _⟩ := p
      rw [← z] at q1
      have q2 := he
      unfold IsEnum at q2
      rw [q1] at q2; cases q2; exact absurd c1 (by simp)
    refine wpAny_pyNext_enum_itemD (Draws.tuple (A := X.A.in1) (I.ok.hd hc) it a hai its.toArray) he ⟨hit, p⟩ (by simpa using hil') hne (by simp [hne, hea]) fun y h' tk hy ho hit' hT hsz hk => ?_
    have hyu : y = u := by
      have : its.toArray[i]? = some u := by simpa using hu
      rw [this] at hy; exact (Option.some.inj hy).symm
    subst hyu
    refine ⟨_, rfl, wpAny_letOwnedTupleGo_enum (s := { s with heap := h', toks := tk + 1 }) ho fun h'' he' sb => ?_⟩
    have hT2 : h''.get? s.heap.objs.size = some { cls := .type "tuple", data := .seq #[.int i tk, y] } := (sb.2 _ (Nat.ne_of_gt hel)).trans hT
    have new : ObjOk X.prog X.w (upd H s.heap.objs.size (.tup [.int (i : Nat), x])) h'' s.heap.objs.size (.tup [.int (i : Nat), x]) :=
      ⟨by show 2 ≤ sizeLine; decide, [.int i tk, y], .cons ⟨_, rfl⟩ (.cons ru .nil), ⟨_, hT2, rfl, _, rfl⟩⟩
    have I1 : Inv X pins σ (upd H s.heap.objs.size (.tup [.int (i : Nat), x])) { s with heap := h'', toks := tk + 1 } :=
      I.turnedNew (ch := [e, it]) (fun b ob hb q => (sb.2 b (fun z => hb (by simp [z]))).trans (hk b ob (fun z => hb (by simp [z])) (fun z => hb (by simp [z])) q)) hf (Nat.le_refl _) new
    refine ⟨.ref s.heap.objs.size, _, I1, rfl, ⟨_, x, rfl, I.hok.fresh (Nat.le_refl _), rfl, fun ys hy => by rw [I.tuple_inj hy hq]; exact hx⟩, ⟨⟨y, ?_⟩, hit'.1.at fun o q => (sb.2 it (Ne.symm hne)).trans q, hne⟩, fun b hb => ?_⟩
    · have e1 : ((i + 1 : Nat) : Int) = (i : Int) + 1 := by omega
      rw [e1]; exact he'
    · have hb' : b < s.heap.objs.size := by
        have e' : b = e ∨ b = it := by simpa using hb
        rcases e' with z | z
        · rw [z]; exact hel
        · rw [z]; exact hil
      rw [upd_ne (Nat.ne_of_lt hb')]
      exact (hf b hb).1
  done := by
    intro X hP hw hK hc i pins s σ H E I hf st hg
    subst hP hw hK
    obtain ⟨⟨old, he⟩, hit, hne⟩ := st
    obtain ⟨xs, hq, hx⟩ := hg
    obtain ⟨its, rv, p, hz⟩ := I.tuple hq
    obtain ⟨f0, f1, f2, f3, f4, f5⟩ := hf it (by simp)
    have hl := rv.length
    exact EO.enumT_end (I.ok.hd hc) he hit p (by simp; omega) fun h' eb => ⟨rfl, I.turned (t' := s.toks) (fun b o hb q => eb b o hb q) f0 f1 f3 f4 f5⟩
  self := fun A i s Q E st h => let ⟨⟨_, he⟩, _⟩ := st; wpAny_pyIter_enum he h
def iEnumT (K : PySem.W.Frag) (ta : TA) : TI := fun σ H R => ta σ H fun vs H1 => ∃ a xs, vs = [.ref a] ∧ SqT K H1 a xs ∧ R (IteT K a) H1
theorem pi_enumT {X : Cx} {e : Expr} {ta : TA} {p pos tpos : Pos} {elts : List Expr} {kk : Nat} (hg : Gl X "enumerate") (hm : X.mg "enumerate" = none) (ha : PA X [e] ta) (hs : starEach [e] X.env = [(false, eval e X.env)] := by rfl) :
    PI X (.Tuple elts kk tpos) (.Call (.Name "enumerate" p) [e] [] pos) (iEnumT X.K ta) := by
  refine ⟨fun pins s σ H R I h => ?_⟩
  refine Call_ (ld_blt I hg hm boot_enumerate (PyProof.Rows.callWith_type1 (thn (ha.run pos pins s σ H _ I h) fun us s1 ⟨vs, H1, I1, r1, q1⟩ => ?_) hs rfl))
  obtain ⟨a, xs, ex, hq, q⟩ := q1
  subst ex
  cases r1 with
  | cons r rr =>
    cases rr
    cases r
    obtain ⟨its, rv, p', hz⟩ := I1.tuple hq
    refine EO.call_enumerate_tuple (by exact p') fun h' he hit hsz hk => wpAny_pyIter_enum he ?_
    have I2 : Inv X pins σ H1 { s1 with heap := h' } := I1.kept (t' := s1.toks) hk
    refine ⟨s1.heap.objs.size + 1, [s1.heap.objs.size + 1, s1.heap.objs.size], _, _, H1, rfl, I2, turn_enumT a (s1.heap.objs.size + 1) s1.heap.objs.size, ⟨⟨.none, he⟩, hit, Nat.succ_ne_self _⟩, fun b hb => ?_, q⟩
    have e' : b = s1.heap.objs.size + 1 ∨ b = s1.heap.objs.size := by simpa using hb
    have hle : s1.heap.objs.size ≤ b := by
      rcases e' with z | z
      · rw [z]; exact Nat.le_add_right _ _
      · rw [z]; exact Nat.le_refl _
    exact I1.fpOk hle (I1.hok.fresh hle)
theorem walk_enumT {K : PySem.W.Frag} {a : Addr} {xs : List V} : Walk (IteT K a) xs.length (fun H => SqT K H a xs) (YPair (fun i => some (.int (i : Nat))) (fun i => xs[i]?)) := by
  refine ⟨fun i _ hi q => ⟨xs, xs[i], q, by simp [hi]⟩, fun _ q => ⟨xs, q, Nat.le_refl _⟩, fun i H v H' _ q y => ?_⟩
  obtain ⟨T, x, h1, h2, h3, h4⟩ := y
  exact ⟨T, .int (i : Nat), x, h1, h2, h3, rfl, h4 xs q⟩
end L2
set_option Elab.async false
set_option maxRecDepth 100000
namespace EO
open PySem PySem.W PySem.Spec PyProof.Rows L2
section
variable {prog : Program} {w : World} {A : Around} {E : Value → Shared → Prop} {s : Shared} {K : Frag} {x C L f : Addr} {h₀ : Heap} {m : Str → Option Value} {ox : Obj} {od : Option Obj} {name : Str} {b tb : Value}
theorem cmp_dec_K {Q : Value → Shared → Prop} (hu : A.units < cLine) (X : K.In s.heap) (I : InstAt s.heap x ox C od) (hb : Looks (model prog w) s.heap (typeOf b) tb) (hn : notFirst K C tb = true)
    (hs : findIn K (.ref C) "__eq__" = some (some (.ref f))) (hf : isFn K (.ref f) = true)
    (h : wpAny (model prog w) A (call (.ref f) [.ref x, b]) (fun v s' => v = .notImplemented ∧ wpAny (model prog w) A (tryCompare b "__eq__" (.ref x)) (fun r s2 => r = none ∧ wpAny (model prog w) A (isSame (.ref x) b) (fun k s3 => Q (.bool k) s3) E s2) E s') E s) :
    wpAny (model prog w) A (richCompare .Eq (.ref x) b) Q E s := by
  have one : wpAny (model prog w) A (tryCompare (.ref x) "__eq__" b) (fun r s' => r = none ∧ wpAny (model prog w) A (tryCompare b "__eq__" (.ref x)) (fun r s2 => r = none ∧ wpAny (model prog w) A (isSame (.ref x) b) (fun k s3 => Q (.bool k) s3) E s2) E s') E s := by
    unfold tryCompare
    refine wpAny_bind (ifBound_K X I hs hf (wpAny_mono h (fun v s' hv => ?_) fun _ _ e => e))
    obtain ⟨rfl, hv⟩ := hv
    exact wpAny_pure ⟨rfl, hv⟩
  unfold richCompare
  simp only [oneThing_ref]
  refine wpAny_holding (wpAny_bind (wpAny_cRoomFor hu ?_))
  refine wpAny_bind (I.type.here (wpAny_bind (hb.here ?_)))
  split
  · rename_i q
    have e : subIn K tb (.ref C) = some false := by
      rcases Bool.or_eq_true_iff.mp hn with e | e
      · rw [beq_iff_eq.mp e] at q; simp at q
      · exact beq_iff_eq.mp e
    refine wpAny_bind ((looks_subIn X e).here ?_)
    simp only [Bool.false_eq_true, if_false]
    refine wpAny_bind (wpAny_mono one (fun r s' z => ?_) fun _ _ e => e)
    obtain ⟨rfl, z⟩ := z
    simp only [Bool.not_false, if_true]
    refine wpAny_bind (wpAny_mono z (fun r s' z => ?_) fun _ _ e => e)
    obtain ⟨rfl, z⟩ := z
    refine wpAny_bind (wpAny_rule ?_)
    exact wpAny_bind (wpAny_mono z (fun k s3 q => wpAny_pure q) fun _ _ e => e)
  · refine wpAny_bind (wpAny_pure ?_)
    simp only [Bool.false_eq_true, if_false]
    refine wpAny_bind (wpAny_mono one (fun r s' z => ?_) fun _ _ e => e)
    obtain ⟨rfl, z⟩ := z
    simp only [Bool.not_false, if_true]
    refine wpAny_bind (wpAny_mono z (fun r s' z => ?_) fun _ _ e => e)
    obtain ⟨rfl, z⟩ := z
    refine wpAny_bind (wpAny_rule ?_)
    exact wpAny_bind (wpAny_mono z (fun k s3 q => wpAny_pure q) fun _ _ e => e)
/-- a special method that is a built-in slot -/
theorem ifBound_B {M : Model} {id : String} {args : List Value} {Q : Option Value → Shared → Prop} (X : K.In s.heap) (I : InstAt s.heap x ox C od) (hs : findIn K (.ref C) name = some (some (.builtin id))) (hb : bindSpecial (.builtin id) (.ref x) = pure (.builtin id, [.ref x]))
    (h : wpAny M A (call (.builtin id) (.ref x :: args)) (fun v => Q (some v)) E s) : wpAny M A (callSpecialIfBound? (.ref x) name args) Q E s := by
  simp only [callSpecialIfBound?, bindSpecialIfBound?, hb]
  refine wpAny_holding (wpAny_bind (wpAny_bind (wpAny_bind (I.type.here ((looks_findIn X hs).here ?_)))))
  refine wpAny_bind (wpAny_askSetting (wpAny_ite ?_))
  have fin : wpAny M A (call (.builtin id) ([.ref x] ++ args) >>= fun v => pure (some v)) Q E s := wpAny_bind (wpAny_mono h (fun v s' h' => wpAny_pure h') fun _ _ h' => h')
  simp only [hb, pure_bind]
  split
  · exact wpAny_pure (by exact fin)
  · exact wpAny_tryCatch (wpAny_pure (by exact fin))
/-- the check of a slot of object's, called of an instance -/
theorem check_obj {M : Model} {id n : String} {rest : List Value} {Q : Unit → Shared → Prop} (hk : builtinKind id = some .slot) (hs : splitId id = some ("object", n)) (ha : argsOk id ⟨.ref x :: rest, []⟩)
    (X : K.In s.heap) (I : InstAt s.heap x ox C od) (hm : mroIn K C (.type "object") = some true) (hq : Q () s) : wpAny M A (checkBuiltinCall id ⟨.ref x :: rest, []⟩) Q E s := by
  simp only [checkBuiltinCall, hk, hs]
  refine wpAny_bind ?_
  unfold isInstance
  refine wpAny_bind (I.type.here ((looks_mroIn X hm).here ?_))
  simp only [Bool.not_true, Bool.false_eq_true, if_false]
  cases hsig : Manifest.signature? id with
  | none => exact wpAny_pure hq
  | some sig =>
    simp only [argsOk, hsig] at ha
    have h2 : Bind.checkArgs id sig ⟨.ref x :: rest, []⟩ = pure () := ha
    show wpAny M A (Bind.checkArgs id sig ⟨.ref x :: rest, []⟩) Q E _
    rw [h2]; exact wpAny_pure hq
/-- a != b by object's own, over an own == that answers True or False -/
theorem ne_K {Q : Value → Shared → Prop} (hu : A.units + 1 < cLine) (X : K.In s.heap) (I : InstAt s.heap x ox C od) (hb : Looks (model prog w) s.heap (typeOf b) tb) (hn : notFirst K C tb = true)
    (hs : findIn K (.ref C) "__eq__" = some (some (.ref f))) (hf : isFn K (.ref f) = true) (hne : findIn K (.ref C) "__ne__" = some (some (.builtin "object.__ne__"))) (hm : mroIn K C (.type "object") = some true)
    (h : wpAny (model prog w) A.in1 (call (.ref f) [.ref x, b]) (fun v s' => ∃ c, v = .bool c ∧ Q (.bool (!c)) s') E s) :
    wpAny (model prog w) A (richCompare .NotEq (.ref x) b) Q E s := by
  have body : wpAny (model prog w) A (call (.builtin "object.__ne__") [.ref x, b]) (fun v s' => ∃ c, v = .bool c ∧ Q (.bool c) s') E s := by
    refine wpAny_call ?_
    refine codeAny_call_builtin F.cmp_object.ne.plain F.cmpEntry_ne ?_
    refine check_obj (id := "object.__ne__") (n := "__ne__") (rest := [b]) (x := x) F.cmpKind_ne F.cmpSplit_ne (F.cmpArgs_ne _ _) X I hm ?_
    have h' : wpAny (model prog w) A.in1 (callSpecialIfBound? (.ref x) (Str.ofString "__eq__") [b]) (fun r s' => ∃ c, r = some (.bool c) ∧ Q (.bool (!c)) s') E s :=
      ifBound_K X I hs hf (wpAny_mono h (fun r s' hr => by obtain ⟨c, rfl, hq⟩ := hr; exact ⟨c, rfl, hq⟩) fun _ _ e => e)
    unfold Builtin.«object.__ne__»
    repeat (first
      | with_reducible refine wpAny_cRoomFor (A := A.in1) hu ?_
      | (refine wpAny_bind (m := callSpecialIfBound? (.ref x) (Str.ofString "__eq__") [b]) (wpAny_mono h' (fun r s' hr => ?_) fun _ _ e => e)
         obtain ⟨c, rfl, hq⟩ := hr)
      | wp_step)
    exact ⟨_, rfl, hq⟩
  have one : wpAny (model prog w) A (tryCompare (.ref x) "__ne__" b) (fun r s' => ∃ v, r = some v ∧ Q v s') E s := by
    unfold tryCompare
    refine wpAny_bind (ifBound_B X I hne (F.cmp_object.ne.bind _) (wpAny_mono body (fun v s' hv => ?_) fun _ _ e => e))
    obtain ⟨c, rfl, hq⟩ := hv
    exact wpAny_pure ⟨_, rfl, hq⟩
  unfold richCompare
  simp only [oneThing_ref]
  refine wpAny_holding (wpAny_bind (wpAny_cRoomFor (Nat.lt_of_succ_lt hu) ?_))
  refine wpAny_bind (I.type.here (wpAny_bind (hb.here ?_)))
  split
  · rename_i q
    have e : subIn K tb (.ref C) = some false := by
      rcases Bool.or_eq_true_iff.mp hn with e | e
      · rw [beq_iff_eq.mp e] at q; simp at q
      · exact beq_iff_eq.mp e
    refine wpAny_bind ((looks_subIn X e).here ?_)
    simp only [Bool.false_eq_true, if_false]
    refine wpAny_bind (wpAny_mono one (fun r s' z => ?_) fun _ _ e => e)
    obtain ⟨v, rfl, hq⟩ := z
    exact wpAny_pure hq
  · refine wpAny_bind (wpAny_pure ?_)
    simp only [Bool.false_eq_true, if_false]
    refine wpAny_bind (wpAny_mono one (fun r s' z => ?_) fun _ _ e => e)
    obtain ⟨v, rfl, hq⟩ := z
    exact wpAny_pure hq
end
end EO

namespace L2
open PySem PySem.Spec PyProof.Rows
/-- two instances of the class at C, compared by the text's own ==, that answers True or False -/
structure OwnE (K : PySem.W.Frag) (C f : Addr) : Prop where
  eq : PySem.W.findIn K (.ref C) "__eq__" = some (some (.ref f))
  fn : PySem.W.isFn K (.ref f) = true
  ne : PySem.W.findIn K (.ref C) "__ne__" = some (some (.builtin "object.__ne__"))
  mo : PySem.W.mroIn K C (.type "object") = some true
def rOwn (C : Addr) (sp : Sp) (g : Bool → Bool) (E : XK) : R2 := fun x y H Q => ∃ a b dx dy fs gs, x = .ref a ∧ y = .ref b ∧ H a = some (.ins C dx fs) ∧ H b = some (.ins C dy gs) ∧
  sp [x, y] H (fun v H' => ∃ c, v = .bl c ∧ Q (.bl (g c)) H') E
section
variable {X : Cx} {n : Nat} {CX : CXT} {C f : Addr} {fd : FuncData} {ps : List Str} {sp : Sp} {E : XK}
theorem own_call {A : Around} {pins : List (Addr × Obj)} {s : Shared} {σ : St} {H : Hp} {vs : List V} {us : List Value} {Q : VK} (F : FnOk X.prog X.w X.K X.mg X.base CX n f fd ps sp) (hb : Binds X.K fd ps []) (hx : Passes CX X E) (hr : Room n A) (hfr : A.frames = X.A.frames)
    (I : Inv X pins σ H s) (r : Vals vs us) (h : sp vs H Q E) : wpAny (model X.prog X.w) A (call (.ref f) us) (fun u s' => ∃ v H', Inv X pins σ H' s' ∧ RelV v u ∧ Q v H') X.xe s := by
  have e0 : Env0 X.prog X.w X.K X.mg X.base A X.stack s H := by
    have e := I.env0
    exact ⟨by rw [hfr]; exact e.frames, e.mod, e.bs, e.bsz, e.funs, e.frf, e.hok, e.bare⟩
  have hl := F.len _ _ _ _ h
  refine wpAny_call (codeAny_mono (F.run A X.stack s H ⟨us, []⟩ us vs _ E hr e0 (by
    have := hb s us I.kIn (by have := r.length; rw [List.append_nil, ← this, hl])
    simpa using this) r h) fun r s' hq => ?_)
  cases r with
  | error e => exact hx pins σ H s e s' I hq
  | ok fl =>
    cases fl with
    | ret w =>
      obtain ⟨z, H', I', rz, q⟩ := I.after hq
      exact ⟨z, H', I', rz, q⟩
    | next => exact False.elim hq
    | brk => exact False.elim hq
    | cont => exact False.elim hq
theorem op_eqOwn (O : OwnE X.K C f) (F : FnOk X.prog X.w X.K X.mg X.base CX n f fd ps sp) (hr : Room n X.A) (hb : Binds X.K fd ps []) (hx : Passes CX X E) : OpR X (compareOp .Eq) (rOwn C sp (fun c => c) E) := by
  intro pins s σ H x y u v Q I rx ry h
  obtain ⟨a, b, dx, dy, fs, gs, rfl, rfl, ha, hb', hs⟩ := h
  cases rx
  cases ry
  obtain ⟨mA, J, _⟩ := ins_get I.hok ha
  obtain ⟨mB, J', _⟩ := ins_get I.hok hb'
  obtain ⟨od, J, _⟩ := J.look
  obtain ⟨od', J', _⟩ := J'.look
  obtain ⟨m, hF⟩ := I.fr
  show wpAny (model X.prog X.w) X.A (richCompare .Eq (.ref a) (.ref b)) (EP X pins σ Q) X.xe s
  refine PySem.W.cmp_K (op := .Eq) (tb := .ref C) hr.units0 hF I.ok.mod.kin J J'.type (by simp [PySem.W.notFirst]) O.eq O.fn ?_
  refine wpAny_mono (own_call (vs := [V.ref a, V.ref b]) F hb hx hr rfl I (.cons rfl (.cons rfl .nil)) hs) (fun u s' q => ?_) fun _ _ e => e
  obtain ⟨z, H', I', rz, c, rfl, q⟩ := q
  cases rz
  exact ⟨.bl c, H', I', rfl, q⟩
theorem op_neOwn (O : OwnE X.K C f) (F : FnOk X.prog X.w X.K X.mg X.base CX n f fd ps sp) (hr : Room (n + 1) X.A) (hb : Binds X.K fd ps []) (hx : Passes CX X E) : OpR X (compareOp .NotEq) (rOwn C sp (fun c => !c) E) := by
  intro pins s σ H x y u v Q I rx ry h
  obtain ⟨a, b, dx, dy, fs, gs, rfl, rfl, ha, hb', hs⟩ := h
  cases rx
  cases ry
  obtain ⟨mA, J, _⟩ := ins_get I.hok ha
  obtain ⟨mB, J', _⟩ := ins_get I.hok hb'
  obtain ⟨od, J, _⟩ := J.look
  obtain ⟨od', J', _⟩ := J'.look
  show wpAny (model X.prog X.w) X.A (richCompare .NotEq (.ref a) (.ref b)) (EP X pins σ Q) X.xe s
  refine EO.ne_K (tb := .ref C) (by have := hr.units; omega) I.kIn J J'.type (by simp [PySem.W.notFirst]) O.eq O.fn O.ne O.mo ?_
  refine wpAny_mono (own_call (vs := [V.ref a, V.ref b]) F hb hx hr.in1 rfl I (.cons rfl (.cons rfl .nil)) hs) (fun u s' q => ?_) fun _ _ e => e
  obtain ⟨z, H', I', rz, c, rfl, q⟩ := q
  cases rz
  exact ⟨c, rfl, ⟨.bl (!c), H', I', rfl, q⟩⟩
/-! a def that begins with «if TEST: return NotImplemented», called where TEST holds -/
structure FnNI (P : Program) (w : World) (K : PySem.W.Frag) (mg : Str → Option Value) (base : Heap) (k : Nat) (f : Addr) (fd : FuncData) (ps : List Str) (pre : List V → Hp → Prop) : Prop where
  len : ∀ vs H, pre vs H → vs.length = ps.length
  run : ∀ (A : Around) (outer : List Env) (s : Shared) (H : Hp) (args : Args) (us : List Value) (vs : List V), Room k A → Env0 P w K mg base A outer s H → BindsTo s fd args (ps.zip us) → Vals vs us → pre vs H →
    codeAny (model P w) A (.call (.ref f) args) (fun r s' => r = .ok (.ret .notImplemented) ∧ CE outer P w H s (fun v H' => v = .non ∧ Same H H') .none s') s
theorem fn_NI {P : Program} {w : World} {K : PySem.W.Frag} {mg : Str → Option Value} {base : Heap} {k : Nat} {f : Addr} {name qual : Str} {params : Arguments} {body rest : List Stmt} {tst : Expr} {p1 p2 p3 : Pos} {scope : Scope} {dV kV doc pm cdv ct oc : Value} {an od : Option Addr}
    {osl : Array (Option Value)} {N ps : List Str} {pre : List V → Hp → Prop} (lk : K.lookup f = some ⟨oc, od, .func (PySem.W.fnOf name qual params body scope dV kV doc pm an cdv ct), osl⟩) (hcd : PySem.W.codeIn K cdv qual = true) (S : FnScope N ps scope)
    (len : ∀ vs H, pre vs H → vs.length = ps.length) (hbd : body = .If tst [.Return (some (.Name "NotImplemented" p1)) p2] [] p3 :: rest)
    (hg : scope.names.lookup ("NotImplemented" : Str) = some .globalImplicit) (hm : mg "NotImplemented" = none) (hv : bootBuiltins "NotImplemented" = some .notImplemented)
    (htest : ∀ (A : Around) (outer : List Env) (s : Shared) (H : Hp) (vs : List V), Room k (A.deeper (envOfC qual scope s.heap.objs.size f cdv)) → pre vs H →
      ∃ t, PT (cxOf CX0 P w K mg base N qual scope f cdv A outer s H E0).nox tst t ∧ t (start N vs) H (fun b H1 => b = true ∧ Same H H1)) :
    FnNI P w K mg base (k + 1) f (PySem.W.fnOf name qual params body scope dV kV doc pm an cdv ct) ps pre := by
  refine ⟨len, fun A outer s H args us vs hr e0 hb r hsp => ?_⟩
  have hl := len _ _ hsp
  have KX : K.In s.heap := e0.mod.kin.keeps fun b o e => (e0.bs b o e).1
  have lim : s.heap.NoLimit := e0.mod.nolimit.keeps fun b o e => (e0.bs b o e).1
  have hkind : ∀ y ∈ ps.zip us, scope.names.lookup y.1 = some .local ∨ (scope.names.lookup y.1 = some .cell ∧ ((cellsFrom (s.heap.objs.size + 1) scope.names []).lookup y.1).isSome = true) := fun ⟨n, v⟩ hy => by
    rcases S.par n (List.of_mem_zip hy).1 with q | q
    · exact .inl q
    · exact .inr ⟨q, PySem.W.cellsFrom_some _ _ _ (.inl q)⟩
  refine codeAny_call_function hr.depth (KX _ _ lk) rfl S.co S.gen rfl (PySem.W.codeRec_of KX hcd) (hb _ _ _ _ ?_)
  refine wpAny_newFunctionEnv_cells S.kind hkind fun env he s1 x => ?_
  subst he
  refine ⟨lim.keeps x.toInCall.keep, codeAny_func ?_⟩
  obtain ⟨t, ht, hq⟩ := htest A outer s H vs (hr.deeper _) hsp
  have I : Inv (cxOf CX0 P w K mg base N qual scope f cdv A outer s H E0) [] (start N vs) H s1 := inv_start S hr.hd e0 hl r x
  subst hbd
  have run : wpAny (model P w) (cxOf CX0 P w K mg base N qual scope f cdv A outer s H E0).A (execs (.If tst [.Return (some (.Name "NotImplemented" p1)) p2] [] p3 :: rest) (cxOf CX0 P w K mg base N qual scope f cdv A outer s H E0).env)
      (fun fl s' => fl = .ret .notImplemented ∧ CE outer P w H s (fun v H' => v = .non ∧ Same H H') .none s') (fun _ _ => False) s1 := by
    refine wpAny_execs_cons (wpAny_mono (wpAny_If (wpAny_mono (ht.run [] s1 (start N vs) H (fun b H1 => b = true ∧ Same H H1) (I.wish _) hq) (fun d s2 q2 => ?_) fun _ _ z => z))
      (fun fl s' (z : fl = .ret .notImplemented ∧ CE outer P w H s (fun v H' => v = .non ∧ Same H H') .none s') => ?_) fun _ _ z => z)
    · obtain ⟨H2, I2, rfl, sm⟩ := q2
      refine wpAny_execs_cons (wpAny_mono (wpAny_Return_some (Q := fun fl s' => fl = .ret .notImplemented ∧ CE outer P w H s (fun v H' => v = .non ∧ Same H H') .none s') (ld_blt I2.unwish hg hm hv ?_)) (fun fl s' z => ?_) fun _ _ z => z)
      · exact ⟨rfl, ⟨.non, H2, I2.os, I2.bare, I2.base, I2.hok, rfl, rfl, sm⟩⟩
      · obtain ⟨rfl, z⟩ := z
        exact ⟨rfl, z⟩
    · obtain ⟨rfl, z⟩ := z
      exact ⟨rfl, z⟩
  exact wpAny_mono run (fun fl s' z => by obtain ⟨rfl, z⟩ := z; exact ⟨rfl, z⟩) fun _ _ z => z.elim
end
end L2
namespace EO
open PySem PySem.W PySem.Spec PyProof.Rows L2
open SeqAt
open AutoSeq1 (wpAny_loadPart')
section
variable {prog : Program} {w : World} {A : Around} {E : Value → Shared → Prop} {s : Shared} {K : Frag} {x C : Addr} {ox : Obj} {od : Option Obj}
theorem int_declines_ins (b : Int) (u : Tok) (l dx : Addr) : Meets (Builtin.«int.__eq__» ⟨[.int b u, .ref l], []⟩) (fun _ R s => s.heap.get? l = some (instObj C dx) ∧ R (.ok (.ret .notImplemented)) s) :=
  .of_wp fun prog w A R s h => by
    obtain ⟨hp, g, d, tk, os⟩ := s; obtain ⟨hl, h⟩ := h
    wp_walk using wpAny_loadPart' hl, wpAny_load hl
    exact ⟨_, rfl, h⟩
theorem list_declines_ins {l : Addr} {items : Array Value} {R : Result → Shared → Prop} (hl : s.heap.IsList l items) (X : K.In s.heap) (I : InstAt s.heap x ox C od) (hm : mroIn K C (.type "list") = some false) (h : R (.ok (.ret .notImplemented)) s) :
    wpAny (model prog w) A.in1 (Builtin.«list.__eq__» ⟨[.ref l, .ref x], []⟩) (fun fin s' => match fin with | .done f => R (.ok f) s' | .again c' => c'.quiet = true ∧ codeAny (model prog w) A c' R s') (fun e s' => R (.error e) s') s := by
  have hx := I.at_
  have hcl := I.cls
  obtain ⟨⟨cls, dd, data, sl⟩, ho, hc, n, hd⟩ := id hl
  simp only at hc hd
  subst hc hd
  obtain ⟨cls2, dd2, data2, sl2⟩ := ox
  simp only at hcl
  subst hcl
  obtain ⟨hp, g, d, tk, os⟩ := s
  wp_walk using wpAny_loadPart' ho, wpAny_loadPart' hx
  refine (looks_mroIn X hm).here ?_
  simp only [Bool.not_false, if_true]
  wp_walk
  exact h
theorem nf {K : Frag} {C : Addr} {T : String} {l : List Value} (h : fastBuiltinMro T = some l) (hc : l.contains (.ref C) = false) : notFirst K C (.type T) = true := by
  unfold notFirst subIn
  simp only [h, Option.map_some, hc]
  simp
theorem mro_None : fastBuiltinMro "NoneType" = some [.type "NoneType", .type "object"] := by decide +kernel
theorem mro_int : fastBuiltinMro "int" = some [.type "int", .type "object"] := by decide +kernel
theorem mro_list : fastBuiltinMro "list" = some [.type "list", .type "object"] := by decide +kernel
end
end EO
namespace L2
open PySem PySem.Spec PyProof.Rows
/-- an instance compared with None, an int, a list: its own == says NotImplemented, the other's too; so False -/
def rNI (C : Addr) (pre : List V → Hp → Prop) : R2 := fun x y H Q => ∃ a dx fs, x = .ref a ∧ H a = some (.ins C dx fs) ∧ pre [x, y] H ∧ (y = .non ∨ (∃ i, y = .int i) ∨ ∃ l xs, y = .ref l ∧ H l = some (.lst xs)) ∧ ∀ H', Same H H' → Q (.bl false) H'
theorem op_eqNI {X : Cx} {n : Nat} {C f : Addr} {fd : FuncData} {ps : List Str} {pre : List V → Hp → Prop} (O : OwnE X.K C f) (ml : PySem.W.mroIn X.K C (.type "list") = some false)
    (G : FnNI X.prog X.w X.K X.mg X.base n f fd ps pre) (hr : Room n X.A) (hb : Binds X.K fd ps []) : OpR X (compareOp .Eq) (rNI C pre) := by
  intro pins s σ H x y u v Q I rx ry h
  obtain ⟨a, dx, fs, rfl, ha, hp, hy, hQ⟩ := h
  cases rx
  obtain ⟨mA, J, _⟩ := ins_get I.hok ha
  obtain ⟨od, J, _⟩ := J.look
  show wpAny (model X.prog X.w) X.A (richCompare .Eq (.ref a) v) (EP X pins σ Q) X.xe s
  have hl := G.len _ _ hp
  have call : ∀ (T : String), PySem.W.Looks (model X.prog X.w) s.heap (typeOf v) (.type T) → PySem.W.notFirst X.K C (.type T) = true →
      (∀ s' H', Inv X pins σ H' s' → Same H H' → wpAny (model X.prog X.w) X.A (tryCompare v "__eq__" (.ref a)) (fun r s2 => r = none ∧ wpAny (model X.prog X.w) X.A (isSame (.ref a) v) (fun k s3 => k = false ∧ Inv X pins σ H' s3) X.xe s2) X.xe s') →
      wpAny (model X.prog X.w) X.A (richCompare .Eq (.ref a) v) (EP X pins σ Q) X.xe s := fun T lk nf tr => by
    refine EO.cmp_dec_K (tb := .type T) hr.units0 I.kIn J lk nf O.eq O.fn ?_
    refine wpAny_call (codeAny_mono (G.run X.A X.stack s H ⟨[.ref a, v], []⟩ [.ref a, v] [.ref a, y] hr I.env0 (by
      have := hb s [.ref a, v] I.kIn (by rw [List.append_nil, ← hl]; rfl)
      simpa using this) (.cons rfl (.cons ry .nil)) hp) fun r s' hq => ?_)
    obtain ⟨rfl, hq⟩ := hq
    obtain ⟨z, H', I', rz, ez, sm⟩ := I.after hq
    refine ⟨rfl, wpAny_mono (tr s' H' I' sm) (fun r s2 q => ⟨q.1, wpAny_mono q.2 (fun k s3 q => ?_) fun _ _ e => e⟩) fun _ _ e => e⟩
    obtain ⟨rfl, I3⟩ := q
    exact ⟨.bl false, H', I3, rfl, hQ H' sm⟩
  have at' : ∀ s' H', Inv X pins σ H' s' → Same H H' → ∃ od, PySem.W.InstAt s'.heap a (PySem.W.instObj C dx) C (some od) := fun s' H' I' sm => by
    obtain ⟨mA, J, _⟩ := ins_get I'.hok (sm _ _ ha)
    obtain ⟨od, J, _⟩ := J.look
    exact ⟨od, J⟩
  rcases hy with rfl | ⟨i, rfl⟩ | ⟨l, xs, rfl, hl'⟩
  · cases ry
    refine call "NoneType" (PySem.W.Looks.of_pure rfl) (EO.nf EO.mro_None (by simp)) fun s' H' I' sm => ?_
    exact wpAny_tryCompare_declines rfl F.slot_NoneType_eq (call_gives F.slot_NoneType_eq rfl F.entry_NoneType_eq (F.args_NoneType_eq_2 _ _) (SeqAt.NoneType___eq___none_ref_0 a)
      ⟨rfl, rfl, wpAny_of_eq (rfl : isSame (.ref a) .none = pure false) ⟨rfl, I'⟩⟩)
  · obtain ⟨t, rfl⟩ := ry
    refine call "int" (PySem.W.Looks.of_pure rfl) (EO.nf EO.mro_int (by simp)) fun s' H' I' sm => ?_
    obtain ⟨od', J'⟩ := at' s' H' I' sm
    exact wpAny_tryCompare_declines (typeIs_int s' i t) F.slot_int_eq (call_meets F.slot_int_eq (typeIs_int s' i t) F.entry_int_eq (F.args_int_eq_2 _ _) (EO.int_declines_ins (C := C) i t a dx)
      ⟨J'.at_, rfl, rfl, wpAny_of_eq (rfl : isSame (.ref a) (.int i t) = pure false) ⟨rfl, I'⟩⟩)
  · cases ry
    obtain ⟨_, its, k, r, e⟩ := I.hok l _ hl'
    refine call "list" ((PySem.W.Looks.ld (part := none) e).andThen .now) (EO.nf EO.mro_list (by simp)) fun s' H' I' sm => ?_
    obtain ⟨od', J'⟩ := at' s' H' I' sm
    obtain ⟨_, its', k', r', e'⟩ := I'.hok l _ (sm _ _ hl')
    have nal : a ≠ l := ne_of ha hl' (by intro z; cases z)
    refine wpAny_tryCompare_declines ⟨_, e', rfl⟩ F.slot_list_eq (GQ.call_here F.slot_list_eq ⟨_, e', rfl⟩ F.entry_list_eq (F.args_list_eq_2 _ _) ?_)
    exact EO.list_declines_ins (R := wants _ _) ⟨_, e', rfl, _, rfl⟩ I'.kIn J' ml ⟨rfl, rfl, SeqAt.wpAny_isSame_ref_other' nal J'.at_ e' (by show Value.type "list" ≠ Value.type "tuple"; decide) ⟨rfl, I'⟩⟩
end L2
set_option Elab.async false
set_option linter.all false
set_option maxRecDepth 100000
namespace K1
open PySem L2
/-- a def of the text, by its name -/
structure Df (K : PySem.W.Frag) (mg : Str → Option Value) (x : Str) (st : Stmt) (ps : List Str) (f : Addr) (fd : FuncData) : Prop where
  F : Fun K x x st f fd
  g : mg x = some (.ref f)
  b : Binds K fd ps []
theorem Kept.seq {K : PySem.W.Frag} {d : Addr} {H H' : Hp} {a : Addr} {xs : List V} (e : Kept d H H') (n : a ≠ d) (h : SqL K H a xs) : SqL K H' a xs := by
  rcases h with (h | ⟨o, h⟩) | h
  · exact .inl (.inl (e _ _ h n))
  · exact .inl (.inr ⟨o, e _ _ h n⟩)
  · exact .inr h
theorem Kept.seqT {K : PySem.W.Frag} {d : Addr} {H H' : Hp} {a : Addr} {xs : List V} (e : Kept d H H') (n : a ≠ d) (h : SqT K H a xs) : SqT K H' a xs := by
  rcases h with (h | ⟨o, h⟩) | h
  · exact .inl (.inl (e _ _ h n))
  · exact .inl (.inr ⟨o, e _ _ h n⟩)
  · exact .inr h
def spPickL (K : PySem.W.Frag) : Sp := fun vs H Q _ => ∃ (d c p : Addr) (n : Nat) (xs : List V), vs = [.ref d, .ref p] ∧ PenAt H d c n ∧ n ≤ 1000000 ∧ p ≠ d ∧ SqL K H p xs ∧ 0 < xs.length ∧ xs.length < 1073741824 ∧
  ∀ (x : V) (H' : Hp), x ∈ xs → PenAt H' d c (n + 1) → Kept d H H' → Q x H'
def spPickS : Sp := fun vs H Q _ => ∃ (d q : Addr) (n : Nat) (z : Str), vs = [.ref d, .str z] ∧ PenAt H d q n ∧ n ≤ 1000000 ∧ 0 < z.length ∧ z.length < 10000 ∧
  ∀ (c : Nat) (H' : Hp), c ∈ z.cps.toList → PenAt H' d q (n + 1) → Kept d H H' → Q (.str ⟨#[c]⟩) H'
section
variable {P : Program} {w : World} {K : PySem.W.Frag} {mg : Str → Option Value} {base : Heap}
theorem scPick : FnScope ["_law_pen_here", "_law_some"] ["_law_pen_here", "_law_some"] (defScope sPick) := ⟨rfl, rfl, rfl, by decide +kernel, rfl, by decide +kernel, by decide +kernel⟩
abbrev pDraw : List Str := ["_law_pen_here", "_law_many"]
abbrev pPick : List Str := ["_law_pen_here", "_law_some"]
theorem ok_pickL {f fD : Addr} {fd fdD : FuncData} (D : Df K mg "_law_pick" sPick pPick f fd) (DD : Df K mg "_law_draw" sDraw pDraw fD fdD) (T : Bt mg) : FnOk P w K mg base CX0 2 f fd pPick (spPickL K) := by
  have GD : FnOk P w K mg base CX0 1 fD fdD pDraw spDraw := ok_draw DD.F T
  refine D.F.ok scPick (fun vs H Q E h => ?_) (fun cdv A outer s H vs Q E hr h => ?_)
  · obtain ⟨d, c, p, n, xs, rfl, _⟩ := h
    rfl
  · obtain ⟨d, c, p, n, xs, rfl, hp, hn, npd, hx, h0, h1, k⟩ := h
    refine ⟨_, pss_one (ps_ret (pe_ix ix_list (pv 1) (pe_call GD hr rfl DD.g DD.F.kp DD.b .nil pass0 (pa_cons (pv 0) (pa_cons (pe_callB call_len (by rfl) T.len PySem.boot_len (pa_cons (pv 1) pa_nil)) pa_nil))) (fun _ _ => rfl))), ?_⟩
    refine ⟨_, rfl, _, rfl, _, rfl, _, xs.length, rfl, .inl ⟨_, hx, rfl⟩, d, c, n, xs.length, rfl, hp, hn, by omega, by omega, fun r H' r0 r1 hp' kp => ?_⟩
    obtain ⟨j, rfl⟩ : ∃ j : Nat, r = (j : Int) := ⟨r.toNat, by omega⟩
    have hj : j < xs.length := by omega
    exact ⟨p, xs, _, xs[j], rfl, rfl, kp.seq npd hx, atI_nat (by simp [hj]), k _ _ (List.getElem_mem _) hp' kp⟩
theorem ok_pickS {f fD : Addr} {fd fdD : FuncData} (D : Df K mg "_law_pick" sPick pPick f fd) (DD : Df K mg "_law_draw" sDraw pDraw fD fdD) (T : Bt mg) : FnOk P w K mg base CX0 2 f fd pPick spPickS := by
  have GD : FnOk P w K mg base CX0 1 fD fdD pDraw spDraw := ok_draw DD.F T
  refine D.F.ok scPick (fun vs H Q E h => ?_) (fun cdv A outer s H vs Q E hr h => ?_)
  · obtain ⟨d, q, n, z, rfl, _⟩ := h
    rfl
  · obtain ⟨d, q, n, z, rfl, hp, hn, h0, h1, k⟩ := h
    have hz : z.length ≤ sizeLine := Nat.le_trans (Nat.le_of_lt h1) (by decide)
    refine ⟨_, pss_one (ps_ret (pe_ix ix_str (pv 1) (pe_call GD hr rfl DD.g DD.F.kp DD.b .nil pass0 (pa_cons (pv 0) (pa_cons (pe_callB call_len (by rfl) T.len PySem.boot_len (pa_cons (pv 1) pa_nil)) pa_nil))) (fun _ _ => rfl))), ?_⟩
    refine ⟨_, rfl, _, rfl, _, rfl, _, z.length, rfl, ⟨hz, rfl⟩, d, q, n, z.length, rfl, hp, hn, by omega, by omega, fun r H' r0 r1 hp' kp => ?_⟩
    obtain ⟨j, rfl⟩ : ∃ j : Nat, r = (j : Int) := ⟨r.toNat, by omega⟩
    have hj : j < z.cps.toList.length := by
      have : z.length = z.cps.toList.length := by simp [Str.length]
      omega
    exact ⟨z, _, z.cps.toList[j], rfl, rfl, hz, atI_nat (by simp [hj]), k _ _ (List.getElem_mem _) hp' kp⟩
end
end K1
set_option Elab.async false
set_option linter.all false
set_option maxRecDepth 100000
/-! the package's own errors: made from their fields, kept in their dict -/
namespace K1
open PySem L2
structure Oer (K : PySem.W.Frag) (mg : Str → Option Value) (x : Str) (fs : List Str) (C fI : Addr) (fd : FuncData) (qual : Str) (st : Stmt) : Prop where
  T : OexC K C
  xf : XfC K C
  g : mg x = some (.ref C)
  ini : PySem.W.findIn K (.ref C) "__init__" = some (some (.ref fI))
  tI : PySem.W.typeIn K (.ref fI) = some (.type "function")
  no : ∀ f ∈ fs, PySem.W.findIn K (.ref C) f = some none
  F : Fun K "__init__" qual st fI fd
  b : Binds K fd ("self" :: fs) []
def spIni (C : Addr) (fs : List Str) : Sp := fun vs H Q _ => ∃ (a : Addr) (ys : List V), vs = .ref a :: ys ∧ ys.length = fs.length ∧ H a = some (exo a C none) ∧
  ∀ dx, H dx = none → dx ≠ a → ∀ H', (∀ b o, H b = some o → b ≠ a → H' b = some o) → H' a = some (exo a C (some dx)) → H' dx = some (exd dx (fs.zip ys).reverse) → Q .non H'
/-- the reading of C(e, ..): d is the error's dict, new -/
theorem err_read {C : Addr} {fs : List Str} {vs : List V} {H1 : Hp} {Q : XK} (hl : fs.length ≤ 10) (e : vs.length = fs.length) (k : ∀ d G, Same H1 G → H1 d = none → G d = some (.xd (fs.zip vs).reverse) → Q (.ref C) (some d) G) :
    vs.length ≤ 1000 ∧ ∀ a, H1 a = none → spIni C fs (.ref a :: (vs ++ [])) (upd H1 a (exo a C none))
      (fun v H2 => v = .non ∧ ∃ (d : Addr) (gs : List (Str × V)), H2 a = some (exo a C (some d)) ∧ H2 d = some (exd d gs) ∧ H1 d = none ∧ Q (.ref C) (some d) (upd (del H2 a) d (.xd gs))) (fun _ _ _ => False) := by
  refine ⟨by omega, fun a ha => ?_⟩
  rw [List.append_nil]
  refine ⟨a, vs, rfl, e, upd_same, fun dx hdx ne H' keep ea ed => ⟨rfl, dx, _, ea, ed, ?_, ?_⟩⟩
  · rw [upd_ne ne] at hdx; exact hdx
  · have h1 : H1 dx = none := by rw [upd_ne ne] at hdx; exact hdx
    refine k dx _ (fun b o eb => ?_) h1 upd_same
    have nb : b ≠ a := ne_of_none eb ha
    rw [upd_ne (ne_of_none eb h1), del_ne nb]
    exact keep b o (by rw [upd_ne nb]; exact eb) nb
end K1
set_option Elab.async false
set_option linter.all false
set_option maxRecDepth 100000
/-! acts: integers and indices of any value -/
namespace K1
open PySem L2
abbrev sIsInt : Stmt := top 8
abbrev sIsIndex : Stmt := top 9
structure Bt3 (mg : Str → Option Value) : Prop extends Bt mg where
  isinstance : mg "isinstance" = none
  bool : mg "bool" = none
  str : mg "str" = none
  all : mg "all" = none
  enumerate : mg "enumerate" = none
  min : mg "min" = none
theorem scIsInt : FnScope ["value"] ["value"] (defScope sIsInt) := ⟨rfl, rfl, rfl, by decide +kernel, rfl, by decide +kernel, by decide +kernel⟩
theorem scIsIndex : FnScope ["value", "many"] ["value", "many"] (defScope sIsIndex) := ⟨rfl, rfl, rfl, by decide +kernel, rfl, by decide +kernel, by decide +kernel⟩
inductive Th (K : PySem.W.Frag) (H : Hp) : V → String → Prop
  | non : Th K H .non "NoneType"
  | bl (b : Bool) : Th K H (.bl b) "bool"
  | int (i : Int) : Th K H (.int i) "int"
  | str (z : Str) (hl : z.length ≤ 1000) : Th K H (.str z) "str"
  | tup {a : Addr} {xs : List V} (e : H a = some (.tup xs)) : Th K H (.ref a) "tuple"
  | lst {a : Addr} {xs : List V} (e : H a = some (.lst xs)) : Th K H (.ref a) "list"
  | dic {a : Addr} {kv : List (Key × V)} (e : H a = some (.dK kv)) : Th K H (.ref a) "dict"
theorem Th.ty {K : PySem.W.Frag} {H : Hp} {v : V} {t : String} (h : Th K H v t) : TyX K H v (.type t) := by
  cases h with
  | non => exact .base .non
  | bl b => exact .base (.bl b)
  | int i => exact .base (.int i)
  | str z => exact .base (.str z)
  | tup e => exact .base (.tup e)
  | lst e => exact .base (.lst e)
  | dic e => exact .base (.dK e)
theorem Th.same {K : PySem.W.Frag} {H H' : Hp} {v : V} {t : String} (h : Th K H v t) (s : Same H H') : Th K H' v t := by
  cases h with
  | non => exact .non
  | bl b => exact .bl b
  | int i => exact .int i
  | str z hl => exact .str z hl
  | tup e => exact .tup (s _ _ e)
  | lst e => exact .lst (s _ _ e)
  | dic e => exact .dic (s _ _ e)
def isStr : V → Bool | .str _ => true | _ => false
def isInt : V → Bool | .int _ => true | .bl _ => true | _ => false
def isBl : V → Bool | .bl _ => true | _ => false
def intB : V → Bool | .int _ => true | _ => false
def ixB (v : V) (m : Int) : Bool := match v with | .int i => decide (0 ≤ i) && decide (i < m) | _ => false
section
variable {K : PySem.W.Frag} {H : Hp} {v : V} {t : String}
theorem Th.kStr (h : Th K H v t) : PySem.W.kitOne K (.type t) (.type "str") = some (isStr v) := by cases h <;> first | exact kit_ty (r := true) (by decide +kernel) | exact kit_ty (r := false) (by decide +kernel)
theorem Th.kInt (h : Th K H v t) : PySem.W.kitOne K (.type t) (.type "int") = some (isInt v) := by cases h <;> first | exact kit_ty (r := true) (by decide +kernel) | exact kit_ty (r := false) (by decide +kernel)
theorem Th.kBl (h : Th K H v t) : PySem.W.kitOne K (.type t) (.type "bool") = some (isBl v) := by cases h <;> first | exact kit_ty (r := true) (by decide +kernel) | exact kit_ty (r := false) (by decide +kernel)
end
def spInt (K : PySem.W.Frag) : Sp := fun vs H Q _ => ∃ v t, vs = [v] ∧ Th K H v t ∧ Q (.bl (intB v)) H
def spIx (K : PySem.W.Frag) : Sp := fun vs H Q _ => ∃ v t m, vs = [v, .int m] ∧ Th K H v t ∧ Q (.bl (ixB v m)) H
section
variable {P : Program} {w : World} {K : PySem.W.Frag} {mg : Str → Option Value} {base : Heap}
theorem g_isint {f : Addr} {fd : FuncData} (D : Df K mg "is_integer" sIsInt ["value"] f fd) (T : Bt3 mg) : FnOk P w K mg base CX0 1 f fd ["value"] (spInt K) := by
  refine D.F.ok scIsInt (fun vs H Q E h => ?_) (fun cdv A outer s H vs Q E hr h => ?_)
  · obtain ⟨v, t, rfl, _⟩ := h
    rfl
  · obtain ⟨v, t, rfl, th, k⟩ := h
    refine ⟨_, pss_one (ps_ret (pe_and (pe_callB call_isi (by rfl) T.isinstance PyProof.Rows.boot_isinstance (pa_cons (pv 0) (pa_cons (pe_bltn (v := .ty "int") (by rfl) T.int PyProof.Rows.boot_int rfl) pa_nil)))
      (pe_one (pe_not (pe_callB call_isi (by rfl) T.isinstance PyProof.Rows.boot_isinstance (pa_cons (pv 0) (pa_cons (pe_bltn (v := .ty "bool") (by rfl) T.bool PyProof.Rows.boot_bool rfl) pa_nil))))))), ?_⟩
    refine ⟨_, rfl, _, _, _, _, isInt v, rfl, .ty "int", th.ty, th.kInt, isInt v, rfl, ?_⟩
    cases v with
    | int i => exact ⟨_, rfl, _, _, _, _, false, rfl, .ty "bool", th.ty, th.kBl, false, rfl, k⟩
    | bl b => exact ⟨_, rfl, _, _, _, _, true, rfl, .ty "bool", th.ty, th.kBl, true, rfl, k⟩
    | _ => exact k
theorem g_isindex {f fI : Addr} {fd fdI : FuncData} (D : Df K mg "is_index" sIsIndex ["value", "many"] f fd) (DI : Df K mg "is_integer" sIsInt ["value"] fI fdI) (T : Bt3 mg) : FnOk P w K mg base CX0 2 f fd ["value", "many"] (spIx K) := by
  have GI : FnOk P w K mg base CX0 1 fI fdI ["value"] (spInt K) := g_isint DI T
  refine D.F.ok scIsIndex (fun vs H Q E h => ?_) (fun cdv A outer s H vs Q E hr h => ?_)
  · obtain ⟨v, t, m, rfl, _⟩ := h
    rfl
  · obtain ⟨v, t, m, rfl, th, k⟩ := h
    refine ⟨_, pss_one (ps_ret (pe_and (pe_call GI hr rfl DI.g DI.F.kp DI.b .nil pass0 (pa_cons (pv 0) pa_nil)) (pe_one (pe_chain op_le op_lt pe_int (pv 0) (pv 1))))), ?_⟩
    refine ⟨_, rfl, v, t, rfl, th, intB v, rfl, ?_⟩
    cases v with
    | int i =>
      refine ⟨_, rfl, _, _, rfl, rfl, _, rfl, ?_⟩
      refine ite2 (fun h => ?_) (fun h => ?_)
      · refine ⟨_, rfl, _, _, rfl, rfl, ?_⟩
        have e : ixB (.int i) m = decide (i < m) := by
          show (decide (0 ≤ i) && decide (i < m)) = _
          rw [h]; rfl
        rw [e] at k
        exact k
      · have e : ixB (.int i) m = false := by
          show (decide (0 ≤ i) && decide (i < m)) = _
          rw [Bool.eq_false_iff.mpr h]; rfl
        rw [e] at k
        exact k
    | _ => exact k
end
end K1
set_option Elab.async false
set_option linter.all false
set_option maxRecDepth 100000
/-! the errors of acts -/
namespace K1
open PySem L2
def Rs (C : Addr) (fs : List Str) (vs : List V) (H : Hp) (E : XK) : Prop := ∀ d G, Same H G → H d = none → G d = some (.xd (fs.zip vs).reverse) → E (.ref C) (some d) G
theorem Rs.same {C : Addr} {fs : List Str} {vs : List V} {H H' : Hp} {E : XK} (r : Rs C fs vs H E) (s : Same H H') : Rs C fs vs H' E := fun d G sG hd e => r d G (s.trans sG) (s.free hd) e
section
variable {P : Program} {w : World} {K : PySem.W.Frag} {mg : Str → Option Value} {base : Heap}
abbrev sBadAct : Stmt := inClass (top 5) 0
theorem scBadAct : FnScope ["self", "states"] ["self", "states"] (defScope sBadAct) := ⟨rfl, rfl, rfl, by decide +kernel, rfl, by decide +kernel, by decide +kernel⟩
abbrev OBadAct (K : PySem.W.Frag) (mg : Str → Option Value) (C fI : Addr) (fd : FuncData) : Prop := Oer K mg "BadAct" ["states"] C fI fd "BadAct.__init__" sBadAct
theorem ini_BadAct {C fI : Addr} {fd : FuncData} (O : OBadAct K mg C fI fd) : FnOk P w K mg base CX0 1 fI fd ["self", "states"] (spIni C ["states"]) := by
  refine O.F.ok scBadAct (fun vs H Q E h => ?_) (fun cdv A outer s H vs Q E hr h => ?_)
  · obtain ⟨a, ys, rfl, e, _⟩ := h
    show ys.length + 1 = _
    rw [e]; rfl
  · obtain ⟨a, ys, rfl, e, ha, k⟩ := h
    obtain ⟨y0, rfl⟩ : ∃ y0, ys = [y0] := by
      match ys, e with
      | [y0], _ => exact ⟨y0, rfl⟩
    refine ⟨_, pss_one (ps_ost (f := "states") (pv 0) (pv 1)), ?_⟩
    refine ⟨_, rfl, _, rfl, a, C, rfl, O.T, O.no _ (List.mem_cons_self ..), .inl ⟨ha, fun dx hdx ne => ?_⟩⟩
    refine k dx hdx ne _ (fun b o eb nb => ?_) ?_ ?_
    · rw [upd_ne nb, upd_ne (ne_of_none eb hdx)]; exact eb
    · exact upd_same
    · rw [upd_ne ne]; exact upd_same
    
abbrev sBadState : Stmt := inClass (top 4) 0
theorem scBadState : FnScope ["self", "state"] ["self", "state"] (defScope sBadState) := ⟨rfl, rfl, rfl, by decide +kernel, rfl, by decide +kernel, by decide +kernel⟩
abbrev OBadState (K : PySem.W.Frag) (mg : Str → Option Value) (C fI : Addr) (fd : FuncData) : Prop := Oer K mg "BadState" ["state"] C fI fd "BadState.__init__" sBadState
theorem ini_BadState {C fI : Addr} {fd : FuncData} (O : OBadState K mg C fI fd) : FnOk P w K mg base CX0 1 fI fd ["self", "state"] (spIni C ["state"]) := by
  refine O.F.ok scBadState (fun vs H Q E h => ?_) (fun cdv A outer s H vs Q E hr h => ?_)
  · obtain ⟨a, ys, rfl, e, _⟩ := h
    show ys.length + 1 = _
    rw [e]; rfl
  · obtain ⟨a, ys, rfl, e, ha, k⟩ := h
    obtain ⟨y0, rfl⟩ : ∃ y0, ys = [y0] := by
      match ys, e with
      | [y0], _ => exact ⟨y0, rfl⟩
    refine ⟨_, pss_one (ps_ost (f := "state") (pv 0) (pv 1)), ?_⟩
    refine ⟨_, rfl, _, rfl, a, C, rfl, O.T, O.no _ (List.mem_cons_self ..), .inl ⟨ha, fun dx hdx ne => ?_⟩⟩
    refine k dx hdx ne _ (fun b o eb nb => ?_) ?_ ?_
    · rw [upd_ne nb, upd_ne (ne_of_none eb hdx)]; exact eb
    · exact upd_same
    · rw [upd_ne ne]; exact upd_same
    
abbrev sBadNumber : Stmt := inClass (top 6) 0
theorem scBadNumber : FnScope ["self", "number"] ["self", "number"] (defScope sBadNumber) := ⟨rfl, rfl, rfl, by decide +kernel, rfl, by decide +kernel, by decide +kernel⟩
abbrev OBadNumber (K : PySem.W.Frag) (mg : Str → Option Value) (C fI : Addr) (fd : FuncData) : Prop := Oer K mg "BadNumber" ["number"] C fI fd "BadNumber.__init__" sBadNumber
theorem ini_BadNumber {C fI : Addr} {fd : FuncData} (O : OBadNumber K mg C fI fd) : FnOk P w K mg base CX0 1 fI fd ["self", "number"] (spIni C ["number"]) := by
  refine O.F.ok scBadNumber (fun vs H Q E h => ?_) (fun cdv A outer s H vs Q E hr h => ?_)
  · obtain ⟨a, ys, rfl, e, _⟩ := h
    show ys.length + 1 = _
    rw [e]; rfl
  · obtain ⟨a, ys, rfl, e, ha, k⟩ := h
    obtain ⟨y0, rfl⟩ : ∃ y0, ys = [y0] := by
      match ys, e with
      | [y0], _ => exact ⟨y0, rfl⟩
    refine ⟨_, pss_one (ps_ost (f := "number") (pv 0) (pv 1)), ?_⟩
    refine ⟨_, rfl, _, rfl, a, C, rfl, O.T, O.no _ (List.mem_cons_self ..), .inl ⟨ha, fun dx hdx ne => ?_⟩⟩
    refine k dx hdx ne _ (fun b o eb nb => ?_) ?_ ?_
    · rw [upd_ne nb, upd_ne (ne_of_none eb hdx)]; exact eb
    · exact upd_same
    · rw [upd_ne ne]; exact upd_same
    
abbrev sUneven : Stmt := inClass (top 3) 0
theorem scUneven : FnScope ["self", "many", "most"] ["self", "many", "most"] (defScope sUneven) := ⟨rfl, rfl, rfl, by decide +kernel, rfl, by decide +kernel, by decide +kernel⟩
abbrev OUneven (K : PySem.W.Frag) (mg : Str → Option Value) (C fI : Addr) (fd : FuncData) : Prop := Oer K mg "Uneven" ["many", "most"] C fI fd "Uneven.__init__" sUneven
theorem ini_Uneven {C fI : Addr} {fd : FuncData} (O : OUneven K mg C fI fd) : FnOk P w K mg base CX0 1 fI fd ["self", "many", "most"] (spIni C ["many", "most"]) := by
  refine O.F.ok scUneven (fun vs H Q E h => ?_) (fun cdv A outer s H vs Q E hr h => ?_)
  · obtain ⟨a, ys, rfl, e, _⟩ := h
    show ys.length + 1 = _
    rw [e]; rfl
  · obtain ⟨a, ys, rfl, e, ha, k⟩ := h
    obtain ⟨y0, y1, rfl⟩ : ∃ y0 y1, ys = [y0, y1] := by
      match ys, e with
      | [y0, y1], _ => exact ⟨y0, y1, rfl⟩
    refine ⟨_, pss_cons (ps_ost (f := "many") (pv 0) (pv 1)) (pss_one (ps_ost (f := "most") (pv 0) (pv 2))), ?_⟩
    refine ⟨_, rfl, _, rfl, a, C, rfl, O.T, O.no _ (List.mem_cons_self ..), .inl ⟨ha, fun dx hdx ne => ?_⟩⟩
    refine ⟨_, rfl, _, rfl, a, C, rfl, O.T, O.no _ (List.mem_cons_of_mem _ (List.mem_cons_self ..)), .inr ⟨dx, [("many", y0)], ?ea1, ?ed1, by show 1 ≤ 900; decide, ?nx1⟩⟩
    case ea1 => exact upd_same
    case ed1 => (rw [upd_ne ne]; exact upd_same)
    refine k dx hdx ne _ (fun b o eb nb => ?_) ?_ ?_
    · rw [upd_ne (ne_of_none eb hdx), upd_ne nb, upd_ne (ne_of_none eb hdx)]; exact eb
    · rw [upd_ne ne.symm]; exact upd_same
    · exact upd_same
    
end
end K1
set_option Elab.async false
set_option linter.all false
set_option maxRecDepth 100000
/-! acts.cycle_of: the mathematics of its search -/
namespace K1
open PySem L2
theorem nodup_sub_len {α : Type} [DecidableEq α] : ∀ (l m : List α), l.Nodup → (∀ x ∈ l, x ∈ m) → l.length ≤ m.length
  | [], _, _, _ => Nat.zero_le _
  | a :: l, m, hn, hs => by
    rw [List.nodup_cons] at hn
    have ha := hs a (List.mem_cons_self ..)
    have h1 := nodup_sub_len l (m.erase a) hn.2 fun x hx => (List.mem_erase_of_ne (fun e => hn.1 (by rw [← e]; exact hx))).mpr (hs x (List.mem_cons_of_mem _ hx))
    rw [List.length_erase_of_mem ha] at h1
    have := List.length_pos_of_mem ha
    rw [List.length_cons]; omega
/-- how many that are not done lead to t -/
def cnt (f Dn : List Nat) (t : Nat) : Nat := ((List.range f.length).filter fun s => decide (s ∉ Dn) && decide (f.getD s 0 = t)).length
theorem cnt_snoc {f Dn : List Nat} {s : Nat} (hs : s < f.length) (hn : s ∉ Dn) (t : Nat) : (f.getD s 0 = t → 1 ≤ cnt f Dn t) ∧ cnt f (Dn ++ [s]) t = if f.getD s 0 = t then cnt f Dn t - 1 else cnt f Dn t := by
  have e1 : ((List.range f.length).filter fun s' => decide (s' ∉ Dn ++ [s]) && decide (f.getD s' 0 = t)) = ((List.range f.length).filter fun s' => decide (s' ∉ Dn) && decide (f.getD s' 0 = t)).filter fun s' => decide (s' ≠ s) := by
    rw [List.filter_filter]
    refine List.filter_congr fun x _ => ?_
    by_cases h1 : x ∈ Dn <;> by_cases h2 : x = s <;> simp [h1, h2]
  have nd : ((List.range f.length).filter fun s' => decide (s' ∉ Dn) && decide (f.getD s' 0 = t)).Nodup := (List.nodup_range).sublist (List.filter_sublist ..)
  by_cases h : f.getD s 0 = t
  · have hm : s ∈ (List.range f.length).filter fun s' => decide (s' ∉ Dn) && decide (f.getD s' 0 = t) := List.mem_filter.mpr ⟨List.mem_range.mpr hs, by rw [decide_eq_true hn, decide_eq_true h]; rfl⟩
    refine ⟨fun _ => List.length_pos_of_mem hm, ?_⟩
    rw [if_pos h]
    unfold cnt
    rw [e1]
    have e2 : (((List.range f.length).filter fun s' => decide (s' ∉ Dn) && decide (f.getD s' 0 = t)).filter fun s' => decide (s' ≠ s)) = ((List.range f.length).filter fun s' => decide (s' ∉ Dn) && decide (f.getD s' 0 = t)).erase s := by
      rw [nd.erase_eq_filter]
      refine List.filter_congr fun x _ => ?_
      by_cases h2 : x = s <;> simp [h2]
    rw [e2, List.length_erase_of_mem hm]
  · refine ⟨fun z => absurd z h, ?_⟩
    rw [if_neg h]
    unfold cnt
    congr 1
    refine List.filter_congr fun x _ => ?_
    by_cases h2 : x = s
    · subst h2; rw [decide_eq_false h, Bool.and_false, Bool.and_false]
    · simp [h2]
/-- the search: Dn done, L to do; nothing that is not done leads to them -/
structure Cy (f Dn L : List Nat) : Prop where
  nd : (Dn ++ L).Nodup
  lt : ∀ s ∈ Dn ++ L, s < f.length
  zero : ∀ s ∈ Dn ++ L, cnt f Dn s = 0
theorem Cy.start (f : List Nat) : Cy f [] ((List.range f.length).filter fun s => decide (cnt f [] s = 0)) :=
  ⟨by rw [List.nil_append]; exact (List.nodup_range).sublist (List.filter_sublist ..), fun s hs => by
    rw [List.nil_append] at hs
    exact List.mem_range.mp (List.mem_filter.mp hs).1, fun s hs => by
    rw [List.nil_append] at hs
    exact of_decide_eq_true (List.mem_filter.mp hs).2⟩
/-- one of them done -/
theorem Cy.step {f Dn L : List Nat} {s : Nat} (hf : ∀ x ∈ f, x < f.length) (c : Cy f Dn (s :: L)) : 1 ≤ cnt f Dn (f.getD s 0) ∧ Cy f (Dn ++ [s]) (L ++ if cnt f (Dn ++ [s]) (f.getD s 0) = 0 then [f.getD s 0] else []) := by
  have hs := c.lt s (by simp)
  have hn : s ∉ Dn := fun h => by
    have := c.nd
    exact (List.nodup_append.mp this).2.2 _ h _ (by simp) rfl
  obtain ⟨h1, h2⟩ := cnt_snoc hs hn (f.getD s 0)
  have h1 := h1 rfl
  refine ⟨h1, ?_⟩
  have eas : Dn ++ s :: L = Dn ++ [s] ++ L := by simp
  have hz : ∀ x ∈ Dn ++ [s] ++ L, cnt f (Dn ++ [s]) x = 0 := fun x hx => by
    have h0 := c.zero x (by rw [eas]; exact hx)
    have := (cnt_snoc hs hn x).2
    rw [this]
    by_cases e : f.getD s 0 = x
    · rw [if_pos e, h0]
    · rw [if_neg e, h0]
  have htl : f.getD s 0 < f.length := hf _ (by rw [List.getD_eq_getElem?_getD, List.getElem?_eq_getElem hs]; exact List.getElem_mem hs)
  by_cases e : cnt f (Dn ++ [s]) (f.getD s 0) = 0
  · rw [if_pos e]
    have hnew : f.getD s 0 ∉ Dn ++ [s] ++ L := fun h => by
      have h0 := c.zero _ (by rw [eas]; exact h)
      omega
    refine ⟨?_, fun x hx => ?_, fun x hx => ?_⟩
    · rw [← List.append_assoc]
      refine List.nodup_append.mpr ⟨by rw [← eas]; exact c.nd, by simp, fun a ha b hb => ?_⟩
      rw [List.mem_singleton.mp hb]
      exact fun z => hnew (z ▸ ha)
    · rw [← List.append_assoc] at hx
      rcases List.mem_append.mp hx with h | h
      · exact c.lt x (by rw [eas]; exact h)
      · rw [List.mem_singleton.mp h]; exact htl
    · rw [← List.append_assoc] at hx
      rcases List.mem_append.mp hx with h | h
      · exact hz x h
      · rw [List.mem_singleton.mp h]; exact e
  · rw [if_neg e, List.append_nil]
    exact ⟨by rw [← eas]; exact c.nd, fun x hx => c.lt x (by rw [eas]; exact hx), hz⟩
theorem Cy.len {f Dn L : List Nat} (c : Cy f Dn L) : Dn.length + L.length ≤ f.length := by
  have h := nodup_sub_len (Dn ++ L) (List.range f.length) c.nd fun x hx => List.mem_range.mpr (c.lt x hx)
  rw [List.length_append, List.length_range] at h
  exact h
end K1
set_option Elab.async false
set_option linter.all false
set_option maxRecDepth 100000
/-! math.lcm of two integers -/
namespace L2
open PySem PySem.Spec PyProof.Rows
def rLcm : List V → Hp → VK → Prop := fun vs H Q => ∃ a b : Int, vs = [.int a, .int b] ∧ a.natAbs < 2 ^ 64 ∧ b.natAbs < 2 ^ 64 ∧ Q (.int ((a.natAbs.lcm b.natAbs : Nat) : Int)) H
theorem cr_lcm {X : Cx} : CallR X (.builtin "math.lcm") rLcm := by
  intro pins s σ H xs us Q I r h
  obtain ⟨a, b, rfl, ha, hb, q⟩ := h
  obtain ⟨u1, u2, rfl, ⟨t1, rfl⟩, ⟨t2, rfl⟩⟩ := vals2 r
  exact PySem.W.mc_lcm ha hb fun _ => ⟨.int _, H, I.tok _, ⟨_, rfl⟩, q⟩
end L2
set_option Elab.async false
set_option linter.all false
set_option maxRecDepth 100000
namespace L2
open PySem PySem.Spec PyProof.Rows
/-- a while by a number that the invariant tells -/
theorem while_ix {c : TT} {tb : TS} {D : Ends} {σ : St} {H : Hp} (Pv : Nat → St → Hp → Prop) (m0 : Nat) (h0 : Pv m0 σ H)
    (hs : ∀ m σ H, Pv m σ H → c σ H fun b H1 => if b = true then tb { D with nx := fun σ' H' => ∃ m', m' < m ∧ Pv m' σ' H', ct := fun σ' H' => ∃ m', m' < m ∧ Pv m' σ' H', bk := D.nx } σ H1 else D.nx σ H1)
    (mono : ∀ σ H Q Q', (∀ b H1, Q b H1 → Q' b H1) → c σ H Q → c σ H Q') : tWhile c tb D σ H := by
  refine ⟨Pv, ⟨_, h0⟩, fun m σ H p => ?_⟩
  refine mono σ H _ _ (fun b H1 q => ?_) (hs m σ H p)
  cases b with
  | true => exact ⟨_, fun σ' H' z => z, q⟩
  | false => exact q
end L2
set_option Elab.async false
set_option linter.all false
set_option maxRecDepth 100000
set_option maxHeartbeats 1000000
/-! acts.ring_length -/
namespace K1
open PySem L2
abbrev sRingL : Stmt := top 16
def natI (l : List Nat) : List Int := l.map fun (k : Nat) => (k : Int)
/-- what is met, as a dict's entries -/
def metK (D : List Nat) : List (Key × V) := D.map fun (x : Nat) => (Sum.inl (x : Int), V.bl true)
theorem metK_has (D : List Nat) (x : Nat) : (valV (metK D) (Sum.inl (x : Int))).isSome = decide (x ∈ D) := by
  induction D with
  | nil => rfl
  | cons a D ih =>
    show (valV ((Sum.inl (a : Int), V.bl true) :: metK D) (Sum.inl (x : Int))).isSome = _
    by_cases h : a = x
    · subst h
      rw [valV_pos rfl]; simp
    · rw [valV_neg (fun e => h (by have := Sum.inl.inj e; omega)), ih]
      have : (x ∈ a :: D) ↔ x ∈ D := by
        rw [List.mem_cons]
        exact ⟨fun z => z.resolve_left fun e => h e.symm, .inr⟩
      simp only [this]
def spRingL (K : PySem.W.Frag) : Sp := fun vs H Q _ => ∃ (a w : Addr) (f : List Nat) (ys : List Int), vs = [.ref a, .ref w] ∧ SqT K H a ((natI f).map V.int) ∧ SqL K H w (ys.map V.int) ∧ ys.length = f.length ∧ f.length ≤ 60 ∧ (∀ x ∈ f, x < f.length) ∧
  ∀ (c : Int) (H' : Hp), Same H H' → Q (.int c) H'
section
variable {P : Program} {w : World} {K : PySem.W.Frag} {mg : Str → Option Value} {base : Heap}
abbrev pRingL : List Str := ["states", "ways"]
abbrev nRingL : List Str := ["states", "ways", "length", "met", "first", "many", "size", "state"]
theorem scRingL : FnScope nRingL pRingL (defScope sRingL) := ⟨rfl, rfl, rfl, by decide +kernel, rfl, by decide +kernel, by decide +kernel⟩
theorem ok_ringl {f : Addr} {fd : FuncData} (D : Df K mg "ring_length" sRingL pRingL f fd) (T : Bt3 mg) (hl : mg "lcm" = some (.builtin "math.lcm")) : FnOk P w K mg base CX0 1 f fd pRingL (spRingL K) := by
  refine D.F.ok scRingL (fun vs H Q E h => ?_) (fun cdv A outer s H vs Q E hr h => ?_)
  · obtain ⟨a, w', f', ys, rfl, _⟩ := h
    rfl
  · obtain ⟨a, w', ff, ys, rfl, ha, hw, hyl, h60, hlt, k⟩ := h
    have hu : (A.deeper (PyProof.Rows.envOfC "ring_length" (defScope sRingL) s.heap.objs.size f cdv)).units + 1 < cLine := hu_of hr
    refine ⟨_, pss_cons (ps_set (i := 2) scRingL.nd rfl (Or.inl rfl) pe_int)
      (pss_cons (ps_set (i := 3) scRingL.nd rfl (Or.inl rfl) pe_dnewK)
      (pss_cons (ps_for PassesOwn.never rfl (pi_enum (by rfl) T.enumerate (pa_cons (pv 1) pa_nil)) (pg_tup (by rfl) (pgs_cons (pg_name (i := 4) scRingL.nd rfl (Or.inl rfl)) (pgs_cons (pg_name (i := 5) scRingL.nd rfl (Or.inl rfl)) pgs_nil)))
        (pss_cons (ps_set (i := 6) scRingL.nd rfl (Or.inl rfl) pe_int)
        (pss_cons (ps_set (i := 7) scRingL.nd rfl (Or.inl rfl) (pv 4))
        (pss_cons (ps_while PassesOwn.never (PW.pt (pw_and (pt_cmpR op_gt (pv 5) pe_int (nomark _)) (pw_and1 (pt_cmp (pc_dnotin hu (pv 7) (pv 3))))))
          (pss_cons (ps_dput hu (pv 3) (pv 7) pe_bl rfl)
          (pss_cons (ps_aug (i := 6) scRingL.nd rfl (Or.inl rfl) pe_int ip_add)
          (pss_one (ps_set (i := 7) scRingL.nd rfl (Or.inl rfl) (pe_ix (r := rIxT K) ix_tup (pv 0) (pv 7) (fun _ _ => rfl)))))))
        (pss_one (ps_if (pt_cmpR op_gt (pv 6) pe_int (nomark _)) (pss_one (ps_set (i := 2) scRingL.nd rfl (Or.inl rfl) (pe_callBfun cr_lcm (by rfl) hl (pa_cons (pv 2) (pa_cons (pv 6) pa_nil))))) pss_nil))))))
      (pss_one (ps_ret (pv 2))))), ?_⟩
    intro p hp
    have s1 := same_upd (o := .dK []) hp
    have ep1 : upd H p (.dK []) p = some (.dK (metK [])) := upd_same
    generalize upd H p (.dK []) = H1 at s1 ep1 ⊢
    refine ⟨_, rfl, w', _, rfl, s1.seq hw, for_it (walk_enum (K := K) (a := w') (xs := ys.map V.int)) (fun i σ H' => ∃ (L : Nat) (Dm : List Nat) (v4 v5 v6 v7 : Option V), σ = [some (.ref a), some (.ref w'), some (.int (L : Int)), some (.ref p), v4, v5, v6, v7] ∧ Same H H' ∧ H' p = some (.dK (metK Dm)) ∧ Dm.Nodup ∧ (∀ x ∈ Dm, x < ff.length) ∧ 1 ≤ L ∧ L ≤ 2 ^ Dm.length)
      ⟨1, [], none, none, none, none, rfl, s1, ep1, List.nodup_nil, fun x h => (nomatch h), Nat.le_refl _, Nat.le_refl _⟩ ?_ ?_ ?_⟩
    · rintro i σ H' _ ⟨L, Dm, v4, v5, v6, v7, rfl, sm, _⟩
      exact sm.seq hw
    · rintro i yv σ H2 H3 hi ⟨L, Dm, v4, v5, v6, v7, rfl, s2, ep2, nd, lt, l1, l2⟩ ⟨t, x1, x2, rfl, ht, rfl, e1, e2⟩
      cases e1
      replace e2 : (ys.map V.int)[i]? = some x2 := e2
      rw [List.getElem?_map] at e2
      obtain ⟨m, em, rfl⟩ := Option.map_eq_some_iff.mp e2
      have hil : i < ff.length := by rw [← hyl]; exact (List.getElem?_eq_some_iff.mp em).1
      have s23 := same_upd (o := .tup [V.int (i : Nat), V.int m]) ht
      refine ⟨t, _, rfl, SqT.of upd_same, rfl, _, _, rfl, _, _, rfl, rfl, ?_⟩
      have s3 := s2.trans s23
      have ep3 := s23 _ _ ep2
      generalize upd H2 t (.tup [V.int (i : Nat), V.int m]) = H3 at s3 ep3 ⊢
      refine ⟨_, rfl, ?_⟩
      refine while_ix (fun mm σ H' => ∃ (Dn : List Nat) (x sz : Nat), mm = ff.length - Dn.length ∧ σ = [some (.ref a), some (.ref w'), some (.int (L : Int)), some (.ref p), some (.int (i : Nat)), some (.int m), some (.int (sz : Int)), some (.int (x : Int))] ∧ Same H H' ∧ H' p = some (.dK (metK Dn)) ∧ Dn.Nodup ∧ (∀ x ∈ Dn, x < ff.length) ∧ x < ff.length ∧ Dn.length = Dm.length + sz) (ff.length - Dm.length) ?_ ?_ ?_
      · exact ⟨Dm, i, 0, rfl, rfl, s3, ep3, nd, lt, hil, rfl⟩
      · rintro mm σ H4 ⟨Dn, x, sz, rfl, rfl, s4, ep4, nd4, lt4, hx, hsz⟩
        have hDl := nodup_sub_len Dn (List.range ff.length) nd4 fun x hx => List.mem_range.mpr (lt4 x hx)
        rw [List.length_range] at hDl
        refine ⟨_, rfl, _, _, rfl, rfl, _, rfl, ?_⟩
        refine ite2 (fun _ => ?_) (fun _ => ?_)
        · refine ⟨_, rfl, _, rfl, p, _, rfl, DGet.k (k := Sum.inl (x : Int)) ep4, _, rfl, ?_⟩
          rw [metK_has]
          by_cases hm : x ∈ Dn
          · rw [decide_eq_true hm]
            refine iteF ?_
            refine ⟨_, rfl, _, _, rfl, rfl, _, rfl, ?_⟩
            refine ite2 (fun hz => ?_) (fun hz => ?_)
            · have h0 : 1 ≤ sz := by have := of_decide_eq_true hz; omega
              have l60 : L < 2 ^ 64 := Nat.lt_of_le_of_lt l2 (Nat.pow_lt_pow_right (by decide) (by omega))
              have s60 : sz < 2 ^ 64 := Nat.lt_of_le_of_lt (show sz ≤ 60 by omega) (by decide)
              refine ⟨_, rfl, _, rfl, (L : Int), (sz : Int), rfl, by rw [Int.natAbs_natCast]; exact l60, by rw [Int.natAbs_natCast]; exact s60, ?_⟩
              refine ⟨L.lcm sz, Dn, _, _, _, _, rfl, s4, ep4, nd4, lt4, Nat.lcm_pos (by omega) (by omega), ?_⟩
              refine Nat.le_trans (PySem.W.mc_lcm_le L sz) ?_
              rw [hsz, Nat.pow_add]
              exact Nat.mul_le_mul l2 (Nat.le_of_lt Nat.lt_two_pow_self)
            · have h0 : sz = 0 := by
                have : ¬ (0 : Int) < (sz : Int) := fun q => hz (decide_eq_true q)
                omega
              exact ⟨L, Dn, _, _, _, _, rfl, s4, ep4, nd4, lt4, l1, by rw [hsz, h0, Nat.add_zero]; exact l2⟩
          · rw [decide_eq_false hm]
            refine iteT ?_
            have hno : valV (metK Dn) (Sum.inl (x : Int)) = none := by
              have := metK_has Dn x
              rw [decide_eq_false hm] at this
              cases hv : valV (metK Dn) (Sum.inl (x : Int)) with
              | none => rfl
              | some v => rw [hv] at this; cases this
            have hml : (metK Dn).length = Dn.length := List.length_map _
            refine ⟨_, rfl, _, rfl, p, _, rfl, DPut.k (k := Sum.inl (x : Int)) ep4 (by rw [hml, sizeLine_eq]; omega), ?_⟩
            rw [putK_new _ hno]
            have s5 : Same H (upd H4 p (.dK (metK Dn ++ [(Sum.inl (x : Int), V.bl true)]))) := fun b o e => by rw [upd_ne (ne_of_none e hp)]; exact s4 b o e
            have ep5 : upd H4 p (.dK (metK Dn ++ [(Sum.inl (x : Int), V.bl true)])) p = some (.dK (metK (Dn ++ [x]))) := by rw [upd_same]; unfold metK; rw [List.map_append]; rfl
            generalize upd H4 p (.dK (metK Dn ++ [(Sum.inl (x : Int), V.bl true)])) = H5 at s5 ep5 ⊢
            refine ⟨_, rfl, _, _, rfl, rfl, ?_⟩
            have ex : ff[x]? = some (ff.getD x 0) := by rw [List.getD_eq_getElem?_getD, List.getElem?_eq_getElem hx]; rfl
            refine ⟨_, rfl, _, rfl, a, _, _, V.int ((ff.getD x 0 : Nat) : Int), rfl, rfl, ha.ext s5, atI_nat (by unfold natI; rw [List.getElem?_map, List.getElem?_map, ex]; rfl), ?_⟩
            have hlen' : (Dn ++ [x]).length = Dn.length + 1 := List.length_append
            have nd5 : (Dn ++ [x]).Nodup := List.nodup_append.mpr ⟨nd4, by simp, fun y hy z hz => by rw [List.mem_singleton.mp hz]; exact fun e => hm (e ▸ hy)⟩
            have lt5 : ∀ y ∈ Dn ++ [x], y < ff.length := fun y hy => by
              rcases List.mem_append.mp hy with h | h
              · exact lt4 y h
              · rw [List.mem_singleton.mp h]; exact hx
            have hDl5 := nodup_sub_len (Dn ++ [x]) (List.range ff.length) nd5 fun x hx => List.mem_range.mpr (lt5 x hx)
            rw [List.length_range] at hDl5
            exact ⟨ff.length - (Dn ++ [x]).length, by omega, Dn ++ [x], ff.getD x 0, sz + 1, rfl, rfl, s5, ep5, nd5, lt5, hlt _ (List.mem_of_getElem? ex), by omega⟩
        · refine ⟨_, rfl, _, _, rfl, rfl, _, rfl, ?_⟩
          refine ite2 (fun hz => ?_) (fun hz => ?_)
          · have h0 : 1 ≤ sz := by have := of_decide_eq_true hz; omega
            have l60 : L < 2 ^ 64 := Nat.lt_of_le_of_lt l2 (Nat.pow_lt_pow_right (by decide) (by omega))
            have s60 : sz < 2 ^ 64 := Nat.lt_of_le_of_lt (show sz ≤ 60 by omega) (by decide)
            refine ⟨_, rfl, _, rfl, (L : Int), (sz : Int), rfl, by rw [Int.natAbs_natCast]; exact l60, by rw [Int.natAbs_natCast]; exact s60, ?_⟩
            refine ⟨L.lcm sz, Dn, _, _, _, _, rfl, s4, ep4, nd4, lt4, Nat.lcm_pos (by omega) (by omega), ?_⟩
            refine Nat.le_trans (PySem.W.mc_lcm_le L sz) ?_
            rw [hsz, Nat.pow_add]
            exact Nat.mul_le_mul l2 (Nat.le_of_lt Nat.lt_two_pow_self)
          · have h0 : sz = 0 := by
              have : ¬ (0 : Int) < (sz : Int) := fun q => hz (decide_eq_true q)
              omega
            exact ⟨L, Dn, _, _, _, _, rfl, s4, ep4, nd4, lt4, l1, by rw [hsz, h0, Nat.add_zero]; exact l2⟩
      · rintro σ H' Q1 Q2 hQ h
        obtain ⟨v1, e1, i1, j1, a1, b1, c1, d1, h⟩ := h
        refine ⟨v1, e1, i1, j1, a1, b1, c1, d1, ?_⟩
        cases c1 with
        | true =>
          obtain ⟨v2, e2, v3, e3, p3, o3, a3, g3, c3, d3, h⟩ := h
          exact ⟨v2, e2, v3, e3, p3, o3, a3, g3, c3, d3, hQ _ _ h⟩
        | false => exact hQ _ _ h
    · rintro σ H2 ⟨L, Dm, v4, v5, v6, v7, rfl, s2, _⟩
      exact ⟨_, rfl, k L H2 s2⟩
end
end K1
set_option Elab.async false
set_option linter.all false
set_option maxRecDepth 100000
set_option maxHeartbeats 1000000
/-! acts.cycle_of -/
namespace K1
open PySem L2
abbrev sCycle : Stmt := top 15
/-- a list told by its places -/
def WL (n : Nat) (g : Nat → Nat) : List V := (List.range n).map fun t => V.int ((g t : Nat) : Int)
theorem WL_len (n : Nat) (g : Nat → Nat) : (WL n g).length = n := by unfold WL; rw [List.length_map, List.length_range]
theorem WL_get {n : Nat} {g : Nat → Nat} {j : Nat} (h : j < n) : (WL n g)[j]? = some (.int ((g j : Nat) : Int)) := by unfold WL; rw [List.getElem?_map, List.getElem?_range h]; rfl
theorem WL_set {n : Nat} {g g' : Nat → Nat} {j : Nat} (h : j < n) (hj : ∀ t, t ≠ j → g' t = g t) : (WL n g).set j (.int ((g' j : Nat) : Int)) = WL n g' := by
  refine List.ext_getElem? fun i => ?_
  by_cases hi : i < n
  · rw [WL_get hi]
    by_cases e : i = j
    · subst e
      rw [List.getElem?_set_self (by rw [WL_len]; exact h)]
    · rw [List.getElem?_set_ne (fun z => e z.symm), WL_get hi, hj i e]
  · rw [List.getElem?_eq_none (by rw [List.length_set, WL_len]; omega), List.getElem?_eq_none (by rw [WL_len]; omega)]
theorem cnt0 (f : List Nat) (t : Nat) : cnt f [] t = f.count t := by
  have e : (List.range f.length).map (fun s => f.getD s 0) = f := by
    refine List.ext_getElem? fun i => ?_
    by_cases hi : i < f.length
    · rw [List.getElem?_map, List.getElem?_range hi, List.getElem?_eq_getElem hi]
      show some (f.getD i 0) = _
      rw [List.getD_eq_getElem?_getD, List.getElem?_eq_getElem hi]; rfl
    · rw [List.getElem?_eq_none (by rw [List.length_map, List.length_range]; omega), List.getElem?_eq_none (by omega)]
  have h1 : f.count t = ((List.range f.length).map (fun s => f.getD s 0)).count t := by rw [e]
  rw [h1, List.count_eq_countP, List.countP_map, List.countP_eq_length_filter]
  unfold cnt
  congr 1
theorem ix_nat {n j : Nat} (h : j < n) : ixN n (j : Int) = some j := by unfold ixN; rw [if_pos (by omega), if_pos (by omega)]; rfl
def spCycle (K : PySem.W.Frag) : Sp := fun vs H Q _ => ∃ (a : Addr) (f : List Nat), vs = [.ref a] ∧ SqT K H a ((natI f).map V.int) ∧ f.length ≤ 60 ∧ (∀ x ∈ f, x < f.length) ∧
  ∀ (p : Addr) (c1 c2 : Int) (H' : Hp), H p = none → Same H H' → H' p = some (.tup [.int c1, .int c2]) → Q (.ref p) H'
section
variable {P : Program} {w : World} {K : PySem.W.Frag} {mg : Str → Option Value} {base : Heap}
abbrev nCycle : List Str := ["states", "ways", "_", "state", "layer", "many", "ahead", "later"]
theorem scCycle : FnScope nCycle ["states"] (defScope sCycle) := ⟨rfl, rfl, rfl, by decide +kernel, rfl, by decide +kernel, by decide +kernel⟩
theorem ok_cycle {f fR : Addr} {fd fdR : FuncData} (D : Df K mg "cycle_of" sCycle ["states"] f fd) (DR : Df K mg "ring_length" sRingL pRingL fR fdR) (T : Bt3 mg) (hl : mg "lcm" = some (.builtin "math.lcm")) : FnOk P w K mg base CX0 2 f fd ["states"] (spCycle K) := by
  have GR : FnOk P w K mg base CX0 1 fR fdR pRingL (spRingL K) := ok_ringl DR T hl
  refine D.F.ok scCycle (fun vs H Q E h => ?_) (fun cdv A outer s H vs Q E hr h => ?_)
  · obtain ⟨a, f', rfl, _⟩ := h
    rfl
  · obtain ⟨a, ff, rfl, ha, h60, hlt, k⟩ := h
    refine ⟨_, pss_cons (ps_setLc (i := 1) (own := [("_", 2)]) (g := gName 2) (by rfl) scCycle.nd rfl rfl (sw_true rfl rfl rfl (by decide +kernel)) (pi_tup (pv 0))
          (blkOk_by (own := [("_", 2)]) (N := nCycle) (sc := defScope sCycle) (by decide +kernel)) (fun _ _ _ _ _ => pg_name (i := 2) scCycle.nd rfl (Or.inl rfl)) (fun _ _ _ _ _ => pts_nil) (fun _ _ _ _ _ => pe_int))
      (pss_cons (ps_for PassesOwn.never rfl (pi_tup (pv 0)) (pg_name (i := 3) scCycle.nd rfl (Or.inl rfl))
        (pss_one (ps_asg (pe_op op_add (pe_ix (r := rIxL K) ix_list (pv 1) (pv 3) (fun _ _ => rfl)) pe_int) (pg_sub (pv 1) (pv 3) set_list))))
      (pss_cons (ps_setLc (i := 4) (own := [("state", 3), ("many", 5)]) (g := gTup K 2 (gCons (gName 3) (gCons (gName 5) gNil))) (by rfl) scCycle.nd rfl rfl (sw_true rfl rfl rfl (by decide +kernel)) (pi_enum (by rfl) T.enumerate (pa_cons (pv 1) pa_nil))
          (blkOk_by (own := [("state", 3), ("many", 5)]) (N := nCycle) (sc := defScope sCycle) (by decide +kernel)) (fun _ _ _ _ _ => pg_tup (by rfl) (pgs_cons (pg_name (i := 3) scCycle.nd rfl (Or.inl rfl)) (pgs_cons (pg_name (i := 5) scCycle.nd rfl (Or.inl rfl)) pgs_nil)))
          (fun _ _ _ _ _ => pts_one (pt_cmpR op_eq (pv 5) pe_int (nomark _))) (fun _ _ _ _ _ => pv 3))
      (pss_cons (ps_set (i := 6) scCycle.nd rfl (Or.inl rfl) pe_int)
      (pss_cons (ps_while PassesOwn.never (pt_cmpR op_gt (pe_callB call_len (by rfl) T.len PySem.boot_len (pa_cons (pv 4) pa_nil)) pe_int (nomark _))
        (pss_cons (ps_aug (i := 6) scCycle.nd rfl (Or.inl rfl) pe_int ip_add)
        (pss_cons (ps_set (i := 7) scCycle.nd rfl (Or.inl rfl) (pe_lst pa_nil))
        (pss_cons (ps_for PassesOwn.never rfl (pi_list (pv 4)) (pg_name (i := 3) scCycle.nd rfl (Or.inl rfl))
          (pss_cons (ps_asg (pe_op op_sub (pe_ix (r := rIxL K) ix_list (pv 1) (pe_ix (r := rIxT K) ix_tup (pv 0) (pv 3) (fun _ _ => rfl)) (fun _ _ => rfl)) pe_int) (pg_sub (pv 1) (pe_ix (r := rIxT K) ix_tup (pv 0) (pv 3) (fun _ _ => rfl)) set_list))
          (pss_one (ps_if (pt_cmpR op_eq (pe_ix (r := rIxL K) ix_list (pv 1) (pe_ix (r := rIxT K) ix_tup (pv 0) (pv 3) (fun _ _ => rfl)) (fun _ _ => rfl)) pe_int (nomark _))
            (pss_one (ps_expr (pe_bm PySem.F.plainAttrs_list PySem.F.slot_list_append PySem.F.type_list_append mt_append (pv 7) (pa_cons (pe_ix (r := rIxT K) ix_tup (pv 0) (pv 3) (fun _ _ => rfl)) pa_nil)))) pss_nil))))
        (pss_one (ps_set (i := 4) scCycle.nd rfl (Or.inl rfl) (pv 7)))))))
      (pss_one (ps_ret (pe_tup (pa_cons (pv 6) (pa_cons (pe_call GR hr rfl DR.g DR.F.kp DR.b .nil pass0 (pa_cons (pv 0) (pa_cons (pv 1) pa_nil))) pa_nil))))))))), ?_⟩
    have hnl : (natI ff).length = ff.length := List.length_map _
    have hst : ∀ {G : Hp}, Same H G → SqT K G a ((natI ff).map V.int) := fun sG => ha.ext sG
    have hat : ∀ {i : Nat}, i < ff.length → ff[i]? = some (ff.getD i 0) ∧ ((natI ff).map V.int)[i]? = some (V.int ((ff.getD i 0 : Nat) : Int)) ∧ ff.getD i 0 < ff.length := fun {i} hi => by
      have e : ff[i]? = some (ff.getD i 0) := by rw [List.getD_eq_getElem?_getD, List.getElem?_eq_getElem hi]; rfl
      exact ⟨e, by unfold natI; rw [List.getElem?_map, List.getElem?_map, e]; rfl, hlt _ (List.mem_of_getElem? e)⟩
    -- ways
    refine ⟨_, rfl, a, rfl, ⟨_, ha⟩, fun w' hw => ?_⟩
    refine lc_tup (K := K) (a := a) (xs := (natI ff).map V.int) (te := tC (.int 0)) (fun i H' => Same H H' ∧ H' w' = some (.lst (List.replicate i (V.int 0)))) ?_ ?_ ?_ ?_
    · exact ⟨same_upd hw, upd_same⟩
    · exact fun i H' _ q => hst q.1
    · rintro i y H1 hi ⟨s1, hw1⟩
      have hil := (List.getElem?_eq_some_iff.mp hi).1
      rw [List.length_map, hnl] at hil
      refine ⟨rfl, ?_⟩
      refine ⟨_, hw1, by rw [List.length_replicate, sizeLine_eq]; omega, fun b o e => by rw [upd_ne (ne_of_none e hw)]; exact s1 b o e, ?_⟩
      rw [upd_same, List.replicate_succ']
    · rintro H1 ⟨s1, hw1⟩
      have e0 : List.replicate ((natI ff).map V.int).length (V.int 0) = WL ff.length (fun t => (ff.take 0).count t) := by
        refine List.ext_getElem? fun i => ?_
        rw [List.length_map, hnl]
        by_cases hi : i < ff.length
        · rw [WL_get hi, List.getElem?_replicate, if_pos hi]; simp
        · rw [List.getElem?_eq_none (by rw [List.length_replicate]; omega), List.getElem?_eq_none (by rw [WL_len]; omega)]
      rw [e0] at hw1
      -- the counts
      refine ⟨_, rfl, a, rfl, ⟨_, hst s1⟩, for_tup (K := K) (a := a) (xs := (natI ff).map V.int) (fun i σ H' => ∃ v3 : Option V, σ = [some (.ref a), some (.ref w'), none, v3, none, none, none, none] ∧ Same H H' ∧ H' w' = some (.lst (WL ff.length (fun t => (ff.take i).count t)))) ⟨none, rfl, s1, hw1⟩ (fun i σ H' _ q => by obtain ⟨_, _, sm, _⟩ := q; exact hst sm) ?_ ?_⟩
      · rintro i y σ H2 hi ⟨v3, rfl, s2, hw2⟩
        have hil := (List.getElem?_eq_some_iff.mp hi).1
        rw [List.length_map, hnl] at hil
        obtain ⟨e1, e2, e3⟩ := hat hil
        rw [e2] at hi
        cases hi
        refine ⟨_, rfl, _, rfl, w', _, _, _, rfl, rfl, SqL.of hw2, atI_nat (WL_get e3), _, _, rfl, rfl, _, rfl, _, rfl, w', _, _, _, rfl, rfl, hw2, by rw [WL_len]; exact ix_nat e3, ?_⟩
        have eg : (V.int ((((ff.take i).count (ff.getD i 0) : Nat) : Int) + 1)) = V.int ((((ff.take (i + 1)).count (ff.getD i 0) : Nat) : Int)) := by
          rw [List.take_add_one, e1]; simp
        dsimp only
        rw [eg, WL_set (g' := fun t => (ff.take (i + 1)).count t) e3 fun t ht => by rw [List.take_add_one, e1]; simp [List.count_singleton]; exact fun h => ht h.symm]
        exact ⟨_, rfl, fun b o e => by rw [upd_ne (ne_of_none e hw)]; exact s2 b o e, upd_same⟩
      · rintro σ H2 ⟨v3, rfl, s2, hw2⟩
        rw [List.length_map, hnl, List.take_length] at hw2
        have ew : WL ff.length (fun t => ff.count t) = WL ff.length (cnt ff []) := by unfold WL; exact List.map_congr_left fun t _ => by rw [cnt0]
        rw [ew] at hw2
        -- the first layer
        refine ⟨_, rfl, w', _, rfl, SqL.of hw2, fun l0 hl0 => ?_⟩
        refine lc_it (walk_enum (K := K) (a := w') (xs := WL ff.length (cnt ff []))) (fun i H' => Same H2 H' ∧ H' l0 = some (.lst ((natI ((List.range i).filter fun s => decide (cnt ff [] s = 0))).map V.int))) ?_ ?_ ?_ ?_
        · exact ⟨same_upd hl0, upd_same⟩
        · exact fun i H' _ q => SqL.of (q.1 _ _ hw2)
        · rintro i y H3 H4 hi ⟨s3, hl3⟩ ⟨t, x1, x2, rfl, ht, rfl, f1, f2⟩
          cases f1
          rw [WL_len] at hi
          replace f2 : (WL ff.length (cnt ff []))[i]? = some x2 := f2
          rw [WL_get hi] at f2
          cases f2
          have s34 := same_upd (o := .tup [V.int (i : Nat), V.int ((cnt ff [] i : Nat) : Int)]) ht
          refine ⟨t, _, rfl, SqT.of upd_same, rfl, _, _, rfl, _, _, rfl, rfl, rfl, _, rfl, rfl, _, rfl, ?_⟩
          generalize upd H3 t (.tup [V.int (i : Nat), V.int ((cnt ff [] i : Nat) : Int)]) = H4 at s34 ⊢
          rw [List.range_succ, List.filter_append, List.filter_cons]
          have hnI : ∀ l : List Nat, (natI l).length = l.length := fun l => List.length_map _
          by_cases hz : cnt ff [] i = 0
          · have hd : decide (V.int ((cnt ff [] i : Nat) : Int) = V.int 0) = true := by rw [hz]; rfl
            refine ite2 (fun _ => ?_) (fun h => absurd hd h)
            refine ⟨_, rfl, _, s34 _ _ hl3, ?_, fun b o e => by rw [upd_ne (ne_of_none e hl0)]; exact s34 _ _ (s3 b o e), ?_⟩
            · rw [List.length_map, hnI, sizeLine_eq]
              have h1 := List.length_filter_le (fun s => decide (cnt ff [] s = 0)) (List.range i)
              rw [List.length_range] at h1; omega
            · rw [upd_same, if_pos (decide_eq_true hz)]; unfold natI; rw [List.map_append, List.map_append]; rfl
          · have hd : ¬ decide (V.int ((cnt ff [] i : Nat) : Int) = V.int 0) = true := fun h => hz (by have := of_decide_eq_true h; injection this with this; omega)
            refine ite2 (fun h => absurd h hd) (fun _ => ?_)
            refine ⟨s3.trans s34, ?_⟩
            rw [if_neg (by rw [decide_eq_false hz]; simp), List.filter_nil, List.append_nil]
            exact s34 _ _ hl3
        · rintro H3 ⟨s3, hl3⟩
          rw [WL_len] at hl3
          have hw3 := s3 _ _ hw2
          have s03 := s2.trans s3
          have zl0 : H l0 = none := s2.free hl0
          have cy0 := Cy.start ff
          have nl0w : l0 ≠ w' := (ne_of_none hw2 hl0).symm
          generalize ((List.range ff.length).filter fun s => decide (cnt ff [] s = 0)) = L0 at hl3 cy0
          have hnI : ∀ l : List Nat, (natI l).length = l.length := fun l => List.length_map _
          refine while_ix (fun mm σ H' => ∃ (Dn L : List Nat) (la : Addr) (ah : Int) (v3 v7 : Option V), mm = ff.length - Dn.length ∧ σ = [some (.ref a), some (.ref w'), none, v3, some (.ref la), none, some (.int ah), v7] ∧ Same H H' ∧ H' w' = some (.lst (WL ff.length (cnt ff Dn))) ∧
            H' la = some (.lst ((natI L).map V.int)) ∧ la ≠ w' ∧ Cy ff Dn L) ff.length ?_ ?_ ?_
          · exact ⟨[], L0, l0, 0, _, _, rfl, rfl, s03, hw3, hl3, nl0w, cy0⟩
          · rintro mm σ H4 ⟨Dn, L, la, ah, v3', v7', rfl, rfl, s4, hw4, hla4, nlw, cy⟩
            refine ⟨_, rfl, _, L.length, rfl, .inl ⟨_, SqL.of hla4, by rw [List.length_map, hnI]⟩, _, _, rfl, rfl, _, rfl, ?_⟩
            refine ite2 (fun hgt => ?_) (fun _ => ?_)
            · have hL : 1 ≤ L.length := by have := of_decide_eq_true hgt; omega
              refine ⟨_, rfl, _, _, rfl, rfl, ?_⟩
              refine ⟨Nat.le_of_ble_eq_true rfl, fun lt hlt' => ?_⟩
              have s5 := same_upd (o := .lst []) hlt'
              have hlt5 : upd H4 lt (.lst []) lt = some (.lst ((natI []).map V.int)) := upd_same
              have zlt : H lt = none := s4.free hlt'
              have nltw : lt ≠ w' := (ne_of_none hw4 hlt').symm
              have nltla : lt ≠ la := (ne_of_none hla4 hlt').symm
              generalize upd H4 lt (.lst []) = H5 at s5 hlt5 ⊢
              have s05 := s4.trans s5
              refine ⟨_, rfl, la, rfl, ⟨_, SqL.of (s5 _ _ hla4)⟩, for_list (K := K) (a := la) (xs := (natI L).map V.int) (fun j σ H' => ∃ (M : List Nat) (v3 : Option V), σ = [some (.ref a), some (.ref w'), none, v3, some (.ref la), none, some (.int (ah + 1)), some (.ref lt)] ∧ Same H H' ∧ H' la = some (.lst ((natI L).map V.int)) ∧
                H' w' = some (.lst (WL ff.length (cnt ff (Dn ++ L.take j)))) ∧ H' lt = some (.lst ((natI M).map V.int)) ∧ Cy ff (Dn ++ L.take j) (L.drop j ++ M)) ?_ ?_ ?_ ?_⟩
              · exact ⟨[], _, rfl, s05, s5 _ _ hla4, by rw [List.take_zero, List.append_nil]; exact s5 _ _ hw4, hlt5, by rw [List.take_zero, List.append_nil, List.drop_zero, List.append_nil]; exact cy⟩
              · rintro j σ H' _ ⟨M, v3, rfl, _, hq, _⟩
                exact SqL.of hq
              · rintro j y σ H6 hj ⟨M, v3, rfl, s6, hla6, hw6, hlt6, cyj⟩
                have hjl := (List.getElem?_eq_some_iff.mp hj).1
                rw [List.length_map, hnI] at hjl
                have ej : L[j]? = some L[j] := List.getElem?_eq_getElem hjl
                have edr : L.drop j = L[j] :: L.drop (j + 1) := List.drop_eq_getElem_cons hjl
                generalize L[j] = x at ej edr
                have ey : y = .int (x : Int) := by
                  unfold natI at hj
                  rw [List.getElem?_map, List.getElem?_map, ej] at hj
                  exact (Option.some.inj hj).symm
                subst ey
                rw [edr] at cyj
                have hx : x < ff.length := cyj.lt x (by simp)
                obtain ⟨e1, e2, e3⟩ := hat hx
                obtain ⟨h1, cs⟩ := Cy.step hlt cyj
                have eas : Dn ++ L.take j ++ [x] = Dn ++ L.take (j + 1) := by rw [List.take_add_one, ej, List.append_assoc]; rfl
                rw [eas] at cs
                have hxn : x ∉ Dn ++ L.take j := fun h => (List.nodup_append.mp cyj.nd).2.2 _ h _ (by simp) rfl
                have hcn := fun t => (cnt_snoc hx hxn t).2
                rw [eas] at hcn
                have hsx := fun {G : Hp} (sG : Same H G) => hst sG
                refine ⟨_, rfl, _, rfl, _, rfl, a, _, _, _, rfl, rfl, hst s6, atI_nat e2, w', _, _, _, rfl, rfl, SqL.of hw6, atI_nat (WL_get e3), _, _, rfl, rfl, _, rfl, _, rfl, _, rfl, a, _, _, _, rfl, rfl, hst s6, atI_nat e2, w', _, _, _, rfl, rfl, hw6, by rw [WL_len]; exact ix_nat e3, ?_⟩
                have eg : (V.int (((cnt ff (Dn ++ L.take j) (ff.getD x 0) : Nat) : Int) - 1)) = V.int (((cnt ff (Dn ++ L.take (j + 1)) (ff.getD x 0) : Nat) : Int)) := by
                  rw [hcn, if_pos rfl]; congr 1; omega
                dsimp only
                rw [eg, WL_set (g' := cnt ff (Dn ++ L.take (j + 1))) e3 fun t ht => by rw [hcn, if_neg (fun h => ht h.symm)]]
                have s7 : Same H (upd H6 w' (.lst (WL ff.length (cnt ff (Dn ++ L.take (j + 1)))))) := fun b o e => by rw [upd_ne (ne_of_none e hw)]; exact s6 b o e
                have hw7 : upd H6 w' (.lst (WL ff.length (cnt ff (Dn ++ L.take (j + 1))))) w' = some (.lst (WL ff.length (cnt ff (Dn ++ L.take (j + 1))))) := upd_same
                have hla7 : upd H6 w' (.lst (WL ff.length (cnt ff (Dn ++ L.take (j + 1))))) la = some (.lst ((natI L).map V.int)) := by rw [upd_ne nlw]; exact hla6
                have hlt7 : upd H6 w' (.lst (WL ff.length (cnt ff (Dn ++ L.take (j + 1))))) lt = some (.lst ((natI M).map V.int)) := by rw [upd_ne nltw]; exact hlt6
                generalize upd H6 w' (.lst (WL ff.length (cnt ff (Dn ++ L.take (j + 1))))) = H7 at s7 hw7 hla7 hlt7 ⊢
                refine ⟨_, rfl, _, rfl, _, rfl, a, _, _, _, rfl, rfl, hst s7, atI_nat e2, w', _, _, _, rfl, rfl, SqL.of hw7, atI_nat (WL_get e3), rfl, _, rfl, ?_⟩
                by_cases hz : cnt ff (Dn ++ L.take (j + 1)) (ff.getD x 0) = 0
                · rw [if_pos hz] at cs
                  have hd : decide (V.int ((cnt ff (Dn ++ L.take (j + 1)) (ff.getD x 0) : Nat) : Int) = V.int 0) = true := by rw [hz]; rfl
                  refine ite2 (fun _ => ?_) (fun h => absurd hd h)
                  have hlen := cs.len
                  have e9 : ((List.drop (j + 1) L).append M).length = (List.drop (j + 1) L).length + M.length := List.length_append
                  rw [List.length_append, List.length_append, e9] at hlen
                  refine ⟨_, rfl, .inl ⟨rfl, _, SqL.of hlt7⟩, _, rfl, _, rfl, a, _, _, _, rfl, rfl, hst s7, atI_nat e2, lt, _, _, rfl, rfl, hlt7, by rw [List.length_map, hnI, sizeLine_eq]; omega, ?_⟩
                  refine ⟨M ++ [ff.getD x 0], _, rfl, fun b o e => by rw [upd_ne (ne_of_none e zlt)]; exact s7 b o e, by rw [upd_ne nltla.symm]; exact hla7, by rw [upd_ne nltw.symm]; exact hw7, by rw [upd_same]; unfold natI; rw [List.map_append, List.map_append]; rfl, by rw [← List.append_assoc]; exact cs⟩
                · rw [if_neg hz, List.append_nil] at cs
                  have hd : ¬ decide (V.int ((cnt ff (Dn ++ L.take (j + 1)) (ff.getD x 0) : Nat) : Int) = V.int 0) = true := fun h => hz (by have := of_decide_eq_true h; injection this with this; omega)
                  refine ite2 (fun h => absurd h hd) (fun _ => ?_)
                  exact ⟨M, _, rfl, s7, hla7, hw7, hlt7, cs⟩
              · rintro σ H6 ⟨M, v3, rfl, s6, hla6, hw6, hlt6, cyj⟩
                rw [List.length_map, hnI, List.take_length] at hw6 cyj
                rw [List.drop_length, List.nil_append] at cyj
                have hlen := cyj.len
                rw [List.length_append] at hlen
                refine ⟨_, rfl, ?_⟩
                exact ⟨ff.length - (Dn ++ L).length, by rw [List.length_append]; omega, Dn ++ L, M, lt, ah + 1, _, _, rfl, rfl, s6, hw6, hlt6, nltw, cyj⟩
            · refine ⟨_, rfl, _, rfl, _, rfl, a, w', ff, (List.range ff.length).map fun t => ((cnt ff Dn t : Nat) : Int), rfl, hst s4, SqL.of (by rw [hw4]; unfold WL; rw [List.map_map]; rfl), by rw [List.length_map, List.length_range], h60, hlt, fun c H5 s5 => ?_⟩
              refine ⟨Nat.le_of_ble_eq_true rfl, fun p hp => ?_⟩
              have s05 := s4.trans s5
              exact k p ah c _ (s05.free hp) (s05.trans (same_upd hp)) upd_same
          · rintro σ H' Q1 Q2 hQ ⟨v1, e1, x1, n1, f1, g1, i1, i2, h1, h2, c, h3, h4⟩
            exact ⟨v1, e1, x1, n1, f1, g1, i1, i2, h1, h2, c, h3, hQ _ _ h4⟩
end
end K1
set_option Elab.async false
set_option linter.all false
set_option maxRecDepth 100000
/-! acts.followed, acts.is_act of any value -/
namespace K1
open PySem L2
abbrev sFollow : Stmt := top 14
abbrev sIsAct : Stmt := top 13
def folL (f g : List Nat) : List Nat := f.map fun s => g.getD s 0
def rTuA (K : PySem.W.Frag) : List V → Hp → VK → Prop := fun xs H Q => ∃ p ys, xs = [.ref p] ∧ ((SqL K H p ys ∧ ∀ l, H l = none → Q (.ref l) (upd H l (.tup ys))) ∨ (SqT K H p ys ∧ Q (.ref p) H))
def spFollow (K : PySem.W.Frag) : Sp := fun vs H Q _ => ∃ (a b : Addr) (f g : List Nat), vs = [.ref a, .ref b] ∧ SqT K H a ((natI f).map V.int) ∧ SqT K H b ((natI g).map V.int) ∧ f.length ≤ 1000 ∧ (∀ x ∈ f, x < g.length) ∧
  ∀ (p : Addr) (H' : Hp), H p = none → Same H H' → H' p = some (.tup ((natI (folL f g)).map V.int)) → Q (.ref p) H'
section
variable {P : Program} {w : World} {K : PySem.W.Frag} {mg : Str → Option Value} {base : Heap}
abbrev pFollow : List Str := ["states", "others"]
abbrev nFollow : List Str := ["states", "others", "state"]
theorem scFollow : FnScope nFollow pFollow (defScope sFollow) := ⟨rfl, rfl, rfl, by decide +kernel, rfl, by decide +kernel, by decide +kernel⟩
theorem ok_follow {f : Addr} {fd : FuncData} (D : Df K mg "followed" sFollow pFollow f fd) (T : Bt3 mg) : FnOk P w K mg base CX0 1 f fd pFollow (spFollow K) := by
  refine D.F.ok scFollow (fun vs H Q E h => ?_) (fun cdv A outer s H vs Q E hr h => ?_)
  · obtain ⟨a, b, f', g', rfl, _⟩ := h
    rfl
  · obtain ⟨a, b, ff, gg, rfl, ha, hb, hl, hlt, k⟩ := h
    refine ⟨_, pss_one (ps_ret (pe_callTy (r := rTuA K) call_tuple_of (by rfl) T.tuple PyProof.Rows.boot_tuple (pa_cons (pe_lc (own := [("state", 2)]) (g := gName 2) (by rfl) scFollow.nd (pi_tup (pv 0))
          (blkOk_by (own := [("state", 2)]) (N := nFollow) (sc := defScope sFollow) (by decide +kernel)) (fun _ _ _ _ _ => pg_name (i := 2) scFollow.nd rfl (Or.inl rfl)) (fun _ _ _ _ _ => pts_nil)
          (fun _ _ _ _ _ => pe_ix (r := rIxT K) ix_tup (pv 1) (pv 2) (fun _ _ => rfl))) pa_nil))), ?_⟩
    have hnI : ∀ l : List Nat, (natI l).length = l.length := fun l => List.length_map _
    refine ⟨_, rfl, a, rfl, ⟨_, ha⟩, fun D1 hD => ?_⟩
    refine lc_tup (K := K) (a := a) (xs := (natI ff).map V.int) (fun i H' => Same H H' ∧ H' D1 = some (.lst ((natI ((folL ff gg).take i)).map V.int))) ?_ ?_ ?_ ?_
    · exact ⟨same_upd hD, upd_same⟩
    · exact fun i H' _ q => ha.ext q.1
    · rintro i y H1 hi ⟨s1, hD1⟩
      unfold natI at hi
      rw [List.getElem?_map, List.getElem?_map] at hi
      obtain ⟨z, ez, rfl⟩ := Option.map_eq_some_iff.mp hi
      obtain ⟨x, ex, rfl⟩ := Option.map_eq_some_iff.mp ez
      have hil := (List.getElem?_eq_some_iff.mp ex).1
      have hx := hlt x (List.mem_of_getElem? ex)
      have eg : gg[x]? = some (gg.getD x 0) := by rw [List.getD_eq_getElem?_getD, List.getElem?_eq_getElem hx]; rfl
      have en : (folL ff gg)[i]? = some (gg.getD x 0) := by unfold folL; rw [List.getElem?_map, ex]; rfl
      refine ⟨rfl, _, rfl, _, rfl, b, _, _, V.int ((gg.getD x 0 : Nat) : Int), rfl, rfl, hb.ext s1, atI_nat (by unfold natI; rw [List.getElem?_map, List.getElem?_map, eg]; rfl), ?_⟩
      refine ⟨_, hD1, ?_, fun b' o e => by rw [upd_ne (ne_of_none e hD)]; exact s1 b' o e, ?_⟩
      · rw [List.length_map, hnI, List.length_take, sizeLine_eq]; omega
      · rw [upd_same, List.take_add_one, en]; unfold natI; rw [List.map_append, List.map_append]; rfl
    · rintro H1 ⟨s1, hD1⟩
      rw [List.take_of_length_le (by rw [List.length_map, hnI]; unfold folL; rw [List.length_map]; exact Nat.le_refl _)] at hD1
      refine ⟨D1, _, rfl, .inl ⟨SqL.of hD1, fun l hl' => ?_⟩⟩
      exact k l _ (s1.free hl') (s1.trans (same_upd hl')) upd_same
end
end K1
set_option Elab.async false
set_option linter.all false
set_option maxRecDepth 100000
/-! acts.is_act of any value -/
namespace K1
open PySem L2
theorem Th.kTup {K : PySem.W.Frag} {H : Hp} {v : V} {t : String} (h : Th K H v t) : PySem.W.kitOne K (.type t) (.type "tuple") = some (t == "tuple") := by cases h <;> first | exact kit_ty (r := true) (by decide +kernel) | exact kit_ty (r := false) (by decide +kernel)
/-- is this tuple an act -/
def actB (xs : List V) : Bool := !xs.isEmpty && xs.all fun x => ixB x xs.length
/-- what is_act is asked of: a tuple of things, or something else -/
def AskA (K : PySem.W.Frag) (H : Hp) (v : V) (b : Bool) : Prop :=
  (∃ a xs, v = .ref a ∧ H a = some (.tup xs) ∧ xs.length ≤ 1000 ∧ (∀ x ∈ xs, ∃ t, Th K H x t) ∧ b = actB xs) ∨ ∃ t, Th K H v t ∧ (t == "tuple") = false ∧ b = false
def spIsAct (K : PySem.W.Frag) : Sp := fun vs H Q _ => ∃ (v : V) (b : Bool), vs = [v] ∧ AskA K H v b ∧ ∀ H', Same H H' → Q (.bl b) H'
section
variable {P : Program} {w : World} {K : PySem.W.Frag} {mg : Str → Option Value} {base : Heap}
abbrev nIsAct : List Str := ["states", "state"]
theorem scIsAct : FnScope nIsAct ["states"] (defScope sIsAct) := ⟨rfl, rfl, rfl, by decide +kernel, rfl, by decide +kernel, by decide +kernel⟩
theorem ok_isact {f fX fI : Addr} {fd fdX fdI : FuncData} (D : Df K mg "is_act" sIsAct ["states"] f fd) (DX : Df K mg "is_index" sIsIndex ["value", "many"] fX fdX) (DI : Df K mg "is_integer" sIsInt ["value"] fI fdI) (T : Bt3 mg) : FnOk P w K mg base CX0 3 f fd ["states"] (spIsAct K) := by
  have GX : FnOk P w K mg base CX0 2 fX fdX ["value", "many"] (spIx K) := g_isindex DX DI T
  refine D.F.ok scIsAct (fun vs H Q E h => ?_) (fun cdv A outer s H vs Q E hr h => ?_)
  · obtain ⟨v, b, rfl, _⟩ := h
    rfl
  · obtain ⟨v, b, rfl, hask, k⟩ := h
    refine ⟨_, pss_cons (ps_if (PW.pt (pw_or (pt_not (pt_val (pe_callB call_isi (by rfl) T.isinstance PyProof.Rows.boot_isinstance (pa_cons (pv 0) (pa_cons (pe_bltn (v := .ty "tuple") (by rfl) T.tuple PyProof.Rows.boot_tuple rfl) pa_nil)))))
          (pw_or1 (pt_cmpR op_eq (pe_callB call_len (by rfl) T.len PySem.boot_len (pa_cons (pv 0) pa_nil)) pe_int (nomark _))))) (pss_one (ps_ret pe_bl)) pss_nil)
      (pss_one (ps_ret (pe_callB (cr_all rfl) (by rfl) T.all PyProof.Rows.boot_all (pa_cons (pe_lc (own := [("state", 1)]) (g := gName 1) (by rfl) scIsAct.nd (pi_tup (pv 0))
          (blkOk_by (own := [("state", 1)]) (N := nIsAct) (sc := defScope sIsAct) (by decide +kernel)) (fun _ _ _ _ _ => pg_name (i := 1) scIsAct.nd rfl (Or.inl rfl)) (fun _ _ _ _ _ => pts_nil)
          (fun _ _ _ _ _ => pe_call GX hr rfl DX.g DX.F.kp DX.b .nil pass0 (pa_cons (pv 1) (pa_cons (pe_callB (r := fun xs H Q => ∃ x n, xs = [x] ∧ LenV K x H n ∧ Q (.int n) H) call_len (by rfl) T.len PySem.boot_len (pa_cons (pv 0) pa_nil)) pa_nil)))) pa_nil)))), ?_⟩
    rcases hask with ⟨a, xs, rfl, ha, hl, hth, rfl⟩ | ⟨t, th, ht, rfl⟩
    · have tha : Th K H (.ref a) "tuple" := .tup ha
      refine ⟨_, rfl, _, _, _, _, true, rfl, .ty "tuple", tha.ty, tha.kTup, true, rfl, ?_⟩
      refine iteF ?_
      refine ⟨_, rfl, _, xs.length, rfl, .inr ⟨_, SqT.of ha, rfl⟩, rfl, _, rfl, ?_⟩
      refine ite2 (fun h0 => ?_) (fun h0 => ?_)
      · have e : xs = [] := List.length_eq_zero_iff.mp (by have := of_decide_eq_true h0; injection this with this; omega)
        subst e
        exact k H (Same.refl H)
      · have hne : xs ≠ [] := fun e => h0 (by rw [e]; rfl)
        refine ⟨_, rfl, a, rfl, ⟨_, SqT.of ha⟩, fun D1 hD => ?_⟩
        refine lc_tup (K := K) (a := a) (xs := xs) (fun i H' => Same H H' ∧ H' D1 = some (.lst (((xs.take i).map fun x => ixB x xs.length).map V.bl))) ?_ ?_ ?_ ?_
        · exact ⟨same_upd hD, upd_same⟩
        · exact fun i H' _ q => SqT.of (q.1 _ _ ha)
        · rintro i y H1 hi ⟨s1, hD1⟩
          have hil := (List.getElem?_eq_some_iff.mp hi).1
          obtain ⟨ty, thy⟩ := hth y (List.mem_of_getElem? hi)
          refine ⟨rfl, _, rfl, _, rfl, _, xs.length, rfl, .inr ⟨_, SqT.of (s1 _ _ ha), rfl⟩, y, ty, (xs.length : Int), rfl, thy.same s1, ?_⟩
          refine ⟨_, hD1, ?_, fun b' o e => by rw [upd_ne (ne_of_none e hD)]; exact s1 b' o e, ?_⟩
          · rw [List.length_map, List.length_map, List.length_take, sizeLine_eq]; omega
          · rw [upd_same, List.take_add_one, hi, List.map_append, List.map_append]; rfl
        · rintro H1 ⟨s1, hD1⟩
          rw [List.take_length] at hD1
          refine ⟨D1, _, rfl, SqL.of hD1, ?_⟩
          have e : ((xs.map fun x => ixB x xs.length).all id) = actB xs := by
            unfold actB
            have : xs.isEmpty = false := by cases xs with
              | nil => exact absurd rfl hne
              | cons a b => rfl
            rw [this, List.all_map]; rfl
          rw [e]
          exact k H1 s1
    · have hk := th.kTup
      rw [ht] at hk
      refine ⟨_, rfl, _, _, _, _, false, rfl, .ty "tuple", th.ty, hk, false, rfl, ?_⟩
      refine iteT ?_
      exact k H (Same.refl H)
end
end K1
set_option Elab.async false
set_option linter.all false
set_option maxRecDepth 100000
/-! set(t) of a tuple of ints, as a value -/
namespace L2
open PySem PySem.Spec PyProof.Rows
def rSetV (K : PySem.W.Frag) (w : World) : List V → Hp → VK → Prop := fun xs H Q => ∃ (p : Addr) (ns : List Int), xs = [.ref p] ∧ SqT K H p (ns.map V.int) ∧ ns.length ≤ 1000 ∧
  ∀ (q : Addr) (c : Nat), H q = none → c ≤ ns.length → Q (.ref q) (upd H q (SetO w q (fun j => decide (j ∈ ns)) c))
theorem cr_setV {X : Cx} (hc : X.calm = true) : CallR X (.type "set") (rSetV X.K X.w) := by
  intro pins s σ H xs us Q I r h
  obtain ⟨p0, ns, rfl, hq, hl, q⟩ := h
  cases r with
  | cons r rr =>
    cases rr
    cases r
    obtain ⟨its, rv, pt, hz⟩ := I.tuple hq
    have hi : IntsAre its.toArray.toList ns := ints_of_vals rv
    refine call_set_tupI ns (I.ok.hd hc) (show s.heap.IsTuple p0 its.toArray from pt) hi (by unfold scanBound; omega) fun h' tk c R1 hcn k => ?_
    exact ⟨.ref _, upd H s.heap.objs.size (SetO X.w s.heap.objs.size (fun j => decide (j ∈ ns)) c), I.laid (t' := tk) k (Nat.le_refl _) (setO_new R1), rfl, q _ c (I.hok.fresh (Nat.le_refl _)) hcn⟩
end L2
set_option Elab.async false
set_option linter.all false
set_option maxRecDepth 100000
set_option maxHeartbeats 1000000
/-! an Act, made -/
namespace K1
open PySem L2
abbrev sAInit : Stmt := inClass (top 12) 0
def af (a im : Addr) (r : Int) (sw : Bool) (cy : Addr) : List (Str × V) := putF "cycle" (.ref cy) (putF "is_swap" (.bl sw) (putF "rank" (.int r) (putF "image" (.ref im) (putF "states" (.ref a) []))))
structure Tac (K : PySem.W.Frag) (mg : Str → Option Value) (C : Addr) : Prop where
  cl : Cls K C
  nS : NoAttr K C "states"
  nI : NoAttr K C "image"
  nR : NoAttr K C "rank"
  nW : NoAttr K C "is_swap"
  nC : NoAttr K C "cycle"
  mgC : mg "Act" = some (.ref C)
/-- an act of the states f at x -/
def ActAt (K : PySem.W.Frag) (C : Addr) (H : Hp) (x : Addr) (f : List Nat) : Prop :=
  ∃ (dx a im cy : Addr) (is : List Int) (c1 c2 : Int), H x = some (.ins C dx (af a im (is.length : Int) (decide (is.length = f.length)) cy)) ∧ SqT K H a ((natI f).map V.int) ∧ H im = some (.tup (is.map V.int)) ∧ is.Pairwise (· < ·) ∧ (∀ k : Int, k ∈ is ↔ k ∈ natI f) ∧ H cy = some (.tup [.int c1, .int c2])
/-- states of an act -/
def ActOk (f : List Nat) : Prop := 1 ≤ f.length ∧ f.length ≤ 60 ∧ ∀ x ∈ f, x < f.length
theorem sqT_updI {K : PySem.W.Frag} {H : Hp} {a x C dx : Addr} {xs : List V} {fs : List (Str × V)} {o : HO} (h : SqT K H a xs) (hx : H x = some (.ins C dx fs)) : SqT K (upd H x o) a xs := by
  rcases h with (h | ⟨ob, h⟩) | h
  · exact .inl (.inl (by rw [upd_ne (ne_of h hx (by intro z; cases z))]; exact h))
  · exact .inl (.inr ⟨ob, by rw [upd_ne (ne_of h hx (by intro z; cases z))]; exact h⟩)
  · exact .inr h
theorem keptSelf {x : Addr} {H : Hp} {o : HO} : Kept x H (L2.upd H x o) := fun b u e n => by rw [upd_ne n]; exact e
theorem g_si : ¬ (("states" : Str) = "image") := by decide +kernel
theorem g_sr : ¬ (("states" : Str) = "rank") := by decide +kernel
theorem g_sw : ¬ (("states" : Str) = "is_swap") := by decide +kernel
theorem g_ri : ¬ (("rank" : Str) = "is_swap") := by decide +kernel
def spAInit (K : PySem.W.Frag) (C CB : Addr) : Sp := fun vs H Q E => ∃ (x dx : Addr) (v : V) (b : Bool), vs = [.ref x, v] ∧ H x = some (.ins C dx []) ∧ AskA K H v b ∧
  (b = false → Rs CB ["states"] [v] H E) ∧
  (b = true → ∃ (a : Addr) (f : List Nat), v = .ref a ∧ SqT K H a ((natI f).map V.int) ∧ ActOk f ∧ ∀ H', ActAt K C H' x f → Kept x H H' → Q .non H')
section
variable {P : Program} {w : World} {K : PySem.W.Frag} {mg : Str → Option Value} {base : Heap}
abbrev pAInit : List Str := ["self", "states"]
theorem scAInit : FnScope pAInit pAInit (defScope sAInit) := ⟨rfl, rfl, rfl, by decide +kernel, rfl, by decide +kernel, by decide +kernel⟩
theorem ok_ainit {C CB f fA fX fI fY fR fB : Addr} {fd fdA fdX fdI fdY fdR fdB : FuncData} (F : Fun K "__init__" "Act.__init__" sAInit f fd) (M : Tac K mg C) (T : Bt3 mg) (hst : mg "set" = none) (hso : mg "sorted" = none) (hl : mg "lcm" = some (.builtin "math.lcm"))
    (DA : Df K mg "is_act" sIsAct ["states"] fA fdA) (DX : Df K mg "is_index" sIsIndex ["value", "many"] fX fdX) (DI : Df K mg "is_integer" sIsInt ["value"] fI fdI) (DY : Df K mg "cycle_of" sCycle ["states"] fY fdY) (DR : Df K mg "ring_length" sRingL pRingL fR fdR) (O : OBadAct K mg CB fB fdB) :
    FnOk P w K mg base (L2.CX P w) 4 f fd pAInit (spAInit K C CB) := by
  have GA : FnOk P w K mg base CX0 3 fA fdA ["states"] (spIsAct K) := ok_isact DA DX DI T
  have GY : FnOk P w K mg base CX0 2 fY fdY ["states"] (spCycle K) := ok_cycle DY DR T hl
  refine F.okX scAInit (fun vs H Q E h => ?_) (fun cdv A outer s H vs Q E hr h => ?_)
  · obtain ⟨x, dx, v, b, rfl, _⟩ := h
    rfl
  · obtain ⟨x, dx, v, b, rfl, hx, hask, kE, kk⟩ := h
    have hr2 : Room 2 _ := hr.mono (by decide)
    refine ⟨_, pss_cons (ps_if (pt_not (pt_val (pe_call GA hr rfl DA.g DA.F.kp DA.b .nil pass0 (pa_cons (pv 1) pa_nil))))
        (pss_one (ps_raise rfl (takes_of rfl rfl rfl rfl) (pmk_oex O.T O.ini O.tI (ini_BadAct O) hr2 O.b .nil pass0 rfl O.g (pa_cons (pv 1) pa_nil)))) pss_nil)
      (pss_cons (ps_fld (pv 0) (pe_callTy (r := rTuA K) call_tuple_of (by rfl) T.tuple PyProof.Rows.boot_tuple (pa_cons (pv 1) pa_nil)) rfl)
      (pss_cons (ps_fld (pv 0) (pe_callTy (r := rTuA K) call_tuple_of (by rfl) T.tuple PyProof.Rows.boot_tuple (pa_cons (pe_callB (cr_sortedSet rfl) (by rfl) hso (by decide +kernel) (pa_cons (pe_callTy (cr_setV rfl) (by rfl) hst (by decide +kernel) (pa_cons (pv 1) pa_nil)) pa_nil)) pa_nil)) rfl)
      (pss_cons (ps_fld (pv 0) (pe_callB call_len (by rfl) T.len PySem.boot_len (pa_cons (pe_fld (pv 0) rfl) pa_nil)) rfl)
      (pss_cons (ps_fld (pv 0) (pe_cmpR op_eq (pe_fld (pv 0) rfl) (pe_callB call_len (by rfl) T.len PySem.boot_len (pa_cons (pe_fld (pv 0) rfl) pa_nil)) (nomark _)) rfl)
      (pss_one (ps_fld (pv 0) (pe_call GY hr2 rfl DY.g DY.F.kp DY.b .nil pass0 (pa_cons (pe_fld (pv 0) rfl) pa_nil)) rfl)))))), ?_⟩
    refine ⟨_, rfl, v, b, rfl, hask, fun H1 s1 => ⟨b, rfl, ?_⟩⟩
    cases b with
    | false =>
      refine iteT ?_
      refine ⟨_, rfl, ?_⟩
      exact err_read (fs := ["states"]) (by decide) rfl ((kE rfl).same s1)
    | true =>
      obtain ⟨a, ff, rfl, ha, ⟨h1, h60, hlt⟩, k⟩ := kk rfl
      refine iteF ?_
      have hnI : ∀ l : List Nat, (natI l).length = l.length := fun l => List.length_map _
      have hx1 := s1 _ _ hx
      refine ⟨_, rfl, a, _, rfl, .inr ⟨ha.ext s1, ?_⟩⟩
      refine ⟨_, rfl, x, C, dx, _, rfl, hx1, M.cl, M.nS, (by show 0 < 1000; decide), ?_⟩
      have hx2 : upd H1 x (.ins C dx (putF "states" (.ref a) [])) x = some (.ins C dx (putF "states" (.ref a) [])) := upd_same
      have ha2 := sqT_updI (o := .ins C dx (putF "states" (.ref a) [])) (ha.ext s1) hx1
      have k2 : Kept x H (upd H1 x (.ins C dx (putF "states" (.ref a) []))) := (Kept.same s1).trans keptSelf
      generalize upd H1 x (.ins C dx (putF "states" (.ref a) [])) = H2 at hx2 ha2 k2 ⊢
      -- image
      refine ⟨_, rfl, a, natI ff, rfl, ha2, by rw [hnI]; omega, fun q c hq hc => ⟨q, _, c, rfl, upd_same, by rw [hnI] at hc; omega, fun is p hpw hmem hlen hp => ⟨p, _, rfl, .inl ⟨SqL.of upd_same, fun im him => ?_⟩⟩⟩⟩
      have s3 : Same H2 (upd (upd (upd H2 q (SetO (cxOf (L2.CX P w) P w K mg base pAInit "Act.__init__" (defScope sAInit) f cdv A outer s H E).w q (fun j => decide (j ∈ natI ff)) c)) p (.lst (is.map V.int))) im (.tup (is.map V.int))) := (same_upd hq).trans ((same_upd hp).trans (same_upd him))
      have eim : upd (upd (upd H2 q (SetO (cxOf (L2.CX P w) P w K mg base pAInit "Act.__init__" (defScope sAInit) f cdv A outer s H E).w q (fun j => decide (j ∈ natI ff)) c)) p (.lst (is.map V.int))) im (.tup (is.map V.int)) im = some (.tup (is.map V.int)) := upd_same
      have hmem' : ∀ k : Int, k ∈ is ↔ k ∈ natI ff := fun k => by rw [hmem]; exact decide_eq_true_iff
      generalize upd (upd (upd H2 q (SetO (cxOf (L2.CX P w) P w K mg base pAInit "Act.__init__" (defScope sAInit) f cdv A outer s H E).w q (fun j => decide (j ∈ natI ff)) c)) p (.lst (is.map V.int))) im (.tup (is.map V.int)) = H3 at s3 eim ⊢
      have hx3 := s3 _ _ hx2
      have ha3 := ha2.ext s3
      have k3 := k2.trans (Kept.same s3)
      refine ⟨_, rfl, x, C, dx, _, rfl, hx3, M.cl, M.nI, (by show 1 < 1000; decide), ?_⟩
      have hx4 : upd H3 x (.ins C dx (putF "image" (.ref im) (putF "states" (.ref a) []))) x = some (.ins C dx (putF "image" (.ref im) (putF "states" (.ref a) []))) := upd_same
      have ha4 := sqT_updI (o := .ins C dx (putF "image" (.ref im) (putF "states" (.ref a) []))) ha3 hx3
      have ei4 : upd H3 x (.ins C dx (putF "image" (.ref im) (putF "states" (.ref a) []))) im = some (.tup (is.map V.int)) := by rw [upd_ne (ne_of eim hx3 (by intro z; cases z))]; exact eim
      have k4 : Kept x H (upd H3 x (.ins C dx (putF "image" (.ref im) (putF "states" (.ref a) [])))) := k3.trans keptSelf
      generalize upd H3 x (.ins C dx (putF "image" (.ref im) (putF "states" (.ref a) []))) = H4 at hx4 ha4 ei4 k4 ⊢
      -- rank
      refine ⟨_, rfl, x, C, dx, _, V.ref im, rfl, hx4, M.cl, M.nI, (by rw [lookup_putF, if_pos rfl]), _, is.length, rfl, .inr ⟨_, SqT.of ei4, (List.length_map _).symm⟩, _, rfl, x, C, dx, _, rfl, hx4, M.cl, M.nR, (by show 2 < 1000; decide), ?_⟩
      have hx5 : upd H4 x (.ins C dx (putF "rank" (.int (is.length : Int)) (putF "image" (.ref im) (putF "states" (.ref a) [])))) x = some (.ins C dx (putF "rank" (.int (is.length : Int)) (putF "image" (.ref im) (putF "states" (.ref a) [])))) := upd_same
      have ha5 := sqT_updI (o := .ins C dx (putF "rank" (.int (is.length : Int)) (putF "image" (.ref im) (putF "states" (.ref a) [])))) ha4 hx4
      have ei5 : upd H4 x (.ins C dx (putF "rank" (.int (is.length : Int)) (putF "image" (.ref im) (putF "states" (.ref a) [])))) im = some (.tup (is.map V.int)) := by rw [upd_ne (ne_of ei4 hx4 (by intro z; cases z))]; exact ei4
      have k5 : Kept x H (upd H4 x (.ins C dx (putF "rank" (.int (is.length : Int)) (putF "image" (.ref im) (putF "states" (.ref a) []))))) := k4.trans keptSelf
      generalize upd H4 x (.ins C dx (putF "rank" (.int (is.length : Int)) (putF "image" (.ref im) (putF "states" (.ref a) [])))) = H5 at hx5 ha5 ei5 k5 ⊢
      -- is_swap
      refine ⟨_, rfl, x, C, dx, _, V.int (is.length : Int), rfl, hx5, M.cl, M.nR, (by rw [lookup_putF, if_pos rfl]), _, rfl, x, C, dx, _, V.ref a, rfl, hx5, M.cl, M.nS, (by rw [lookup_putF, if_neg g_sr, lookup_putF, if_neg g_si, lookup_putF, if_pos rfl]), _, ff.length, rfl, .inr ⟨_, ha5, by rw [List.length_map, hnI]⟩, rfl, _, rfl, x, C, dx, _, rfl, hx5, M.cl, M.nW, (by show 3 < 1000; decide), ?_⟩
      have esw : decide (V.int (is.length : Int) = V.int (ff.length : Int)) = decide (is.length = ff.length) := by
        by_cases e : is.length = ff.length
        · rw [e]; simp
        · rw [decide_eq_false e]; exact decide_eq_false fun z => e (by injection z with z; omega)
      rw [esw]
      have hx6 : upd H5 x (.ins C dx (putF "is_swap" (.bl (decide (is.length = ff.length))) (putF "rank" (.int (is.length : Int)) (putF "image" (.ref im) (putF "states" (.ref a) []))))) x = some (.ins C dx (putF "is_swap" (.bl (decide (is.length = ff.length))) (putF "rank" (.int (is.length : Int)) (putF "image" (.ref im) (putF "states" (.ref a) []))))) := upd_same
      have ha6 := sqT_updI (o := .ins C dx (putF "is_swap" (.bl (decide (is.length = ff.length))) (putF "rank" (.int (is.length : Int)) (putF "image" (.ref im) (putF "states" (.ref a) []))))) ha5 hx5
      have ei6 : upd H5 x (.ins C dx (putF "is_swap" (.bl (decide (is.length = ff.length))) (putF "rank" (.int (is.length : Int)) (putF "image" (.ref im) (putF "states" (.ref a) []))))) im = some (.tup (is.map V.int)) := by rw [upd_ne (ne_of ei5 hx5 (by intro z; cases z))]; exact ei5
      have k6 : Kept x H (upd H5 x (.ins C dx (putF "is_swap" (.bl (decide (is.length = ff.length))) (putF "rank" (.int (is.length : Int)) (putF "image" (.ref im) (putF "states" (.ref a) [])))))) := k5.trans keptSelf
      generalize upd H5 x (.ins C dx (putF "is_swap" (.bl (decide (is.length = ff.length))) (putF "rank" (.int (is.length : Int)) (putF "image" (.ref im) (putF "states" (.ref a) []))))) = H6 at hx6 ha6 ei6 k6 ⊢
      -- cycle
      refine ⟨_, rfl, x, C, dx, _, V.ref a, rfl, hx6, M.cl, M.nS, (by rw [lookup_putF, if_neg g_sw, lookup_putF, if_neg g_sr, lookup_putF, if_neg g_si, lookup_putF, if_pos rfl]), a, ff, rfl, ha6, h60, hlt, fun cy c1 c2 H7 hcy s7 ecy => ?_⟩
      have hx7 := s7 _ _ hx6
      refine ⟨_, rfl, x, C, dx, _, rfl, hx7, M.cl, M.nC, (by show 4 < 1000; decide), ?_⟩
      exact k _ ⟨dx, a, im, cy, is, c1, c2, upd_same, sqT_updI (ha6.ext s7) hx7, by rw [upd_ne (ne_of (s7 _ _ ei6) hx7 (by intro z; cases z))]; exact s7 _ _ ei6, hpw, hmem', by rw [upd_ne (ne_of ecy hx7 (by intro z; cases z))]; exact ecy⟩ ((k6.trans (Kept.same s7)).trans keptSelf)
end
end K1
set_option Elab.async false
set_option linter.all false
set_option maxRecDepth 100000
/-! a machine made of any parts: the first error, or none -/
namespace L2
open PySem PySem.Spec PyProof.Rows
section
variable {X : Cx} {CX : CXT} {k : Nat} {f C : Addr} {fd : FuncData} {ps : List Str} {sp : Sp} {E : St → XK} {x : Str} {p pos : Pos} {e : Expr} {es : List Expr} {t : TA} {ds : List Value} {dvs : List V}
/-- C(e, ..) where the making may raise, inside a try -/
def tMakeS (C : Addr) (sp : Sp) (dvs : List V) (E : St → XK) (t : TA) : TE := fun σ H Q => t σ H fun vs H1 => ∀ x dx, H1 x = none → H1 dx = none → dx ≠ x →
  sp (.ref x :: (vs ++ dvs)) (upd (upd H1 dx (.own x)) x (.ins C dx [])) (fun v H2 => v = .non ∧ Q (.ref x) H2) (E σ)
theorem run_makeS {pins : List (Addr × Obj)} {u : St} {H : Hp} {s : Shared} {Q : VK} {us : List Value} {vs : List V} (M : Mk X.K C f) (F : FnOk X.prog X.w X.K X.mg X.base CX k f fd ps sp) (hr : Room (k + 1) X.A) (hb : Binds X.K fd ps ds) (hd : Vals dvs ds)
    (hx : PassesAt CX X u (E u)) (I : Inv X pins u H s) (r : Vals vs us)
    (go : ∀ x dx, H x = none → H dx = none → dx ≠ x → sp (.ref x :: (vs ++ dvs)) (upd (upd H dx (.own x)) x (.ins C dx [])) (fun v H2 => v = .non ∧ Q (.ref x) H2) (E u)) :
    wpAny (model X.prog X.w) X.A (call (.ref C) us) (EP X pins u Q) X.xe s := by
  have q0 := go (s.heap.objs.size + 1) s.heap.objs.size (I.hok.fresh (Nat.le_succ _)) (I.hok.fresh (Nat.le_refl _)) (Nat.ne_of_lt (Nat.lt_succ_self _))
  have J := Inv.made (C := C) I
  have rr : Vals (V.ref (s.heap.objs.size + 1) :: (vs ++ dvs)) (Value.ref (s.heap.objs.size + 1) :: (us ++ ds)) := .cons rfl (r.append hd)
  have ln : (Value.ref (s.heap.objs.size + 1) :: us ++ ds).length = ps.length := (F.len _ _ _ _ q0 ▸ rr.length).symm
  have run0 := F.run _ X.stack _ _ ⟨Value.ref (s.heap.objs.size + 1) :: us, []⟩ (Value.ref (s.heap.objs.size + 1) :: (us ++ ds)) _ _ (E u) (hr.make C us []) (J.env0.make C us []) (hb _ (Value.ref (s.heap.objs.size + 1) :: us) J.kIn ln) rr q0
  refine wpAny_call (make_map (f := f) I.kIn M.makes M.init (beq_iff_eq.mp M.fn) (codeAny_mono run0 fun r s' hq' => ?_))
  cases r with
  | error e => exact hx pins _ _ e s' J hq'
  | ok fl =>
    cases fl with
    | ret u =>
      obtain ⟨v, H', I3, rv, ev, q3⟩ := J.after hq'
      subst ev
      exact ⟨rv, V.ref (s.heap.objs.size + 1), H', I3, rfl, q3⟩
    | next => exact hq'.elim
    | brk => exact hq'.elim
    | cont => exact hq'.elim
theorem pe_makeS (M : Mk X.K C f) (F : FnOk X.prog X.w X.K X.mg X.base CX k f fd ps sp) (hr : Room (k + 1) X.A) (hg : Gl X x) (hm : X.mg x = some (.ref C)) (hb : Binds X.K fd ps ds) (hd : Vals dvs ds) (hx : ∀ σ, PassesAt CX X σ (E σ))
    (ha : PA X (e :: es) t) (hdb : (x == ("__debug__" : Str)) = false := by decide) (he : starEach (e :: es) X.env = (false, eval e X.env) :: starEach es X.env := by rfl) (hpl : (backTo pos (starEach es X.env)).any (·.1) = false := by rfl) :
    PE X (.Call (.Name x p) (e :: es) [] pos) (tMakeS C sp dvs E t) := by
  refine ⟨fun pins s u H Q I h => wpAny_Call_Name_kw (ld_glob I hg hm ?_ hdb)⟩
  refine PySem.W.callWith_K (h₀ := X.base) I.ok.mod.kin M.kp (thn (ha.run pos pins s u H _ I h) fun us s1 ⟨vs, H1, I1, r, q⟩ => ⟨I1.kIn, ?_⟩) he hpl
  exact run_makeS M F hr hb hd (hx u) I1 r q
end
end L2
set_option Elab.async false
set_option linter.all false
set_option maxRecDepth 100000
/-! a new dict, locked as soon as it is told; an own * -/
namespace L2
open PySem PySem.Spec PyProof.Rows
section
variable {X : Cx}
/-- an expression's dict, locked from then on -/
def tLockD (t : TE) : TE := fun σ H Q => t σ H fun v H1 => ∃ d u, v = .ref d ∧ H1 d = some u ∧ Mut (some u) ∧ ∀ od, Q v (upd H1 d (.frz od u))
theorem pe_lockD {e : Expr} {t : TE} (h : PE X e t) : PE X e (tLockD t) := by
  refine ⟨fun pins s σ H Q I hw => ?_⟩
  refine thn (h.run pins s σ H _ I hw) fun v s1 ⟨x, H1, I1, r, d, u, ex, hd, mu, q⟩ => ?_
  obtain ⟨od, I2⟩ := I1.lock hd mu
  exact ⟨x, _, I2, r, q od⟩
/-- .. and unlocked behind the statement: a thing that was not there when the def began -/
def tUnlock (H0 : Hp) (t : TS) : TS := fun D σ H => t ⟨fun σ' H' => ∃ d od u, H0 d = none ∧ H' d = some (.frz od u) ∧ D.nx σ' (upd H' d u), fun v H' => ∃ d od u, H0 d = none ∧ H' d = some (.frz od u) ∧ D.rt v (upd H' d u),
  fun σ' H' => ∃ d od u, H0 d = none ∧ H' d = some (.frz od u) ∧ D.bk σ' (upd H' d u), fun σ' H' => ∃ d od u, H0 d = none ∧ H' d = some (.frz od u) ∧ D.ct σ' (upd H' d u)⟩ σ H
theorem ps_unlock {st : Stmt} {t : TS} (h : PS X st t) : PS X st (tUnlock X.H_0 t) := by
  refine ⟨fun pins s σ H D I hw => ?_⟩
  have no : ∀ {d : Addr}, X.H_0 d = none → ∀ o' u', X.H_0 d ≠ some (.frz o' u') := fun e o' u' z => by rw [e] at z; cases z
  refine thn (h.run pins s σ _ _ I hw) fun f s1 q => ?_
  cases f with
  | next => obtain ⟨σ', H', I2, d, od, u, e0, e, q⟩ := q; exact ⟨σ', _, I2.unlock e (no e0), q⟩
  | brk => obtain ⟨σ', H', I2, d, od, u, e0, e, q⟩ := q; exact ⟨σ', _, I2.unlock e (no e0), q⟩
  | cont => obtain ⟨σ', H', I2, d, od, u, e0, e, q⟩ := q; exact ⟨σ', _, I2.unlock e (no e0), q⟩
  | ret v => obtain ⟨x, σ', H', I2, r, d, od, u, e0, e, q⟩ := q; exact ⟨x, σ', _, I2.unlock e (no e0), r, q⟩
end
/-- a binary operator of two instances of the class at C, by the text's own def, that gives a thing -/
structure OwnB (K : PySem.W.Frag) (C f : Addr) (name : Str) : Prop where
  one : PySem.W.selfFirst K C = true
  has : PySem.W.findIn K (.ref C) name = some (some (.ref f))
  fn : PySem.W.isFn K (.ref f) = true
def rOwnB (C : Addr) (sp : Sp) (E : XK) : R2 := fun x y H Q => ∃ a b dx dy fs gs, x = .ref a ∧ y = .ref b ∧ H a = some (.ins C dx fs) ∧ H b = some (.ins C dy gs) ∧ sp [x, y] H (fun v H' => ∃ c, v = .ref c ∧ Q (.ref c) H') E
section
variable {X : Cx} {n : Nat} {CX : CXT} {C f : Addr} {fd : FuncData} {ps : List Str} {sp : Sp} {E : St → XK}
theorem own_callS {A : Around} {pins : List (Addr × Obj)} {s : Shared} {σ : St} {H : Hp} {vs : List V} {us : List Value} {Q : VK} (F : FnOk X.prog X.w X.K X.mg X.base CX n f fd ps sp) (hb : Binds X.K fd ps []) (hx : PassesAt CX X σ (E σ)) (hr : Room n A) (hfr : A.frames = X.A.frames)
    (I : Inv X pins σ H s) (r : Vals vs us) (h : sp vs H Q (E σ)) : wpAny (model X.prog X.w) A (call (.ref f) us) (fun u s' => ∃ v H', Inv X pins σ H' s' ∧ RelV v u ∧ Q v H') X.xe s := by
  have e0 : Env0 X.prog X.w X.K X.mg X.base A X.stack s H := by
    have e := I.env0
    exact ⟨by rw [hfr]; exact e.frames, e.mod, e.bs, e.bsz, e.funs, e.frf, e.hok, e.bare⟩
  have hl := F.len _ _ _ _ h
  refine wpAny_call (codeAny_mono (F.run A X.stack s H ⟨us, []⟩ us vs _ (E σ) hr e0 (by
    have := hb s us I.kIn (by have := r.length; rw [List.append_nil, ← this, hl])
    simpa using this) r h) fun r s' hq => ?_)
  cases r with
  | error e => exact hx pins _ _ e s' I hq
  | ok fl =>
    cases fl with
    | ret w =>
      obtain ⟨z, H', I', rz, q⟩ := I.after hq
      exact ⟨z, H', I', rz, q⟩
    | next => exact False.elim hq
    | brk => exact False.elim hq
    | cont => exact False.elim hq
def tOwnB (C : Addr) (sp : Sp) (E : St → XK) (ta tb : TE) : TE := fun σ H Q => ta σ H fun x H1 => tb σ H1 fun y H2 => rOwnB C sp (E σ) x y H2 Q
theorem pe_ownB {a b : Expr} {ta tb : TE} {pos : Pos} {op : Operator} (O : OwnB X.K C f (PySem.dunder op.info.2)) (F : FnOk X.prog X.w X.K X.mg X.base CX n f fd ps sp) (hr : Room n X.A) (hb : Binds X.K fd ps []) (hx : ∀ σ, PassesAt CX X σ (E σ))
    (ha : PE X a ta) (hbb : PE X b tb) : PE X (.BinOp a op b pos) (tOwnB C sp E ta tb) := by
  refine ⟨fun pins s σ H Q I h => ?_⟩
  refine wpAny_BinOp (binT ha hbb I h fun v u s2 x y H2 I2 rx ry q => ?_)
  obtain ⟨p, q', dx, dy, fs, gs, rfl, rfl, hp, hq', hs⟩ := q
  cases rx
  cases ry
  obtain ⟨mA, J, _⟩ := ins_get I2.hok hp
  obtain ⟨mB, J', _⟩ := ins_get I2.hok hq'
  obtain ⟨od, J, _⟩ := J.look
  obtain ⟨od', J', _⟩ := J'.look
  obtain ⟨m, hF⟩ := I2.fr
  refine PySem.W.binop_K hF I2.ok.mod.kin J J'.type O.one O.has O.fn ?_
  refine wpAny_mono (own_callS (vs := [V.ref p, V.ref q']) F hb (hx σ) hr rfl I2 (.cons rfl (.cons rfl .nil)) hs) (fun u s' q => ?_) fun _ _ e => e
  obtain ⟨z, H', I', rz, c, rfl, q⟩ := q
  cases rz
  exact ⟨.ref c, H', I', rfl, q⟩
end
end L2
set_option Elab.async false
set_option linter.all false
set_option maxRecDepth 100000
/-! Act.__mul__ -/
namespace K1
open PySem L2
abbrev sAMul : Stmt := inClass (top 12) 4
theorem actB_nat {f : List Nat} (h : ActOk f) : actB ((natI f).map V.int) = true := by
  have hl : ((natI f).map V.int).length = f.length := by rw [List.length_map]; exact List.length_map _
  unfold actB
  have h0 : ((natI f).map V.int).isEmpty = false := by
    cases f with
    | nil => exact absurd h.1 (by simp)
    | cons a b => rfl
  rw [h0, hl]
  simp only [Bool.not_false, Bool.true_and, List.all_eq_true]
  intro x hx
  obtain ⟨z, hz, rfl⟩ := List.mem_map.mp hx
  obtain ⟨y, hy, rfl⟩ := List.mem_map.mp hz
  have := h.2.2 y hy
  show (decide (0 ≤ (y : Int)) && decide ((y : Int) < (f.length : Int))) = true
  rw [decide_eq_true (by omega), decide_eq_true (by omega)]; rfl
theorem ask_nat {K : PySem.W.Frag} {H : Hp} {a : Addr} {f : List Nat} (h : ActOk f) (ha : H a = some (.tup ((natI f).map V.int))) : AskA K H (.ref a) true := by
  have hl : ((natI f).map V.int).length = f.length := by rw [List.length_map]; exact List.length_map _
  refine .inl ⟨a, _, rfl, ha, by rw [hl]; have := h.2.1; omega, fun x hx => ?_, (actB_nat h).symm⟩
  obtain ⟨z, _, rfl⟩ := List.mem_map.mp hx
  exact ⟨_, .int z⟩
theorem fol_ok {f g : List Nat} (hf : ActOk f) (hg : ActOk g) (e : f.length = g.length) : ActOk (folL f g) := by
  have hl : (folL f g).length = f.length := List.length_map _
  refine ⟨by rw [hl]; exact hf.1, by rw [hl]; exact hf.2.1, fun x hx => ?_⟩
  obtain ⟨s, hs, rfl⟩ := List.mem_map.mp hx
  have h1 := hf.2.2 s hs
  rw [hl, e]
  rw [e] at h1
  rw [List.getD_eq_getElem?_getD, List.getElem?_eq_getElem h1]
  exact hg.2.2 _ (List.getElem_mem h1)
theorem ActAt.same {K : PySem.W.Frag} {C : Addr} {H H' : Hp} {x : Addr} {f : List Nat} (h : ActAt K C H x f) (s : Same H H') : ActAt K C H' x f := by
  obtain ⟨dx, a, im, cy, is, c1, c2, h1, h2, h3, h4, h5, h6⟩ := h
  exact ⟨dx, a, im, cy, is, c1, c2, s _ _ h1, h2.ext s, s _ _ h3, h4, h5, s _ _ h6⟩
theorem af_states (a im : Addr) (r : Int) (sw : Bool) (cy : Addr) : (af a im r sw cy).lookup ("states" : Str) = some (.ref a) := by
  unfold af
  rw [lookup_putF, if_neg (by decide +kernel), lookup_putF, if_neg g_sw, lookup_putF, if_neg g_sr, lookup_putF, if_neg g_si, lookup_putF, if_pos rfl]
/-- what of a class isinstance asks -/
structure Tia (K : PySem.W.Frag) (C : Addr) : Prop where
  ca : PySem.W.findIn K (.ref C) "__class__" = some (some (.builtin "object.__class__"))
  cs : PySem.W.specialIn K (.builtin "object.__class__") "__get__" = some (some (.builtin "getset_descriptor.__get__"))
  ct : PySem.W.takesIn K (.builtin "object.__class__") = some true
  cm : PySem.W.mroIn K C (.type "object") = some true
def spAMul (K : PySem.W.Frag) (C CU : Addr) : Sp := fun vs H Q E => ∃ (x y : Addr) (f g : List Nat), vs = [.ref x, .ref y] ∧ ActAt K C H x f ∧ ActAt K C H y g ∧ ActOk f ∧ ActOk g ∧
  (f.length ≠ g.length → Rs CU ["many", "most"] [.int (f.length : Int), .int (g.length : Int)] H E) ∧
  (f.length = g.length → ∀ p H', H p = none → Same H H' → ActAt K C H' p (folL f g) → Q (.ref p) H')
section
variable {P : Program} {w : World} {K : PySem.W.Frag} {mg : Str → Option Value} {base : Heap}
abbrev pAMul : List Str := ["self", "other"]
theorem scAMul : FnScope pAMul pAMul (defScope sAMul) := ⟨rfl, rfl, rfl, by decide +kernel, rfl, by decide +kernel, by decide +kernel⟩
theorem ok_amul {C CB CU f fI fF fU : Addr} {fd fdI fdF fdU : FuncData} (F : Fun K "__mul__" "Act.__mul__" sAMul f fd) (M : Tac K mg C) (I : Tia K C) (T : Bt3 mg) (DF : Df K mg "followed" sFollow pFollow fF fdF) (O : OUneven K mg CU fU fdU)
    (MkI : Mk K C fI) (bI : Binds K fdI pAInit []) (GI : FnOk P w K mg base (L2.CX P w) 4 fI fdI pAInit (spAInit K C CB)) : FnOk P w K mg base (L2.CX P w) 6 f fd pAMul (spAMul K C CU) := by
  have GF : FnOk P w K mg base CX0 1 fF fdF pFollow (spFollow K) := ok_follow DF T
  refine F.okX scAMul (fun vs H Q E h => ?_) (fun cdv A outer s H vs Q E hr h => ?_)
  · obtain ⟨x, y, f', g', rfl, _⟩ := h
    rfl
  · obtain ⟨x, y, ff, gg, rfl, ax, ay, of, og, kE, kk⟩ := h
    have hr1 : Room 1 _ := hr.mono (by decide)
    have hr2 : Room 2 _ := hr.mono (by decide)
    have hr5 : Room 5 _ := hr.mono (by decide)
    refine ⟨_, pss_cons (ps_if (pt_not (pt_val (pe_callB call_isi (by rfl) T.isinstance PyProof.Rows.boot_isinstance (pa_cons (pv 1) (pa_cons (pe_glob (v := .ref C) rfl M.mgC rfl) pa_nil))))) pss_never pss_nil)
      (pss_cons (ps_if (pt_cmpR op_ne (pe_callB call_len (by rfl) T.len PySem.boot_len (pa_cons (pe_fld (pv 0) rfl) pa_nil)) (pe_callB call_len (by rfl) T.len PySem.boot_len (pa_cons (pe_fld (pv 1) rfl) pa_nil)) (nomark _))
        (pss_one (ps_raise rfl (takes_of rfl rfl rfl rfl) (pmk_oex O.T O.ini O.tI (ini_Uneven O) hr2 O.b .nil pass0 rfl O.g (pa_cons (pe_callB call_len (by rfl) T.len PySem.boot_len (pa_cons (pe_fld (pv 0) rfl) pa_nil)) (pa_cons (pe_callB call_len (by rfl) T.len PySem.boot_len (pa_cons (pe_fld (pv 1) rfl) pa_nil)) pa_nil))))) pss_nil)
      (pss_one (ps_ret (pe_makeS MkI GI hr5 rfl M.mgC bI .nil (fun σ => passAt (takes_of rfl rfl rfl rfl) σ) (pa_cons (pe_call GF hr1 rfl DF.g DF.F.kp DF.b .nil pass0 (pa_cons (pe_fld (pv 0) rfl) (pa_cons (pe_fld (pv 1) rfl) pa_nil))) pa_nil))))), ?_⟩
    obtain ⟨dx, a, im, cy, is, c1, c2, hx, ha, _⟩ := id ax
    obtain ⟨dy, b, im2, cy2, is2, c3, c4, hy, hb, _⟩ := id ay
    have hnI : ∀ l : List Nat, (natI l).length = l.length := fun l => List.length_map _
    have la : LenV K (.ref a) H ff.length := .inr ⟨_, ha, by rw [List.length_map, hnI]⟩
    have lb : LenV K (.ref b) H gg.length := .inr ⟨_, hb, by rw [List.length_map, hnI]⟩
    refine ⟨_, rfl, _, _, .ref C, .ref C, true, rfl, .own C, .base (.ins hy M.cl I.ca I.cs I.ct I.cm), by simp [PySem.W.kitOne], true, rfl, ?_⟩
    refine iteF ?_
    refine ⟨_, rfl, x, C, dx, _, V.ref a, rfl, hx, M.cl, M.nS, af_states _ _ _ _ _, _, ff.length, rfl, la, _, rfl, y, C, dy, _, V.ref b, rfl, hy, M.cl, M.nS, af_states _ _ _ _ _, _, gg.length, rfl, lb, rfl, _, rfl, ?_⟩
    by_cases e : ff.length = gg.length
    · refine ite2 (fun h => absurd h (by rw [e]; simp)) (fun _ => ?_)
      refine ⟨_, rfl, x, C, dx, _, V.ref a, rfl, hx, M.cl, M.nS, af_states _ _ _ _ _, _, rfl, y, C, dy, _, V.ref b, rfl, hy, M.cl, M.nS, af_states _ _ _ _ _, a, b, ff, gg, rfl, ha, hb, by have := of.2.1; omega, fun z hz => by rw [← e]; exact of.2.2 z hz, fun p H1 hp s1 ep => ?_⟩
      (try delta tNil)
      intro z dz hz hdz ndz
      have s2 : Same H1 (upd (upd H1 dz (.own z)) z (.ins C dz [])) := fun b o e => by rw [upd_ne (ne_of_none e hz), upd_ne (ne_of_none e hdz)]; exact e
      have ok := fol_ok of og e
      have zz : H z = none := s1.free hz
      refine ⟨z, dz, .ref p, true, rfl, upd_same, ask_nat ok (s2 _ _ ep), (fun h => by cases h), fun _ => ⟨p, folL ff gg, rfl, SqT.of (s2 _ _ ep), ok, fun H' hm hk => ⟨rfl, kk e z H' zz (fun b o e => hk b o (s2 _ _ (s1 _ _ e)) (ne_of_none e zz)) hm⟩⟩⟩
    · refine ite2 (fun _ => ?_) (fun h => absurd (by simp; omega) h)
      refine ⟨_, rfl, x, C, dx, _, V.ref a, rfl, hx, M.cl, M.nS, af_states _ _ _ _ _, _, ff.length, rfl, la, _, rfl, y, C, dy, _, V.ref b, rfl, hy, M.cl, M.nS, af_states _ _ _ _ _, _, gg.length, rfl, lb, ?_⟩
      exact err_read (fs := ["many", "most"]) (by decide) rfl (kE e)
end
end K1
set_option Elab.async false
set_option linter.all false
set_option maxRecDepth 100000
/-! Act.times -/
namespace K1
open PySem L2
abbrev sATimes : Stmt := inClass (top 12) 7
def powL (f : List Nat) : Nat → List Nat
  | 0 => List.range f.length
  | k + 1 => folL (powL f k) f
theorem fol_len (a b : List Nat) : (folL a b).length = a.length := List.length_map _
theorem fol_id {g : List Nat} {n : Nat} (h : g.length = n) : folL (List.range n) g = g := by
  refine List.ext_getElem? fun i => ?_
  unfold folL
  by_cases hi : i < n
  · rw [List.getElem?_map, List.getElem?_range hi, List.getElem?_eq_getElem (by rw [h]; exact hi)]
    show some (g.getD i 0) = _
    rw [List.getD_eq_getElem?_getD, List.getElem?_eq_getElem (by rw [h]; exact hi)]; rfl
  · rw [List.getElem?_eq_none (by rw [List.length_map, List.length_range]; omega), List.getElem?_eq_none (by omega)]
theorem fol_range {g : List Nat} {n : Nat} (h : ∀ x ∈ g, x < n) : folL g (List.range n) = g := by
  unfold folL
  conv => rhs; rw [← List.map_id g]
  refine List.map_congr_left fun x hx => ?_
  rw [List.getD_eq_getElem?_getD, List.getElem?_range (h x hx)]; rfl
theorem fol_assoc {a b c : List Nat} (h : ∀ x ∈ a, x < b.length) : folL (folL a b) c = folL a (folL b c) := by
  unfold folL
  rw [List.map_map]
  refine List.map_congr_left fun x hx => ?_
  show c.getD (b.getD x 0) 0 = (b.map fun s => c.getD s 0).getD x 0
  have hb := h x hx
  rw [List.getD_eq_getElem?_getD (l := b.map _), List.getElem?_map, List.getElem?_eq_getElem hb, List.getD_eq_getElem?_getD (l := b), List.getElem?_eq_getElem hb]; rfl
theorem pow_ok {f : List Nat} (h : ActOk f) : ∀ k, ActOk (powL f k) ∧ (powL f k).length = f.length
  | 0 => ⟨⟨by show 1 ≤ (List.range f.length).length; rw [List.length_range]; exact h.1, by show (List.range f.length).length ≤ 60; rw [List.length_range]; exact h.2.1, fun x hx => by
      show x < (List.range f.length).length
      rw [List.length_range]; exact List.mem_range.mp hx⟩, List.length_range⟩
  | k + 1 => by
    obtain ⟨h1, h2⟩ := pow_ok h k
    exact ⟨fol_ok h1 h h2, by show (folL (powL f k) f).length = _; rw [fol_len, h2]⟩
theorem pow_add {f : List Nat} (h : ActOk f) (a : Nat) : ∀ b, powL f (a + b) = folL (powL f a) (powL f b)
  | 0 => by
    obtain ⟨h1, h2⟩ := pow_ok h a
    show powL f a = folL (powL f a) (List.range f.length)
    rw [fol_range fun x hx => by rw [← h2]; exact h1.2.2 x hx]
  | b + 1 => by
    obtain ⟨h1, h2⟩ := pow_ok h a
    obtain ⟨h3, h4⟩ := pow_ok h b
    show folL (powL f (a + b)) f = folL (powL f a) (folL (powL f b) f)
    rw [pow_add h a b, fol_assoc fun x hx => by rw [h4, ← h2]; exact h1.2.2 x hx]
theorem eRg (n : Nat) : rgV 0 n = (natI (List.range n)).map V.int := by
  unfold rgV
  rw [show ((n : Int) - 0).toNat = n by omega]
  show _ = (List.map _ (List.range n)).map V.int
  rw [List.map_map]
  refine List.map_congr_left fun z _ => ?_
  show V.int (0 + (z : Int)) = V.int (z : Int)
  rw [Int.zero_add]
def numT : V → Bool
  | .int i => decide (0 ≤ i) && decide (i ≤ 10 ^ 30)
  | _ => false
def spATimes (K : PySem.W.Frag) (C CN : Addr) : Sp := fun vs H Q E => ∃ (x : Addr) (v : V) (t : String) (f : List Nat), vs = [.ref x, v] ∧ ActAt K C H x f ∧ ActOk f ∧ Th K H v t ∧ (numT v = false → Rs CN ["number"] [v] H E) ∧
  (∀ n : Nat, v = .int (n : Int) → numT v = true → ∀ p H', H p = none → Same H H' → ActAt K C H' p (powL f n) → Q (.ref p) H')
section
variable {P : Program} {w : World} {K : PySem.W.Frag} {mg : Str → Option Value} {base : Heap}
abbrev pATimes : List Str := ["self", "number"]
abbrev nATimes : List Str := ["self", "number", "done", "power", "left"]
theorem scATimes : FnScope nATimes pATimes (defScope sATimes) := ⟨rfl, rfl, rfl, by decide +kernel, rfl, by decide +kernel, by decide +kernel⟩
theorem ok_atimes {C CB CN f fI fF fN fG : Addr} {fd fdI fdF fdN fdG : FuncData} (F : Fun K "times" "Act.times" sATimes f fd) (M : Tac K mg C) (T : Bt3 mg) (DG : Df K mg "is_integer" sIsInt ["value"] fG fdG) (DF : Df K mg "followed" sFollow pFollow fF fdF) (O : OBadNumber K mg CN fN fdN)
    (hrg : mg "range" = none) (hMT : ∃ t, mg "MOST_TIMES" = some (.int (10 ^ 30) t)) (MkI : Mk K C fI) (bI : Binds K fdI pAInit []) (GI : FnOk P w K mg base (L2.CX P w) 4 fI fdI pAInit (spAInit K C CB)) : FnOk P w K mg base (L2.CX P w) 6 f fd pATimes (spATimes K C CN) := by
  have GF : FnOk P w K mg base CX0 1 fF fdF pFollow (spFollow K) := ok_follow DF T
  have GG : FnOk P w K mg base CX0 1 fG fdG ["value"] (spInt K) := g_isint DG T
  refine F.okX scATimes (fun vs H Q E h => ?_) (fun cdv A outer s H vs Q E hr h => ?_)
  · obtain ⟨x, v, t, f', rfl, _⟩ := h
    rfl
  · obtain ⟨x, v, t, ff, rfl, ax, of, th, kE, kk⟩ := h
    obtain ⟨tT, gT⟩ := hMT
    have hr1 : Room 1 _ := hr.mono (by decide)
    have hr2 : Room 2 _ := hr.mono (by decide)
    have hr5 : Room 5 _ := hr.mono (by decide)
    refine ⟨_, pss_cons (ps_if (PW.pt (pw_or (pt_not (pt_val (pe_call GG hr1 rfl DG.g DG.F.kp DG.b .nil pass0 (pa_cons (pv 1) pa_nil))))
          (pw_or1 (pt_not (pt_chain op_le op_le pe_int (pv 1) (pe_glob (v := .int (10 ^ 30)) rfl gT ⟨_, rfl⟩))))))
        (pss_one (ps_raise rfl (takes_of rfl rfl rfl rfl) (pmk_oex O.T O.ini O.tI (ini_BadNumber O) hr2 O.b .nil pass0 rfl O.g (pa_cons (pv 1) pa_nil)))) pss_nil)
      (pss_cons (ps_set (i := 2) scATimes.nd rfl (Or.inl rfl) (pe_tupRg rfl rfl T.tuple (prg_1 rfl hrg (pe_callB call_len (by rfl) T.len PySem.boot_len (pa_cons (pe_fld (pv 0) rfl) pa_nil)))))
      (pss_cons (ps_set (i := 3) scATimes.nd rfl (Or.inl rfl) (pe_fld (pv 0) rfl))
      (pss_cons (ps_set (i := 4) scATimes.nd rfl (Or.inl rfl) (pv 1))
      (pss_cons (ps_while (passes_of rfl) (pt_cmpR op_gt (pv 4) pe_int (nomark _))
        (pss_cons (ps_if (pt_cmpR op_eq (pe_op op_mod (pv 4) pe_int) pe_int (nomark _)) (pss_one (ps_set (i := 2) scATimes.nd rfl (Or.inl rfl) (pe_call GF hr1 rfl DF.g DF.F.kp DF.b .nil pass0 (pa_cons (pv 2) (pa_cons (pv 3) pa_nil))))) pss_nil)
        (pss_cons (ps_set (i := 3) scATimes.nd rfl (Or.inl rfl) (pe_call GF hr1 rfl DF.g DF.F.kp DF.b .nil pass0 (pa_cons (pv 3) (pa_cons (pv 3) pa_nil))))
        (pss_one (ps_set (i := 4) scATimes.nd rfl (Or.inl rfl) (pe_op op_fdivNN (pv 4) pe_int))))))
      (pss_one (ps_ret (pe_makeS MkI GI hr5 rfl M.mgC bI .nil (fun σ => passAt (takes_of rfl rfl rfl rfl) σ) (pa_cons (pv 2) pa_nil)))))))), ?_⟩
    obtain ⟨dx, a, im, cy, is, c1, c2, hx, ha, _⟩ := id ax
    have hnI : ∀ l : List Nat, (natI l).length = l.length := fun l => List.length_map _
    have la : LenV K (.ref a) H ff.length := .inr ⟨_, ha, by rw [List.length_map, hnI]⟩
    refine ⟨_, rfl, v, t, rfl, th, ?_⟩
    refine ⟨intB v, rfl, ?_⟩
    cases hv : intB v with
    | false =>
      have hn : numT v = false := by cases v <;> first | rfl | cases hv
      refine iteT ?_
      exact ⟨_, rfl, err_read (fs := ["number"]) (by decide) rfl (kE hn)⟩
    | true =>
    obtain ⟨i, rfl⟩ : ∃ i, v = .int i := by cases v <;> first | exact ⟨_, rfl⟩ | cases hv
    refine iteF ?_
    refine ⟨_, rfl, _, _, rfl, rfl, _, rfl, ?_⟩
    refine ite2 (fun h0 => ?_) (fun h0 => ?_)
    · refine ⟨_, _, rfl, rfl, _, rfl, ?_⟩
      have h0' : 0 ≤ i := of_decide_eq_true h0
      refine ite2 (fun h1 => ?_) (fun h1 => ?_)
      · have hn : numT (.int i) = false := by
          show (decide (0 ≤ i) && decide (i ≤ 10 ^ 30)) = false
          rw [h0]
          revert h1
          cases decide (i ≤ 10 ^ 30) <;> simp
        exact ⟨_, rfl, err_read (fs := ["number"]) (by decide) rfl (kE hn)⟩
      · have h1' : i ≤ 10 ^ 30 := by
          revert h1
          cases hd : decide (i ≤ 10 ^ 30) with
          | true => exact fun _ => of_decide_eq_true hd
          | false => exact fun z => absurd rfl z
        have hn : numT (.int i) = true := by
          show (decide (0 ≤ i) && decide (i ≤ 10 ^ 30)) = true
          rw [decide_eq_true h0', decide_eq_true h1']; rfl
        obtain ⟨n, rfl⟩ : ∃ n : Nat, i = (n : Int) := ⟨i.toNat, by omega⟩
        have h60 := of.2.1
        refine ⟨_, rfl, x, C, dx, _, V.ref a, rfl, hx, M.cl, M.nS, af_states _ _ _ _ _, _, ff.length, rfl, la, _, rfl, RgOk.of_le (by omega) (by omega) (by omega) (by omega), fun d hd => ?_⟩
        have s1 : Same H (upd H d (.tup (rgV 0 ff.length))) := same_upd hd
        have hD : upd H d (.tup (rgV 0 ff.length)) d = some (.tup ((natI (powL ff 0)).map V.int)) := by
          rw [upd_same, eRg]; rfl
        generalize upd H d (.tup (rgV 0 ff.length)) = H1 at s1 hD ⊢
        refine ⟨_, rfl, x, C, dx, _, V.ref a, rfl, s1 _ _ hx, M.cl, M.nS, af_states _ _ _ _ _, _, rfl, ?_⟩
        have p1 : powL ff 1 = ff := fol_id rfl
        refine while_ix (fun m σ H' => ∃ (d p : Addr) (j k : Nat), σ = [some (.ref x), some (.int n), some (.ref d), some (.ref p), some (.int m)] ∧ Same H H' ∧ H' d = some (.tup ((natI (powL ff j)).map V.int)) ∧ SqT K H' p ((natI (powL ff k)).map V.int) ∧ j + k * m = n) n ?_ ?_ ?_
        · exact ⟨d, a, 0, 1, rfl, s1, hD, by rw [p1]; exact ha.ext s1, by omega⟩
        · rintro m σ H2 ⟨d', p', j, k, rfl, s2, qd, qp, e⟩
          obtain ⟨ok1, ol1⟩ := pow_ok of j
          obtain ⟨ok2, ol2⟩ := pow_ok of k
          have half : ∀ q, (k + k) * q = 2 * (k * q) := fun q => by rw [Nat.add_mul, Nat.two_mul]
          refine ⟨_, rfl, _, _, rfl, rfl, _, rfl, ?_⟩
          refine ite2 (fun hg => ?_) (fun hg => ?_)
          · have hm : 0 < m := by have := of_decide_eq_true hg; omega
            refine ⟨_, rfl, _, _, rfl, rfl, (by show (0:Int) < 2; decide), rfl, _, rfl, ?_⟩
            refine ite2 (fun ho => ?_) (fun ho => ?_)
            · have hmo : m % 2 = 1 := by have := of_decide_eq_true ho; injection this with this; omega
              refine ⟨_, rfl, _, rfl, d', p', powL ff j, powL ff k, rfl, SqT.of qd, qp, by omega, fun z hz => by rw [ol2, ← ol1]; exact ok1.2.2 z hz, fun r H3 hr s3 er => ?_⟩
              refine ⟨_, rfl, _, rfl, p', p', powL ff k, powL ff k, rfl, qp.ext s3, qp.ext s3, by omega, fun z hz => ok2.2.2 z hz, fun r2 H4 hr2 s4 er2 => ?_⟩
              refine ⟨_, rfl, m, 2, rfl, rfl, ⟨by decide, by decide⟩, ?_⟩
              refine ⟨m / 2, by omega, r, r2, j + k, k + k, rfl, s2.trans (s3.trans s4), by rw [pow_add of]; exact s4 _ _ er, by rw [pow_add of]; exact SqT.of er2, ?_⟩
              obtain ⟨q, rfl⟩ : ∃ q, m = 2 * q + 1 := ⟨m / 2, by omega⟩
              have e1 : k * (2 * q + 1) = 2 * (k * q) + k := by rw [Nat.mul_add, Nat.mul_one, Nat.mul_left_comm]
              rw [show (2 * q + 1) / 2 = q by omega, half]
              omega
            · have hme : m % 2 = 0 := by
                rcases Nat.mod_two_eq_zero_or_one m with z | z
                · exact z
                · exact absurd (decide_eq_true (congrArg V.int (show ((m : Int) % 2) = 1 by omega))) ho
              refine ⟨_, rfl, _, rfl, p', p', powL ff k, powL ff k, rfl, qp, qp, by omega, fun z hz => ok2.2.2 z hz, fun r2 H4 hr2 s4 er2 => ?_⟩
              refine ⟨_, rfl, m, 2, rfl, rfl, ⟨by decide, by decide⟩, ?_⟩
              refine ⟨m / 2, by omega, d', r2, j, k + k, rfl, s2.trans s4, s4 _ _ qd, by rw [pow_add of]; exact SqT.of er2, ?_⟩
              obtain ⟨q, rfl⟩ : ∃ q, m = 2 * q := ⟨m / 2, by omega⟩
              have e1 : k * (2 * q) = 2 * (k * q) := Nat.mul_left_comm _ _ _
              rw [show (2 * q) / 2 = q by omega, half]
              omega
          · have hm : m = 0 := by
              rcases Nat.eq_zero_or_pos m with z | z
              · exact z
              · exact absurd (decide_eq_true (by omega)) hg
            subst hm
            obtain rfl : j = n := by omega
            refine ⟨_, rfl, ?_⟩
            (try delta tNil)
            intro z dz hz hdz ndz
            have s3 : Same H2 (upd (upd H2 dz (.own z)) z (.ins C dz [])) := fun b o e => by rw [upd_ne (ne_of_none e hz), upd_ne (ne_of_none e hdz)]; exact e
            have zz : H z = none := s2.free hz
            refine ⟨z, dz, .ref d', true, rfl, upd_same, ask_nat ok1 (s3 _ _ qd), (fun h => by cases h), fun _ => ⟨d', powL ff j, rfl, SqT.of (s3 _ _ qd), ok1, fun H' hm hk => ⟨rfl, kk j rfl hn z H' zz (fun b o e => hk b o (s3 _ _ (s2 _ _ e)) (ne_of_none e zz)) hm⟩⟩⟩
        · rintro σ H' Q1 Q2 hQ ⟨v1, e1, i1, i2, h1, h2, c, h3, h4⟩
          exact ⟨v1, e1, i1, i2, h1, h2, c, h3, hQ _ _ h4⟩
    · have hn : numT (.int i) = false := by
        show (decide (0 ≤ i) && _) = false
        rw [Bool.eq_false_iff.mpr h0]; rfl
      refine ⟨_, rfl, ?_⟩
      refine iteT ?_
      exact ⟨_, rfl, err_read (fs := ["number"]) (by decide) rfl (kE hn)⟩
end
end K1
set_option Elab.async false
set_option linter.all false
set_option maxRecDepth 100000
/-! Act.__getitem__ -/
namespace K1
open PySem L2
abbrev sAGet : Stmt := inClass (top 12) 5
def spAGet (K : PySem.W.Frag) (C CS : Addr) : Sp := fun vs H Q E => ∃ (x : Addr) (v : V) (t : String) (f : List Nat), vs = [.ref x, v] ∧ ActAt K C H x f ∧ ActOk f ∧ Th K H v t ∧ (ixB v (f.length : Int) = false → Rs CS ["state"] [v] H E) ∧
  (∀ n : Nat, v = .int (n : Int) → n < f.length → Q (.int ((f.getD n 0 : Nat) : Int)) H)
section
variable {P : Program} {w : World} {K : PySem.W.Frag} {mg : Str → Option Value} {base : Heap}
abbrev pAGet : List Str := ["self", "at"]
theorem scAGet : FnScope pAGet pAGet (defScope sAGet) := ⟨rfl, rfl, rfl, by decide +kernel, rfl, by decide +kernel, by decide +kernel⟩
theorem ok_aget {C CS f fI fX fN : Addr} {fd fdI fdX fdN : FuncData} (F : Fun K "__getitem__" "Act.__getitem__" sAGet f fd) (M : Tac K mg C) (T : Bt3 mg) (DI : Df K mg "is_integer" sIsInt ["value"] fI fdI) (DX : Df K mg "is_index" sIsIndex ["value", "many"] fX fdX) (O : OBadState K mg CS fN fdN) :
    FnOk P w K mg base (L2.CX P w) 6 f fd pAGet (spAGet K C CS) := by
  have GX : FnOk P w K mg base CX0 2 fX fdX ["value", "many"] (spIx K) := g_isindex DX DI T
  refine F.okX scAGet (fun vs H Q E h => ?_) (fun cdv A outer s H vs Q E hr h => ?_)
  · obtain ⟨x, v, t, f', rfl, _⟩ := h
    rfl
  · obtain ⟨x, v, t, ff, rfl, ax, of, th, kE, kk⟩ := h
    have hr2 : Room 2 _ := hr.mono (by decide)
    refine ⟨_, pss_cons (ps_if (pt_not (pt_val (pe_call GX hr2 rfl DX.g DX.F.kp DX.b .nil pass0 (pa_cons (pv 1) (pa_cons (pe_callB call_len (by rfl) T.len PySem.boot_len (pa_cons (pe_fld (pv 0) rfl) pa_nil)) pa_nil)))))
        (pss_one (ps_raise rfl (takes_of rfl rfl rfl rfl) (pmk_oex O.T O.ini O.tI (ini_BadState O) hr2 O.b .nil pass0 rfl O.g (pa_cons (pv 1) pa_nil)))) pss_nil)
      (pss_one (ps_ret (pe_ix (r := rIxT K) ix_tup (pe_fld (pv 0) rfl) (pv 1) (fun _ _ => rfl)))), ?_⟩
    obtain ⟨dx, a, im, cy, is, c1, c2, hx, ha, _⟩ := id ax
    have hnI : ∀ l : List Nat, (natI l).length = l.length := fun l => List.length_map _
    have la : LenV K (.ref a) H ff.length := .inr ⟨_, ha, by rw [List.length_map, hnI]⟩
    refine ⟨_, rfl, _, rfl, x, C, dx, _, V.ref a, rfl, hx, M.cl, M.nS, af_states _ _ _ _ _, _, ff.length, rfl, la, v, t, _, rfl, th, ?_⟩
    refine ⟨_, rfl, ?_⟩
    cases hv : ixB v (ff.length : Int) with
    | false =>
      refine iteT ?_
      exact ⟨_, rfl, err_read (fs := ["state"]) (by decide) rfl (kE hv)⟩
    | true =>
      refine iteF ?_
      obtain ⟨n, rfl, hn⟩ : ∃ n : Nat, v = .int (n : Int) ∧ n < ff.length := by
        cases v with
        | int i =>
          have : (decide (0 ≤ i) && decide (i < (ff.length : Int))) = true := hv
          rw [Bool.and_eq_true] at this
          have h1 := of_decide_eq_true this.1
          have h2 := of_decide_eq_true this.2
          exact ⟨i.toNat, congrArg V.int (by omega), by omega⟩
        | _ => cases hv
      refine ⟨_, rfl, x, C, dx, _, V.ref a, rfl, hx, M.cl, M.nS, af_states _ _ _ _ _, _, rfl, ?_⟩
      have eg : ff[n]? = some (ff.getD n 0) := by rw [List.getD_eq_getElem?_getD, List.getElem?_eq_getElem hn]; rfl
      exact ⟨a, _, _, V.int ((ff.getD n 0 : Nat) : Int), rfl, rfl, ha, atI_nat (by unfold natI; rw [List.getElem?_map, List.getElem?_map, eg]; rfl), kk n rfl hn⟩
end
end K1
set_option Elab.async false
set_option linter.all false
set_option maxRecDepth 100000
/-! Act.__lt__, __le__ -/
namespace K1
open PySem L2
abbrev sALt : Stmt := inClass (top 12) 2
abbrev sALe : Stmt := inClass (top 12) 3
def leB (ns ms : List Int) : Bool := Ob.lexAt (fun j => decide (ns.getD j 0 = ms.getD j 0)) (fun j => decide (ns.getD j 0 ≤ ms.getD j 0)) (decide (ns.length ≤ ms.length)) 0 (min ns.length ms.length)
def spACmp (K : PySem.W.Frag) (C : Addr) (r : List Int → List Int → Bool) : Sp := fun vs H Q _ => ∃ (x y : Addr) (f g : List Nat), vs = [.ref x, .ref y] ∧ ActAt K C H x f ∧ ActAt K C H y g ∧ Q (.bl (r (natI f) (natI g))) H
section
variable {P : Program} {w : World} {K : PySem.W.Frag} {mg : Str → Option Value} {base : Heap}
theorem scALt : FnScope pAMul pAMul (defScope sALt) := ⟨rfl, rfl, rfl, by decide +kernel, rfl, by decide +kernel, by decide +kernel⟩
theorem scALe : FnScope pAMul pAMul (defScope sALe) := ⟨rfl, rfl, rfl, by decide +kernel, rfl, by decide +kernel, by decide +kernel⟩
theorem ok_alt {C f : Addr} {fd : FuncData} (F : Fun K "__lt__" "Act.__lt__" sALt f fd) (M : Tac K mg C) (I : Tia K C) (T : Bt3 mg) : FnOk P w K mg base CX0 1 f fd pAMul (spACmp K C HT.lexLt) := by
  refine F.ok scALt (fun vs H Q E h => ?_) (fun cdv A outer s H vs Q E hr h => ?_)
  · obtain ⟨x, y, f', g', rfl, _⟩ := h
    rfl
  · obtain ⟨x, y, ff, gg, rfl, ax, ay, kk⟩ := h
    refine ⟨_, pss_cons (ps_if (pt_not (pt_val (pe_callB call_isi (by rfl) T.isinstance PyProof.Rows.boot_isinstance (pa_cons (pv 1) (pa_cons (pe_glob (v := .ref C) rfl M.mgC rfl) pa_nil))))) pss_never pss_nil)
      (pss_one (ps_ret (pe_cmpR (op_ltT hr.units0) (pe_fld (pv 0) rfl) (pe_fld (pv 1) rfl) (nomark _)))), ?_⟩
    obtain ⟨dx, a, im, cy, is, c1, c2, hx, ha, _⟩ := id ax
    obtain ⟨dy, b, im2, cy2, is2, c3, c4, hy, hb, _⟩ := id ay
    refine ⟨_, rfl, _, _, .ref C, .ref C, true, rfl, .own C, .base (.ins hy M.cl I.ca I.cs I.ct I.cm), by simp [PySem.W.kitOne], true, rfl, ?_⟩
    refine iteF ?_
    exact ⟨_, rfl, x, C, dx, _, V.ref a, rfl, hx, M.cl, M.nS, af_states _ _ _ _ _, _, rfl, y, C, dy, _, V.ref b, rfl, hy, M.cl, M.nS, af_states _ _ _ _ _, a, b, natI ff, natI gg, rfl, rfl, ha, hb, kk⟩
theorem ok_ale {C f : Addr} {fd : FuncData} (F : Fun K "__le__" "Act.__le__" sALe f fd) (M : Tac K mg C) (I : Tia K C) (T : Bt3 mg) : FnOk P w K mg base CX0 1 f fd pAMul (spACmp K C leB) := by
  refine F.ok scALe (fun vs H Q E h => ?_) (fun cdv A outer s H vs Q E hr h => ?_)
  · obtain ⟨x, y, f', g', rfl, _⟩ := h
    rfl
  · obtain ⟨x, y, ff, gg, rfl, ax, ay, kk⟩ := h
    refine ⟨_, pss_cons (ps_if (pt_not (pt_val (pe_callB call_isi (by rfl) T.isinstance PyProof.Rows.boot_isinstance (pa_cons (pv 1) (pa_cons (pe_glob (v := .ref C) rfl M.mgC rfl) pa_nil))))) pss_never pss_nil)
      (pss_one (ps_ret (pe_cmpR (op_leT hr.units0) (pe_fld (pv 0) rfl) (pe_fld (pv 1) rfl) (nomark _)))), ?_⟩
    obtain ⟨dx, a, im, cy, is, c1, c2, hx, ha, _⟩ := id ax
    obtain ⟨dy, b, im2, cy2, is2, c3, c4, hy, hb, _⟩ := id ay
    refine ⟨_, rfl, _, _, .ref C, .ref C, true, rfl, .own C, .base (.ins hy M.cl I.ca I.cs I.ct I.cm), by simp [PySem.W.kitOne], true, rfl, ?_⟩
    refine iteF ?_
    exact ⟨_, rfl, x, C, dx, _, V.ref a, rfl, hx, M.cl, M.nS, af_states _ _ _ _ _, _, rfl, y, C, dy, _, V.ref b, rfl, hy, M.cl, M.nS, af_states _ _ _ _ _, a, b, natI ff, natI gg, rfl, rfl, ha, hb, kk⟩
end
end K1
set_option Elab.async false
set_option linter.all false
set_option maxRecDepth 100000
/-! own order operators between instances with a dict -/
namespace L2
open PySem PySem.Spec PyProof.Rows
section
variable {X : Cx} {n : Nat} {CX : CXT} {C f : Addr} {fd : FuncData} {ps : List Str} {sp : Sp} {E : XK}
theorem op_cmpOwn {op : CmpOp} (hop : ∀ a b, compareOp op a b = richCompare op a b) (hs : PySem.W.findIn X.K (.ref C) (cmpInfo op).2.1 = some (some (.ref f))) (hf : PySem.W.isFn X.K (.ref f) = true) (F : FnOk X.prog X.w X.K X.mg X.base CX n f fd ps sp) (hr : Room n X.A) (hb : Binds X.K fd ps []) (hx : Passes CX X E) :
    OpR X (compareOp op) (rOwn C sp (fun c => c) E) := by
  intro pins s σ H x y u v Q I rx ry h
  obtain ⟨a, b, dx, dy, fs, gs, rfl, rfl, ha, hb', hs'⟩ := h
  cases rx
  cases ry
  obtain ⟨mA, J, _⟩ := ins_get I.hok ha
  obtain ⟨mB, J', _⟩ := ins_get I.hok hb'
  obtain ⟨od, J, _⟩ := J.look
  obtain ⟨od', J', _⟩ := J'.look
  obtain ⟨m, hF⟩ := I.fr
  rw [hop]
  refine PySem.W.cmp_K (op := op) (tb := .ref C) hr.units0 hF I.ok.mod.kin J J'.type (by simp [PySem.W.notFirst]) hs hf ?_
  refine wpAny_mono (own_call (vs := [V.ref a, V.ref b]) F hb hx hr rfl I (.cons rfl (.cons rfl .nil)) hs') (fun u s' q => ?_) fun _ _ e => e
  obtain ⟨z, H', I', rz, c, rfl, q⟩ := q
  cases rz
  exact ⟨.bl c, H', I', rfl, q⟩
theorem op_ltOwn (hs : PySem.W.findIn X.K (.ref C) "__lt__" = some (some (.ref f))) (hf : PySem.W.isFn X.K (.ref f) = true) (F : FnOk X.prog X.w X.K X.mg X.base CX n f fd ps sp) (hr : Room n X.A) (hb : Binds X.K fd ps []) (hx : Passes CX X E) :
    OpR X (compareOp .Lt) (rOwn C sp (fun c => c) E) := op_cmpOwn (fun _ _ => rfl) hs hf F hr hb hx
theorem op_leOwn (hs : PySem.W.findIn X.K (.ref C) "__le__" = some (some (.ref f))) (hf : PySem.W.isFn X.K (.ref f) = true) (F : FnOk X.prog X.w X.K X.mg X.base CX n f fd ps sp) (hr : Room n X.A) (hb : Binds X.K fd ps []) (hx : Passes CX X E) :
    OpR X (compareOp .LtE) (rOwn C sp (fun c => c) E) := op_cmpOwn (fun _ _ => rfl) hs hf F hr hb hx
end
end L2
set_option Elab.async false
set_option linter.all false
set_option maxRecDepth 100000
/-! own > and >= by the other one's own < and <= -/
namespace EO
open PySem PySem.W PySem.Spec PyProof.Rows L2
theorem entry_gt : entryFor table "object.__gt__" = some Builtin.«object.__gt__» := entryFor_of_tree (by kernel_rfl)
theorem entry_ge : entryFor table "object.__ge__" = some Builtin.«object.__ge__» := entryFor_of_tree (by kernel_rfl)
theorem kind_gt : builtinKind "object.__gt__" = some .slot := by decide +kernel
theorem kind_ge : builtinKind "object.__ge__" = some .slot := by decide +kernel
theorem split_gt : splitId "object.__gt__" = some ("object", "__gt__") := by decide +kernel
theorem split_ge : splitId "object.__ge__" = some ("object", "__ge__") := by decide +kernel
theorem args_gt (a b : Value) : argsOk "object.__gt__" ⟨[a, b], []⟩ := by unfold argsOk; kernel_rfl
theorem args_ge (a b : Value) : argsOk "object.__ge__" ⟨[a, b], []⟩ := by unfold argsOk; kernel_rfl
theorem slot_gt : Slot "object" "__gt__" "object.__gt__" := .of (owner := "object") (n := "__gt__") (by rw [typeLookup_type, builtinLookup_eq_fast]; kernel_rfl) (by decide +kernel) (by decide +kernel) (by decide +kernel)
    (by first | exact .inl (by decide +kernel) | exact .inr (by decide +kernel)) (by rw [isSubtype_type]; kernel_rfl)
theorem slot_ge : Slot "object" "__ge__" "object.__ge__" := .of (owner := "object") (n := "__ge__") (by rw [typeLookup_type, builtinLookup_eq_fast]; kernel_rfl) (by decide +kernel) (by decide +kernel) (by decide +kernel)
    (by first | exact .inl (by decide +kernel) | exact .inr (by decide +kernel)) (by rw [isSubtype_type]; kernel_rfl)
theorem decl_gt : Builtin.«object.__gt__» = fun args => (slotArgs "__gt__" 1 args >>= fun _ => PySem.ret .notImplemented) := rfl
theorem decl_ge : Builtin.«object.__ge__» = fun args => (slotArgs "__ge__" 1 args >>= fun _ => PySem.ret .notImplemented) := rfl
section
variable {prog : Program} {w : World} {A : Around} {E : Value → Shared → Prop} {s : Shared} {K : Frag} {x y C f : Addr} {ox oy : Obj} {od od' : Option Obj}
theorem gt_K {Q : Value → Shared → Prop} (hu : A.units + 1 < cLine) (X : K.In s.heap) (I : InstAt s.heap x ox C od) (J : InstAt s.heap y oy C od')
    (hs : findIn K (.ref C) "__lt__" = some (some (.ref f))) (hf : isFn K (.ref f) = true) (hg : findIn K (.ref C) "__gt__" = some (some (.builtin "object.__gt__"))) (hm : mroIn K C (.type "object") = some true)
    (h : wpAny (model prog w) A (call (.ref f) [.ref y, .ref x]) (fun v s' => ∃ c, v = .bool c ∧ Q (.bool c) s') E s) :
    wpAny (model prog w) A (richCompare .Gt (.ref x) (.ref y)) Q E s := by
  have body : ∀ R : Shared → Prop, R s → wpAny (model prog w) A (call (.builtin "object.__gt__") [.ref x, .ref y]) (fun v s' => v = .notImplemented ∧ R s') E s := by
    intro R hR
    refine wpAny_call ?_
    refine codeAny_call_builtin slot_gt.plain entry_gt ?_
    refine check_obj (id := "object.__gt__") (n := "__gt__") (rest := [.ref y]) (x := x) kind_gt split_gt (args_gt _ _) X I hm ?_
    rw [decl_gt]
    repeat wp_step
    exact ⟨rfl, hR⟩
  have two : wpAny (model prog w) A (tryCompare (.ref y) "__lt__" (.ref x)) (fun r s' => ∃ v, r = some v ∧ Q v s') E s := by
    unfold tryCompare
    refine wpAny_bind (ifBound_K X J hs hf (wpAny_mono h (fun v s' hv => ?_) fun _ _ e => e))
    obtain ⟨c, rfl, hq⟩ := hv
    exact wpAny_pure ⟨_, rfl, hq⟩
  have one : wpAny (model prog w) A (tryCompare (.ref x) "__gt__" (.ref y)) (fun r s' => r = none ∧ wpAny (model prog w) A (tryCompare (.ref y) "__lt__" (.ref x)) (fun r s' => ∃ v, r = some v ∧ Q v s') E s') E s := by
    unfold tryCompare
    refine wpAny_bind (ifBound_B X I hg (slot_gt.bind _) (wpAny_mono (body _ two) (fun v s' hv => ?_) fun _ _ e => e))
    obtain ⟨rfl, hq⟩ := hv
    exact wpAny_pure ⟨rfl, hq⟩
  unfold richCompare
  simp only [oneThing_ref]
  refine wpAny_holding (wpAny_bind (wpAny_cRoomFor (Nat.lt_of_succ_lt hu) ?_))
  refine wpAny_bind (I.type.here (wpAny_bind (J.type.here ?_)))
  split
  · rename_i q
    simp at q
  · refine wpAny_bind (wpAny_pure ?_)
    simp only [Bool.false_eq_true, if_false]
    refine wpAny_bind (wpAny_mono one (fun r s' z => ?_) fun _ _ e => e)
    obtain ⟨rfl, z⟩ := z
    simp only [Bool.not_false, if_true]
    refine wpAny_bind (wpAny_mono z (fun r s' z => ?_) fun _ _ e => e)
    obtain ⟨v, rfl, hq⟩ := z
    exact wpAny_pure hq
theorem ge_K {Q : Value → Shared → Prop} (hu : A.units + 1 < cLine) (X : K.In s.heap) (I : InstAt s.heap x ox C od) (J : InstAt s.heap y oy C od')
    (hs : findIn K (.ref C) "__le__" = some (some (.ref f))) (hf : isFn K (.ref f) = true) (hg : findIn K (.ref C) "__ge__" = some (some (.builtin "object.__ge__"))) (hm : mroIn K C (.type "object") = some true)
    (h : wpAny (model prog w) A (call (.ref f) [.ref y, .ref x]) (fun v s' => ∃ c, v = .bool c ∧ Q (.bool c) s') E s) :
    wpAny (model prog w) A (richCompare .GtE (.ref x) (.ref y)) Q E s := by
  have body : ∀ R : Shared → Prop, R s → wpAny (model prog w) A (call (.builtin "object.__ge__") [.ref x, .ref y]) (fun v s' => v = .notImplemented ∧ R s') E s := by
    intro R hR
    refine wpAny_call ?_
    refine codeAny_call_builtin slot_ge.plain entry_ge ?_
    refine check_obj (id := "object.__ge__") (n := "__ge__") (rest := [.ref y]) (x := x) kind_ge split_ge (args_ge _ _) X I hm ?_
    rw [decl_ge]
    repeat wp_step
    exact ⟨rfl, hR⟩
  have two : wpAny (model prog w) A (tryCompare (.ref y) "__le__" (.ref x)) (fun r s' => ∃ v, r = some v ∧ Q v s') E s := by
    unfold tryCompare
    refine wpAny_bind (ifBound_K X J hs hf (wpAny_mono h (fun v s' hv => ?_) fun _ _ e => e))
    obtain ⟨c, rfl, hq⟩ := hv
    exact wpAny_pure ⟨_, rfl, hq⟩
  have one : wpAny (model prog w) A (tryCompare (.ref x) "__ge__" (.ref y)) (fun r s' => r = none ∧ wpAny (model prog w) A (tryCompare (.ref y) "__le__" (.ref x)) (fun r s' => ∃ v, r = some v ∧ Q v s') E s') E s := by
    unfold tryCompare
    refine wpAny_bind (ifBound_B X I hg (slot_ge.bind _) (wpAny_mono (body _ two) (fun v s' hv => ?_) fun _ _ e => e))
    obtain ⟨rfl, hq⟩ := hv
    exact wpAny_pure ⟨rfl, hq⟩
  unfold richCompare
  simp only [oneThing_ref]
  refine wpAny_holding (wpAny_bind (wpAny_cRoomFor (Nat.lt_of_succ_lt hu) ?_))
  refine wpAny_bind (I.type.here (wpAny_bind (J.type.here ?_)))
  split
  · rename_i q
    simp at q
  · refine wpAny_bind (wpAny_pure ?_)
    simp only [Bool.false_eq_true, if_false]
    refine wpAny_bind (wpAny_mono one (fun r s' z => ?_) fun _ _ e => e)
    obtain ⟨rfl, z⟩ := z
    simp only [Bool.not_false, if_true]
    refine wpAny_bind (wpAny_mono z (fun r s' z => ?_) fun _ _ e => e)
    obtain ⟨v, rfl, hq⟩ := z
    exact wpAny_pure hq
end
end EO
namespace L2
open PySem PySem.Spec PyProof.Rows
section
variable {X : Cx} {n : Nat} {CX : CXT} {C f : Addr} {fd : FuncData} {ps : List Str} {sp : Sp} {E : XK}
/-- x > y, y's own < told -/
def rOwnR (C : Addr) (sp : Sp) (E : XK) : R2 := fun x y H Q => ∃ a b dx dy fs gs, x = .ref a ∧ y = .ref b ∧ H a = some (.ins C dx fs) ∧ H b = some (.ins C dy gs) ∧
  sp [y, x] H (fun v H' => ∃ c, v = .bl c ∧ Q (.bl c) H') E
theorem op_gtOwn (hs : PySem.W.findIn X.K (.ref C) "__lt__" = some (some (.ref f))) (hf : PySem.W.isFn X.K (.ref f) = true) (hg : PySem.W.findIn X.K (.ref C) "__gt__" = some (some (.builtin "object.__gt__"))) (hm : PySem.W.mroIn X.K C (.type "object") = some true)
    (F : FnOk X.prog X.w X.K X.mg X.base CX n f fd ps sp) (hr : Room (n + 1) X.A) (hb : Binds X.K fd ps []) (hx : Passes CX X E) : OpR X (compareOp .Gt) (rOwnR C sp E) := by
  intro pins s σ H x y u v Q I rx ry h
  obtain ⟨a, b, dx, dy, fs, gs, rfl, rfl, ha, hb', hs'⟩ := h
  cases rx
  cases ry
  obtain ⟨mA, J, _⟩ := ins_get I.hok ha
  obtain ⟨mB, J', _⟩ := ins_get I.hok hb'
  obtain ⟨od, J, _⟩ := J.look
  obtain ⟨od', J', _⟩ := J'.look
  show wpAny (model X.prog X.w) X.A (richCompare .Gt (.ref a) (.ref b)) (EP X pins σ Q) X.xe s
  refine EO.gt_K (by have := hr.units; omega) I.kIn J J' hs hf hg hm ?_
  refine wpAny_mono (own_call (vs := [V.ref b, V.ref a]) F hb hx (hr.mono (by omega)) rfl I (.cons rfl (.cons rfl .nil)) hs') (fun u s' q => ?_) fun _ _ e => e
  obtain ⟨z, H', I', rz, c, rfl, q⟩ := q
  cases rz
  exact ⟨c, rfl, ⟨.bl c, H', I', rfl, q⟩⟩
theorem op_geOwn (hs : PySem.W.findIn X.K (.ref C) "__le__" = some (some (.ref f))) (hf : PySem.W.isFn X.K (.ref f) = true) (hg : PySem.W.findIn X.K (.ref C) "__ge__" = some (some (.builtin "object.__ge__"))) (hm : PySem.W.mroIn X.K C (.type "object") = some true)
    (F : FnOk X.prog X.w X.K X.mg X.base CX n f fd ps sp) (hr : Room (n + 1) X.A) (hb : Binds X.K fd ps []) (hx : Passes CX X E) : OpR X (compareOp .GtE) (rOwnR C sp E) := by
  intro pins s σ H x y u v Q I rx ry h
  obtain ⟨a, b, dx, dy, fs, gs, rfl, rfl, ha, hb', hs'⟩ := h
  cases rx
  cases ry
  obtain ⟨mA, J, _⟩ := ins_get I.hok ha
  obtain ⟨mB, J', _⟩ := ins_get I.hok hb'
  obtain ⟨od, J, _⟩ := J.look
  obtain ⟨od', J', _⟩ := J'.look
  show wpAny (model X.prog X.w) X.A (richCompare .GtE (.ref a) (.ref b)) (EP X pins σ Q) X.xe s
  refine EO.ge_K (by have := hr.units; omega) I.kIn J J' hs hf hg hm ?_
  refine wpAny_mono (own_call (vs := [V.ref b, V.ref a]) F hb hx (hr.mono (by omega)) rfl I (.cons rfl (.cons rfl .nil)) hs') (fun u s' q => ?_) fun _ _ e => e
  obtain ⟨z, H', I', rz, c, rfl, q⟩ := q
  cases rz
  exact ⟨c, rfl, ⟨.bl c, H', I', rfl, q⟩⟩
end
end L2
set_option Elab.async false
set_option linter.all false
set_option maxRecDepth 100000
/-! own [] between an instance with a dict and any value -/
namespace L2
open PySem PySem.Spec PyProof.Rows
section
variable {X : Cx} {n : Nat} {CX : CXT} {C f : Addr} {fd : FuncData} {ps : List Str} {sp : Sp} {E : XK} {a b : Expr} {ta tb : TE} {pos : Pos}
/-- x[y] by x's own def -/
def rIxOwn (C : Addr) (sp : Sp) (E : XK) : R2 := fun x y H Q => ∃ a dx fs, x = .ref a ∧ H a = some (.ins C dx fs) ∧ sp [x, y] H Q E
theorem pe_ixOwn (hs : PySem.W.findIn X.K (.ref C) "__getitem__" = some (some (.ref f))) (hf : PySem.W.fnIn X.K f = true) (hfn : PySem.W.isFn X.K (.ref f) = true) (F : FnOk X.prog X.w X.K X.mg X.base CX n f fd ps sp) (hr : Room (n + 1) X.A) (hb : Binds X.K fd ps []) (hx : Passes CX X E)
    (ha : PE X a ta) (hb' : PE X b tb) (hsl : ∀ o i, subscripted b true o i = runValue (.builtin "lifetime.subscript" ⟨[o, i], []⟩) := by intro _ _; with_unfolding_all rfl) : PE X (.Subscript a b pos) (tOp (rIxOwn C sp E) ta tb) := by
  refine ⟨fun pins s σ H Q I h => ?_⟩
  refine Subscript_ (binT ha hb' I h fun v u s2 x y H2 I2 rx ry q => ?_)
  obtain ⟨p, dx, fs, rfl, hp, q⟩ := q
  cases rx
  obtain ⟨mA, J, _⟩ := ins_get I2.hok hp
  obtain ⟨od, J, _⟩ := J.look
  obtain ⟨m, hF⟩ := I2.fr
  refine PySem.W.sub_K hF I2.ok.mod.kin J hs hf hfn ?_ (hsl _ _)
  exact wpAny_mono (own_call (vs := [V.ref p, y]) F hb hx hr.in1 rfl I2 (.cons rfl (.cons ry .nil)) q) (fun u s' q => by
    obtain ⟨z, H', I', rz, q⟩ := q
    exact ⟨z, H', I', rz, q⟩) fun _ _ e => e
end
end L2
set_option Elab.async false
set_option linter.all false
set_option maxRecDepth 100000
/-! Act.__eq__ -/
namespace K1
open PySem L2
abbrev sAEq : Stmt := inClass (top 12) 1
theorem eqv_ints : ∀ ws ws2 : List Int, PyData.eqvAll (ws.map PyData.int) (ws2.map PyData.int) = decide (ws = ws2)
  | [], [] => by simp [PyData.eqvAll]
  | [], _ :: _ => by simp [PyData.eqvAll]
  | _ :: _, [] => by simp [PyData.eqvAll]
  | a :: r, b :: q => by
    simp only [List.map_cons, PyData.eqvAll, eqv_ints r q, PyData.eqv]
    by_cases e : a = b
    · subst e; simp
    · simp [e]
theorem depth_ints : ∀ ns : List Int, PyData.depthAll (ns.map PyData.int) ≤ 1
  | [] => by decide
  | n :: r => by have := depth_ints r; simp only [List.map_cons, PyData.depthAll, PyData.depth]; omega
theorem shaped_of {d : PyData} (h : d.canLay0 = true) (e : d.depth ≤ 64) : SeqAt.shaped d = true := by
  unfold SeqAt.shaped
  rw [h]
  simp [e]
section
variable {P : Program} {w : World} {K : PySem.W.Frag} {mg : Str → Option Value} {base : Heap}
theorem scAEq : FnScope pAMul pAMul (defScope sAEq) := ⟨rfl, rfl, rfl, by decide +kernel, rfl, by decide +kernel, by decide +kernel⟩
theorem ok_aeq {C f : Addr} {fd : FuncData} (F : Fun K "__eq__" "Act.__eq__" sAEq f fd) (M : Tac K mg C) (I : Tia K C) (T : Bt3 mg) : FnOk P w K mg base CX0 1 f fd pAMul (spACmp K C (fun ns ms => decide (ns = ms))) := by
  refine F.ok scAEq (fun vs H Q E h => ?_) (fun cdv A outer s H vs Q E hr h => ?_)
  · obtain ⟨x, y, f', g', rfl, _⟩ := h
    rfl
  · obtain ⟨x, y, ff, gg, rfl, ax, ay, kk⟩ := h
    refine ⟨_, pss_cons (ps_if (pt_not (pt_val (pe_callB call_isi (by rfl) T.isinstance PyProof.Rows.boot_isinstance (pa_cons (pv 1) (pa_cons (pe_glob (v := .ref C) rfl M.mgC rfl) pa_nil))))) pss_never pss_nil)
      (pss_one (ps_ret (pe_cmpR (op_eqD hr.units) (pe_fld (pv 0) rfl) (pe_fld (pv 1) rfl) (nomark _)))), ?_⟩
    obtain ⟨dx, a, im, cy, is, c1, c2, hx, ha, _⟩ := id ax
    obtain ⟨dy, b, im2, cy2, is2, c3, c4, hy, hb, _⟩ := id ay
    refine ⟨_, rfl, _, _, .ref C, .ref C, true, rfl, .own C, .base (.ins hy M.cl I.ca I.cs I.ct I.cm), by simp [PySem.W.kitOne], true, rfl, ?_⟩
    refine iteF ?_
    refine ⟨_, rfl, x, C, dx, _, V.ref a, rfl, hx, M.cl, M.nS, af_states _ _ _ _ _, _, rfl, y, C, dy, _, V.ref b, rfl, hy, M.cl, M.nS, af_states _ _ _ _ _, _, _, .tup ha (dp_ints _), .tup hb (dp_ints _), shaped_ints _, shaped_ints _, ?_⟩
    rw [PyData.eqv, eqv_ints]
    exact kk
end
end K1
set_option Elab.async false
set_option linter.all false
set_option maxRecDepth 100000
set_option maxHeartbeats 2000000
/-! repr of tuples and lists of plain values, whatever is under way: it tells the same each time -/
namespace RpR
open PySem PySem.Spec PyProof.Rows Sem
/-- what is under way can be told -/
theorem told_guards {M : Model} {A : Around} {c : Code} {R : Result → Shared → Prop} {s : Shared} (h : ∀ g, codeAny M { A with guards := some g } c R s) : codeAny M A c R s := by
  intro Γ p e hb
  refine h (guardsOf Γ.below) Γ p e ⟨hb.1, hb.2.1, hb.2.2.1, fun g z => ?_, hb.2.2.2.2⟩
  cases z
  rfl
def lstG (a : Addr) : Code × Pos → Bool := fun
  | (.builtin "list.__repr__.loop" ⟨v :: _, _⟩, _) => Builtin.List.listSameRef v (.ref a)
  | _ => false
theorem lstG_off (a : Addr) (c : Code) (p : Pos) (h : c.isGuard = false) : lstG a (c, p) = false := by
  unfold lstG
  split
  · next v rest kw q heq => cases heq; simp [Code.isGuard, guardIds] at h
  · rfl
theorem lstG_pos (a : Addr) (c : Code) (p : Pos) : lstG a (c, p) = lstG a (c, default) := by
  cases c with
  | builtin id args =>
    obtain ⟨ps, kw⟩ := args
    by_cases h : id = "list.__repr__.loop"
    · subst h
      cases ps <;> rfl
    · unfold lstG
      split
      · next v rest kw q heq => cases heq; exact absurd rfl h
      · split
        · next v rest kw q heq => cases heq; exact absurd rfl h
        · rfl
  | _ => rfl
/-- is a tuple, a list under way -/
def uwT (g : List Code) (a : Addr) : Bool := g.any fun c => tupGuardF (.ref a) (c, default)
def uwL (g : List Code) (a : Addr) : Bool := g.any fun c => lstG a (c, default)
section
variable {prog : Program} {w : World} {A : Around} {E : Value → Shared → Prop} {s : Shared} {a : Addr} {o : Obj} {items : Array Value} {n : Nat} {ts : List Str} {g : List Code} {Q : Value → Shared → Prop}
theorem tup_shown (hg : A.guards = some g) (ha : s.heap.get? a = some o) (hc : o.cls = .type "tuple") (hd : o.data = .seq items n) (hT : ReprAll prog w items.toList ts) (hz : (tupleText ts).length ≤ sizeLine)
    (h : ∀ u tk, Q (.str (if uwT g a then "(...)" else tupleText ts) u) { s with toks := tk }) : wpAny (model prog w) A (call (.builtin "tuple.__repr__") [.ref a]) Q E s := by
  refine wpAny_call (codeAny_call_builtin_own (Code.quiet_builtin _ (by decide +kernel)) F.entry_tuple_repr (F.slot_tuple_repr.check _ _ _ _ _ _ _ _ ⟨o, ha, hc⟩ (F.args_tuple_repr_1 _) ?_))
  show wpOwn _ _ _ (Builtin.tupleReprAt 0 ⟨[.ref a], []⟩) _ _ s
  rw [tuple_repr_tree, tupleReprUnderWay_eq]
  refine wpOwn_bind (wpOwn_stackTailAny hg (tupGuardF_off _) (tupGuardF_pos _) ?_)
  show wpOwn _ _ _ (if uwT g a = true then _ else _) _ _ s
  cases hw : uwT g a with
  | true =>
    rw [hw] at h
    refine wpOwn_of_wpAny (PySem.W.KFB.if_so rfl ?_)
    refine wpAny_bind (wpAny_rule ?_)
    exact wpAny_bind (wpAny_mkStr (wpAny_pure (h _ _)) (by decide +kernel))
  | false =>
    rw [hw] at h
    refine wpOwn_of_wpAny (PySem.W.KFB.if_not rfl ?_)
    exact wpAny_tupleReprRest ha hd hT (fun u tk => h u tk) (by omega)
theorem tup_repr (hg : A.guards = some g) (hu : A.units + 1 < cLine) (ha : s.heap.get? a = some o) (hc : o.cls = .type "tuple") (hd : o.data = .seq items n) (hT : ReprAll prog w items.toList ts) (hz : (tupleText ts).length ≤ sizeLine)
    (h : ∀ u tk, Q (.str (if uwT g a then "(...)" else tupleText ts) u) { s with toks := tk }) : wpAny (model prog w) A (call (.builtin "repr") [.ref a]) Q E s :=
  call_repr_slot hu ⟨o, ha, hc⟩ F.slot_tuple_repr (tup_shown (A := A.in1) hg ha hc hd hT hz fun u tk => ⟨_, u, rfl, h u tk⟩)
end
end RpR
namespace RpR
open PySem PySem.Spec PyProof.Rows Sem
section
variable {prog : Program} {w : World} {A : Around} {E : Value → Shared → Prop} {s : Shared} {a : Addr} {o : Obj} {n : Nat} {ts : List Str} {g : List Code} {Q : Value → Shared → Prop} {x : Value} {l : List Value}
theorem lst_under (hg : A.guards = some g) (hw : uwL g a = true) (ha : s.heap.get? a = some o) (hc : o.cls = .type "list") (hd : o.data = .seq (x :: l).toArray n)
    (h : ∀ u tk, Q (.str "[...]" u) { s with toks := tk }) : wpAny (model prog w) A (call (.builtin "list.__repr__") [.ref a]) Q E s := by
  refine wpAny_call (codeAny_call_builtin_own (Code.quiet_builtin _ (by decide +kernel)) F.entry_list_repr (F.slot_list_repr.check _ _ _ _ _ _ _ _ ⟨o, ha, hc⟩ (F.args_list_repr_1 _) ?_))
  intro Γ p hcd hΓ
  show Sem.wp _ Γ (Builtin.listReprAt 0 ⟨[.ref a], []⟩) _ _ p s
  unfold Builtin.listReprAt
  simp [slotArgs, Builtin.List.listItems, seqItems?, wp_load_of (h := ha), hd, PySem.stack]
  have e : Γ.below.any (lstG a) = true := by
    rw [any_eq_guards (lstG_off a) (lstG_pos a), hΓ.2.2.2.1 g hg]
    exact hw
  show Sem.wp _ Γ (if (Γ.below.any (lstG a)) = true then _ else _) _ _ p s
  rw [if_pos e]
  simp [PySem.rule, PySem.retStr, PySem.ret]
  exact h _ _
theorem lst_shown (hg : A.guards = some g) (ha : s.heap.get? a = some o) (hc : o.cls = .type "list") (hd : o.data = .seq (x :: l).toArray n) (hlen : ts.length = (x :: l).toArray.size)
    (hT : ∀ (i : Nat) (y : Value), (x :: l).toArray[i]? = some y → ∃ t, ts[i]? = some t ∧ ReprIs prog w y t) (hz : (listText ts).length ≤ sizeLine)
    (h : ∀ h' u tk, (∀ b o, s.heap.get? b = some o → h'.get? b = some o) → Q (.str (if uwL g a then "[...]" else listText ts) u) { s with heap := h', toks := tk }) : wpAny (model prog w) A (call (.builtin "list.__repr__") [.ref a]) Q E s := by
  cases hw : uwL g a with
  | true =>
    rw [hw] at h
    exact lst_under hg hw ha hc hd fun u tk => h s.heap u tk fun _ _ e => e
  | false =>
    rw [hw] at h
    refine call_list_repr ⟨o, ha, hc⟩ hg (fun v rest kw hm => ?_) ha hd hlen hT (fun h' u tk hk => h h' u tk hk) hz
    have := List.any_eq_false.mp hw _ hm
    exact Bool.eq_false_iff.mpr this
theorem lst_repr (hg : A.guards = some g) (hu : A.units + 1 < cLine) (ha : s.heap.get? a = some o) (hc : o.cls = .type "list") (hd : o.data = .seq (x :: l).toArray n) (hlen : ts.length = (x :: l).toArray.size)
    (hT : ∀ (i : Nat) (y : Value), (x :: l).toArray[i]? = some y → ∃ t, ts[i]? = some t ∧ ReprIs prog w y t) (hz : (listText ts).length ≤ sizeLine)
    (h : ∀ h' u tk, (∀ b o, s.heap.get? b = some o → h'.get? b = some o) → Q (.str (if uwL g a then "[...]" else listText ts) u) { s with heap := h', toks := tk }) : wpAny (model prog w) A (call (.builtin "repr") [.ref a]) Q E s :=
  call_repr_slot hu ⟨o, ha, hc⟩ F.slot_list_repr.toG (lst_shown (A := A.in1) hg ha hc hd hlen hT hz fun h' u tk hk => ⟨_, u, rfl, h h' u tk hk⟩)
end
end RpR
set_option Elab.async false
set_option linter.all false
set_option maxRecDepth 100000
/-! several clauses, each `except X as e`, of one name e -/
namespace K1
open PySem L2 PySem.Spec PyProof.Rows
def endsI (D : Ends) (i : Nat) : Ends := { nx := fun u G => D.nx (u.set i none) G, rt := D.rt, bk := fun u G => D.bk (u.set i none) G, ct := fun u G => D.ct (u.set i none) G }
def wAsAll (K : PySem.W.Frag) (i : Nat) (Wo : WX) (D : Ends) : List (Value × (Addr → Value → Option Addr → TS)) → WX
  | [] => Wo
  | p :: r => fun cl dd u G => ∃ b, PySem.W.exmOne K cl p.1 = some b ∧ (b = true → ∀ a, G a = none → p.2 a cl dd (endsI D i) (u.set i (some (.ref a))) G) ∧ (b = false → wAsAll K i Wo D r cl dd u G)
inductive AsOk (X : Cx) (n : Str) : List ExceptHandler → List (Value × (Addr → Value → Option Addr → TS)) → Prop
  | nil : AsOk X n [] []
  | cons {x : Str} {c : Value} {ts : Addr → Value → Option Addr → TS} {b₀ : Stmt} {suite : List Stmt} {np q : Pos} {hds : List ExceptHandler} {l : List (Value × (Addr → Value → Option Addr → TS))} (hc : Names X x c)
      (hsu : ∀ (a : Addr) (oe : Obj) (cl : Value) (dd : Option Addr) (pn : List (Addr × Obj)), Zc cl dd oe → (∃ vs, oe.data = .fields vs) → PSs (X.suite a ((a, oe) :: pn)) (b₀ :: suite) (ts a cl dd)) (r : AsOk X n hds l) :
      AsOk X n (.ExceptHandler (some (.Name x np)) (some n) (b₀ :: suite) q :: hds) ((c, ts) :: l)
section
variable {X : Cx} {n : Str} {i : Nat} {body : List Stmt} {h₀ : ExceptHandler} {hds : List ExceptHandler} {l : List (Value × (Addr → Value → Option Addr → TS))} {pos : Pos} {tb : WX → TS} {Wo : WX}
theorem ps_try_asAll (e0 : X.stack = X.env :: X.outer) (e1 : X.env.frame = some X.env.locals) (nd : X.N.Nodup) (hi : X.N[i]? = some n) (hln : X.env.kindOf n = some .local) (tk : Takes X Wo)
    (hb : ∀ (W : WX) (pn : List (Addr × Obj)) (xe : Value → Shared → Prop), Takes (X.tr pn xe) W → PassesOwn (model X.prog X.w) X.A X.env xe → PSs (X.tr pn xe) body (tb W))
    (hh : AsOk X n (h₀ :: hds) l) : PS X (.Try body (h₀ :: hds) [] [] pos) (fun D u G => tb (wAsAll X.K i Wo D l) D u G) := by
  refine ⟨fun pins s u G D I0 go0 => ?_⟩
  have ok := I0.ok
  have fr : X.A.frames = some (X.env :: X.outer) := by rw [ok.frames, e0]
  have lc : Loc X.env.scope n := .inl hln
  refine wpAny_Try_except ?_
  have run0 := (hb (wAsAll X.K i Wo D l) (X.pn ++ pins) (fun e s₁ => wpAny (model X.prog X.w) X.A (noteFrame e X.env) (fun _ s₂ => wpAny (model X.prog X.w) X.A (setFlight e none) (fun _ s₃ =>
    wpAny (model X.prog X.w) X.A (handleBy e X.env (h₀ :: hds)) (SP X pins D) X.xe s₃) X.xe s₂) X.xe s₁) (fun v s' xx => ?_) PassesOwn.looking).run [] s u G D (I0.toTry _) go0
  · refine wpAny_mono run0 (fun f s1 hsp => ?_) (fun e s1 he => he)
    cases f with
    | next => exact let ⟨u', G', J', q⟩ := hsp; wpAny_execs_nil ⟨u', G', J'.ofTry ok, q⟩
    | brk => exact let ⟨u', G', J', q⟩ := hsp; ⟨u', G', J'.ofTry ok, q⟩
    | cont => exact let ⟨u', G', J', q⟩ := hsp; ⟨u', G', J'.ofTry ok, q⟩
    | ret w => exact let ⟨v, u', G', J', r, q⟩ := hsp; ⟨v, u', G', J'.ofTry ok, r, q⟩
  · obtain ⟨a, B, sI, pins', u', G', cl, dd, rfl, J', nb, up, sky, na, os, ag, w⟩ := xx
    have J : Inv X pins u' G' sI := J'.ofTry ok
    have sk : Sky B (X.env :: X.outer) a (Zc cl dd) X.env.locals s'.heap := by rw [← e0]; exact sky
    show wpAny (model X.prog X.w) X.A (noteFrame (.ref a) X.env) _ _ _
    refine Sky.land Zc.steady fr e1 sk fun h3 fl3 up3 => ?_
    have J3 : Inv X pins u' G' { s' with heap := h3 } := J.landed nb fl3.1 (up.trans up3) os ag
    obtain ⟨oe3, vs3, he3, hz3, hd3⟩ := fl3.there
    have out : ∀ {h : Heap} {o : Obj} {vs : Array Value}, h.FunFrames B (X.env :: X.outer) → h.get? a = some o → o.data = .fields vs → a ∉ frs (X.env :: X.outer) := fun {h o vs} ff e hdt hm => by
      obtain ⟨_, o', e', hnf⟩ := ff.mem hm
      cases e.symm.trans e'
      exact hnf _ hdt
    have nfr := out fl3.2.2.1 he3 hd3
    have nL : a ≠ X.env.locals := fun z => nfr (List.mem_filterMap.mpr ⟨X.env, List.mem_cons_self, by rw [e1, z]⟩)
    have nF : a ∉ X.fs := fun hm => let ⟨e, he, q⟩ := List.mem_filterMap.mp hm; nfr (List.mem_filterMap.mpr ⟨e, List.mem_cons_of_mem _ he, q⟩)
    have S3 := J3.suite he3 hd3 na nL nF
    have go : ∀ {hs' : List ExceptHandler} {l' : List (Value × (Addr → Value → Option Addr → TS))}, AsOk X n hs' l' → wAsAll X.K i Wo D l' cl dd u' G' →
        wpAny (model X.prog X.w) X.A (handleBy (.ref a) X.env hs') (SP X pins D) X.xe { s' with heap := h3 } := by
      intro hs' l' hk
      induction hk with
      | nil =>
        intro w
        refine wpAny_handleBy_nil ?_
        obtain ⟨k1, k2, k3, oe, vs, T, oT, tz, he, hz, hd, h1, hr⟩ := id fl3
        unfold PySem.passOn
        refine wpAny_bind (wpAny_field he hd h1 ?_)
        rw [if_neg (show ¬ ((Value.ref T == Value.none) = true) by simp)]
        have fin : wpAny (model X.prog X.w) X.A (setFlight (.ref a) X.env.frame) (fun _ s4 => wpAny (model X.prog X.w) X.A (throw (.ref a) : Sem Flow) (SP X pins D) X.xe s4) X.xe { s' with heap := h3 } := by
          rw [e1]
          refine HandSPX.setFlight_upZ fl3 fun h4 hh4 up4 => wpAny_throw (tk _ _ ?_)
          exact ⟨a, B, sI, pins, u', G', cl, dd, rfl, J, nb, (up.trans up3).trans up4, .inr (.inr (by rw [e0]; exact hh4)), na, os, ag, w⟩
        first
          | exact wpAny_bind (wpAny_pure (wpAny_bind fin))
          | exact wpAny_bind fin
      | @cons x c ts b₀ suite np q0 hds2 l2 hc hsu r ih =>
        intro w
        obtain ⟨b, hb1, yes, no⟩ := w
        refine wpAny_handleBy_cons (codeAny_handlers_test ?_) (by intro q; cases q)
        have LT : PySem.W.Looks (model X.prog X.w) h3 (typeOf (.ref a)) cl := fun A Q E s k q => wpAny_typeOf_ref (k _ _ he3) (by rw [hz3.1]; exact q)
        have LM := PySem.W.exm_one (M := model X.prog X.w) (J3.kIn) LT hb1
        have test : ∀ {Q : Value → Shared → Prop} {E : Value → Shared → Prop}, Q c { s' with heap := h3 } → wpAny (model X.prog X.w) (X.A.mark (some (.ref a))) (eval (.Name x np) X.env) Q E { s' with heap := h3 } := fun {Q E} q => by
          rcases hc with ⟨hg, hdbg, hm | ⟨hm, hv, hnn⟩⟩
          · exact ld_glob (X := X.suite a ((a, oe3) :: (X.pn ++ pins))) S3 hg hm q hdbg
          · exact ld_blt (X := X.suite a ((a, oe3) :: (X.pn ++ pins))) S3 hg hm hv q hnn hdbg
        refine test (LM.here ?_)
        cases b with
        | true =>
          refine codeAny_handlers_suite_as (HandSPX.lands_againZ fl3 fun h4 fl4 up4 => ?_)
          have J4 : Inv X pins u' G' { s' with heap := h4 } := J.landed nb fl4.1 ((up.trans up3).trans up4) os ag
          obtain ⟨oe4, vs4, he4, hz4, hd4⟩ := fl4.there
          have S4 := J4.suite he4 hd4 na nL nF
          refine store_ok (X := X.suite a ((a, oe4) :: (X.pn ++ pins))) (v := .ref a) S4 nd hi lc rfl (fun s5 S5 => ?_) (.inr hln)
          refine wpAny_mono ((hsu a oe4 cl dd (X.pn ++ pins) hz4 ⟨_, hd4⟩).run [] s5 _ G' _ S5 (yes rfl a na)) (fun f s6 hsp => ?_) (fun _ _ z => False.elim z)
          have close : ∀ {u6 : L2.St} {G6 : Hp} {Q : Shared → Prop}, Inv (X.suite a ((a, oe4) :: (X.pn ++ pins))) [] u6 G6 s6 → (∀ s7, Inv X pins (u6.set i none) G6 s7 → Q s7) →
              wpAny (model X.prog X.w) X.A (do bindName X.env n .none; unbindBehindTheSuite X.env n q0) (fun _ s7 => Q s7) X.xe s6 := fun {u6 G6 Q} S6 hq => gone_ok (S6.unsuite ok) nd hi hln hq
          cases f with
          | next => exact let ⟨u6, G6, S6, q6⟩ := hsp; close S6 fun s7 J7 => ⟨_, _, J7, q6⟩
          | brk => exact let ⟨u6, G6, S6, q6⟩ := hsp; close S6 fun s7 J7 => ⟨_, _, J7, q6⟩
          | cont => exact let ⟨u6, G6, S6, q6⟩ := hsp; close S6 fun s7 J7 => ⟨_, _, J7, q6⟩
          | ret z => exact let ⟨v6, u6, G6, S6, r6, q6⟩ := hsp; close S6 fun s7 J7 => ⟨_, _, _, J7, r6, q6⟩
        | false =>
          show wpAny _ X.A (handleBy (.ref a) X.env hds2) _ _ _
          exact ih (no rfl)
    exact go hh w
end
end K1
set_option Elab.async false
set_option linter.all false
set_option maxRecDepth 100000
/-! repr of plain values, and of tuples and lists of them -/
namespace L2
open PySem PySem.Spec PyProof.Rows RpR
def reprV : V → Str
  | .non => "None"
  | .bl b => if b then "True" else "False"
  | .int i => toString i
  | .str z => PySem.reprText z
  | _ => ""
def reprOk : V → Prop
  | .non => True
  | .bl _ => True
  | .int i => i.natAbs.log2 < 1920
  | .str z => (PySem.reprText z).length ≤ sizeLine
  | _ => False
/-- t is what repr tells of v, where g is under way -/
inductive Rp (g : List Code) (H : Hp) : V → Str → Prop
  | plain {v : V} (ok : reprOk v) : Rp g H v (reprV v)
  | tup {a : Addr} {xs : List V} (e : H a = some (.tup xs)) (ok : ∀ x ∈ xs, reprOk x) (hz : (tupleText (xs.map reprV)).length ≤ sizeLine) : Rp g H (.ref a) (if uwT g a then "(...)" else tupleText (xs.map reprV))
  | lst {a : Addr} {x : V} {xs : List V} (e : H a = some (.lst (x :: xs))) (ok : ∀ y ∈ x :: xs, reprOk y) (hz : (listText ((x :: xs).map reprV)).length ≤ sizeLine) : Rp g H (.ref a) (if uwL g a then "[...]" else listText ((x :: xs).map reprV))
theorem Rp.same {g : List Code} {H H' : Hp} {v : V} {t : Str} (r : Rp g H v t) (s : Same H H') : Rp g H' v t := by
  cases r with
  | plain ok => exact .plain ok
  | tup e ok hz => exact .tup (s _ _ e) ok hz
  | lst e ok hz => exact .lst (s _ _ e) ok hz
theorem reprIs_of {prog : Program} {w : World} : ∀ {v : V} {u : Value}, RelV v u → reprOk v → ReprIs prog w u (reprV v)
  | .non, u, r, _ => by obtain rfl : u = Value.none := r; exact ReprIs.none
  | .bl b, u, r, _ => by obtain rfl : u = Value.bool b := r; cases b <;> exact ReprIs.bool _
  | .int i, u, r, ok => by obtain ⟨t, rfl⟩ := r; exact ReprIs.int t ok
  | .str z, u, r, ok => by obtain ⟨t, rfl⟩ := r; exact ReprIs.str z t ok
theorem reprAll_of {prog : Program} {w : World} : ∀ {xs : List V} {us : List Value}, Vals xs us → (∀ x ∈ xs, reprOk x) → ReprAll prog w us (xs.map reprV)
  | [], _, r, _ => by cases r; exact .nil
  | x :: xs, _, r, ok => by
    cases r with
    | cons r1 r2 => exact .cons (reprIs_of r1 (ok x List.mem_cons_self)) (reprAll_of r2 fun y hy => ok y (List.mem_cons_of_mem _ hy))
theorem reprAll_item {prog : Program} {w : World} : ∀ {xs : List V} {us : List Value}, Vals xs us → (∀ x ∈ xs, reprOk x) → ∀ (i : Nat) (y : Value), us[i]? = some y → ∃ t, (xs.map reprV)[i]? = some t ∧ ReprIs prog w y t
  | [], _, r, _, i, y, e => by cases r; simp at e
  | x :: xs, _, r, ok, i, y, e => by
    cases r with
    | cons r1 r2 =>
      match i, e with
      | 0, e => cases e; exact ⟨_, rfl, reprIs_of r1 (ok x List.mem_cons_self)⟩
      | i + 1, e => exact reprAll_item r2 (fun y hy => ok y (List.mem_cons_of_mem _ hy)) i y e
def rReprG (g : List Code) : List V → Hp → VK → Prop := fun xs H Q => ∃ v t, xs = [v] ∧ Rp g H v t ∧ Q (.str t) H
theorem call_repr_G {X : Cx} {g : List Code} (hg : X.A.guards = some g) (hu : X.A.units + 1 < cLine) : CallR X (.builtin "repr") (rReprG g) := by
  intro pins s σ H xs us Q I r h
  obtain ⟨v, t, rfl, rp, q⟩ := h
  cases rp with
  | plain ok =>
    cases v with
    | non =>
      obtain ⟨u, rfl, rv⟩ := vals1 r
      obtain rfl : u = Value.none := rv
      exact PySem.P.repr_of_none ⟨.str _, H, I.tok _, ⟨_, rfl⟩, q⟩
    | bl b =>
      obtain ⟨u, rfl, rv⟩ := vals1 r
      obtain rfl : u = Value.bool b := rv
      exact PySem.P.repr_of_bool ⟨.str _, H, I.tok _, ⟨_, rfl⟩, q⟩
    | int i =>
      obtain ⟨u, rfl, t, rfl⟩ := vals1 r
      exact PySem.P.repr_of_int ok ⟨.str _, H, I.tok _, ⟨_, rfl⟩, q⟩
    | str z =>
      obtain ⟨u, rfl, t, rfl⟩ := vals1 r
      exact PySem.P.repr_of_str ⟨.str _, H, I.tok _, ⟨_, rfl⟩, q⟩ ok
    | _ => exact ok.elim
  | tup e ok hz =>
    obtain ⟨u, rfl, rv⟩ := vals1 r
    cases (show u = Value.ref _ from rv)
    obtain ⟨its, r2, ⟨o, ho, hc, n, hd⟩, _⟩ := I.tuple (SqT.of (K := X.K) e)
    exact tup_repr hg hu ho hc hd (reprAll_of r2 ok) hz fun u tk => ⟨.str _, H, I.tok _, ⟨_, rfl⟩, q⟩
  | lst e ok hz =>
    obtain ⟨u, rfl, rv⟩ := vals1 r
    cases (show u = Value.ref _ from rv)
    obtain ⟨its, r2, ⟨o, n, ho, hc, _, hd⟩, _⟩ := I.list (SqL.of (K := X.K) e)
    cases r2 with
    | cons r3 r4 =>
      rename_i u1 us1
      refine lst_repr hg hu ho hc hd (by have := r4.length; simp [this]) (fun i y ey => reprAll_item (.cons r3 r4) ok i y (by simpa using ey)) hz fun h' u tk hk => ⟨.str _, H, I.kept hk, ⟨_, rfl⟩, q⟩
end L2
set_option Elab.async false
set_option linter.all false
set_option maxRecDepth 100000
set_option maxHeartbeats 2000000
/-! a lambda handed to a def that calls it in a try: what is raised is told of the very slots -/
namespace K1
open PySem PySem.Spec PyProof.Rows L2 LamX
/-- a def whose code object is known -/
structure FunC (K : PySem.W.Frag) (x qual : Str) (st : Stmt) (f : Addr) (fd : FuncData) (c : Addr) : Prop where
  ex : ∃ (oc : Value) (od : Option Addr) (kV doc pm : Value) (an : Option Addr) (ct : Value) (osl : Array (Option Value)),
    fd = PySem.W.fnOf x qual (defArgs st) (defBody st) (defScope st) .none kV doc pm an (.ref c) ct ∧ K.lookup f = some ⟨oc, od, .func fd, osl⟩ ∧ PySem.W.codeIn K (.ref c) qual = true
  kp : PySem.W.keepIn K (.ref f) = true
theorem FunC.toFun {K : PySem.W.Frag} {x qual : Str} {st : Stmt} {f c : Addr} {fd : FuncData} (F : FunC K x qual st f fd c) : L2.Fun K x qual st f fd :=
  let ⟨oc, od, kV, doc, pm, an, ct, osl, e, l, cc⟩ := F.ex
  ⟨⟨oc, od, kV, doc, pm, an, _, ct, osl, e, l, cc⟩, F.kp⟩
section
variable {P : Program} {w : World} {K : PySem.W.Frag} {mg : Str → Option Value} {base : Heap}
theorem FunC.ok {x qual : Str} {st : Stmt} {f c : Addr} {fd : FuncData} {N ps : List Str} {k : Nat} {sp : Sp} (F : FunC K x qual st f fd c) (S : FnScope N ps (defScope st)) (len : ∀ vs H Q E, sp vs H Q E → vs.length = ps.length)
    (body : ∀ (A : Around) (outer : List Env) (s : Shared) (H : Hp) (vs : List V) (Q : VK) (E : XK), Room k (A.deeper (envOfC qual (defScope st) s.heap.objs.size f (.ref c))) → sp vs H Q E →
      ∃ t, PSs (cxOf L2.CX0 P w K mg base N qual (defScope st) f (.ref c) A outer s H E).nox (defBody st) t ∧ t { nx := fun _ H' => Q .non H', rt := Q } (L2.start N vs) H) : FnOk P w K mg base L2.CX0 (k + 1) f fd ps sp := by
  obtain ⟨oc, od, kV, doc, pm, an, ct, osl, rfl, l, cc⟩ := F.ex
  exact fn_of l cc S len fun A outer s H vs Q E hr h => (body A outer s H vs Q E hr h).imp fun t ht => ⟨ht.1.nox, ht.2⟩
end
end K1
namespace LamX
open PySem L2 K1
/-! what is kept when a lambda is made -/
theorem ExtN.tup {H H' : Hp} (e : ExtN H H') {a : Addr} {xs : List V} (h : H a = some (.tup xs)) : H' a = some (.tup xs) := e _ _ h fun ps => by intro z; cases z
theorem ExtN.lst {H H' : Hp} (e : ExtN H H') {a : Addr} {xs : List V} (h : H a = some (.lst xs)) : H' a = some (.lst xs) := e _ _ h fun ps => by intro z; cases z
theorem ExtN.ins {H H' : Hp} (e : ExtN H H') {a C dx : Addr} {fs : List (Str × V)} (h : H a = some (.ins C dx fs)) : H' a = some (.ins C dx fs) := e _ _ h fun ps => by intro z; cases z
theorem ExtN.dk {H H' : Hp} (e : ExtN H H') {a : Addr} {kv : List (Key × V)} (h : H a = some (.dK kv)) : H' a = some (.dK kv) := e _ _ h fun ps => by intro z; cases z
theorem ExtN.seqT {K : PySem.W.Frag} {H H' : Hp} {a : Addr} {xs : List V} (e : ExtN H H') (h : SqT K H a xs) : SqT K H' a xs := by
  rcases h with (h | ⟨o, h⟩) | h
  · exact .inl (.inl (e.tup h))
  · exact .inl (.inr ⟨o, e _ _ h fun ps => by intro z; cases z⟩)
  · exact .inr h
theorem ExtN.seqL {K : PySem.W.Frag} {H H' : Hp} {a : Addr} {xs : List V} (e : ExtN H H') (h : SqL K H a xs) : SqL K H' a xs := by
  rcases h with (h | ⟨o, h⟩) | h
  · exact .inl (.inl (e.lst h))
  · exact .inl (.inr ⟨o, e _ _ h fun ps => by intro z; cases z⟩)
  · exact .inr h
theorem ExtN.pen {H H' : Hp} (e : ExtN H H') {d c : Addr} {n : Nat} (h : PenAt H d c n) : PenAt H' d c n := by
  obtain ⟨ns, a, l, h1, h2, h3⟩ := h
  exact ⟨ns, a, l, e.dk h1, e.lst h2, h3⟩
end LamX
namespace K1
open PySem PySem.Spec PyProof.Rows L2 LamX
/-- all but d and the tables is kept -/
def KeptN (d : Addr) (H H' : Hp) : Prop := ∀ b o, H b = some o → b ≠ d → (∀ ps, o ≠ .tbl ps) → H' b = some o
theorem KeptN.refl (d : Addr) (H : Hp) : KeptN d H H := fun _ _ e _ _ => e
theorem KeptN.trans {d : Addr} {H H1 H2 : Hp} (a : KeptN d H H1) (b : KeptN d H1 H2) : KeptN d H H2 := fun c o e n m => b c o (a c o e n m) n m
theorem KeptN.seqL {K : PySem.W.Frag} {d : Addr} {H H' : Hp} {a : Addr} {xs : List V} (e : KeptN d H H') (n : a ≠ d) (h : SqL K H a xs) : SqL K H' a xs := by
  rcases h with (h | ⟨o, h⟩) | h
  · exact .inl (.inl (e _ _ h n fun ps => by intro z; cases z))
  · exact .inl (.inr ⟨o, e _ _ h n fun ps => by intro z; cases z⟩)
  · exact .inr h
theorem KeptN.seqT {K : PySem.W.Frag} {d : Addr} {H H' : Hp} {a : Addr} {xs : List V} (e : KeptN d H H') (n : a ≠ d) (h : SqT K H a xs) : SqT K H' a xs := by
  rcases h with (h | ⟨o, h⟩) | h
  · exact .inl (.inl (e _ _ h n fun ps => by intro z; cases z))
  · exact .inl (.inr ⟨o, e _ _ h n fun ps => by intro z; cases z⟩)
  · exact .inr h
theorem KeptN.upd {d D : Addr} {H0 H : Hp} {o : HO} (k : KeptN d H0 H) (h : H0 D = none) : KeptN d H0 (upd H D o) := fun b u e nb m => by
  rw [upd_ne (ne_of_none e h)]; exact k b u e nb m
theorem KeptN.tup {d : Addr} {H H' : Hp} {a : Addr} {xs : List V} (e : KeptN d H H') (n : a ≠ d) (h : H a = some (.tup xs)) : H' a = some (.tup xs) := e _ _ h n fun ps => by intro z; cases z
theorem KeptN.lst {d : Addr} {H H' : Hp} {a : Addr} {xs : List V} (e : KeptN d H H') (n : a ≠ d) (h : H a = some (.lst xs)) : H' a = some (.lst xs) := e _ _ h n fun ps => by intro z; cases z
theorem KeptN.ins {d : Addr} {H H' : Hp} {a C dx : Addr} {fs : List (Str × V)} (e : KeptN d H H') (n : a ≠ d) (h : H a = some (.ins C dx fs)) : H' a = some (.ins C dx fs) := e _ _ h n fun ps => by intro z; cases z
theorem Kept.n {d : Addr} {H H' : Hp} (k : Kept d H H') : KeptN d H H' := fun b o e n _ => k b o e n
end K1
namespace LamX
open PySem L2 K1
theorem ExtN.n {d : Addr} {H H' : Hp} (k : ExtN H H') : KeptN d H H' := fun b o e _ m => k b o e m
theorem Tabs.kept {T : List (Addr × Str)} {d : Addr} {kv : List (Key × V)} {H H' : Hp} (t : Tabs T H) (hd : H d = some (.dK kv)) (k : Kept d H H') : Tabs T H' := fun p hp => by
  obtain ⟨ps, h1, h2, h3⟩ := t p hp
  refine ⟨ps, k _ _ h1 (ne_of h1 hd (by intro z; cases z)), h2, fun pos cv hc => ?_⟩
  obtain ⟨c, e1, e2⟩ := h3 pos cv hc
  exact ⟨c, e1, k _ _ e2 (ne_of e2 hd (by unfold CodeO; intro z; cases z))⟩
theorem Tabs.same {T : List (Addr × Str)} {H H' : Hp} (t : Tabs T H) (s : L2.Same H H') : Tabs T H' := t.ext s
theorem Tabs.updL {T : List (Addr × Str)} {H : Hp} {L : Addr} {xs ys : List V} (t : Tabs T H) (h : H L = some (.lst xs)) : Tabs T (upd H L (.lst ys)) := fun p hp => by
  obtain ⟨ps, h1, h2, h3⟩ := t p hp
  refine ⟨ps, by rw [upd_ne (ne_of h1 h (by intro z; cases z))]; exact h1, h2, fun pos cv hc => ?_⟩
  obtain ⟨c, e1, e2⟩ := h3 pos cv hc
  exact ⟨c, e1, by rw [upd_ne (ne_of e2 h (by unfold CodeO; intro z; cases z))]; exact e2⟩
theorem Tabs.pen {T : List (Addr × Str)} {d c : Addr} {n : Nat} {H H' : Hp} (t : Tabs T H) (p : PenAt H d c n) (k : Kept d H H') : Tabs T H' := by
  obtain ⟨ns, x, l, hd, _⟩ := p
  exact t.kept hd k
end LamX
namespace K1
open PySem PySem.Spec PyProof.Rows L2 LamX
section
variable {X : Cx} {pins : List (Addr × Obj)} {σ : L2.St} {H : Hp} {s : Shared}
/-- the call of the handed lambda; what it raises is taken at the slots as they are -/
theorem pe_actS {GX : CXT} {GE : XK} {GN : List Str} {gq : Str} {gs : Scope} {g f c' : Addr} {gcd pm ctv : Value} {params : Arguments} {body : Expr} {scope : Scope} {k i : Nat} {a : Str} {pn : List (Addr × Obj)} {xe : Value → Shared → Prop} {W : WX} {tb : XK → TE} {p1 p2 : Pos}
    (I : Inv X pins σ H s) (L : LamS X.env.scope scope) (hf : s.heap.get? f = some (PySem.W.kla_obj "<lambda>" (X.env.qual ++ "<lambda>") params body scope (cloFrom X.env.cells scope.names []) pm c' ctv)) (hfn : H f = none) (hfr : f ∉ frs X.stack)
    (bind0 : bindArgs (PySem.W.kla_fn "<lambda>" (X.env.qual ++ "<lambda>") params body scope (cloFrom X.env.cells scope.names []) pm (.ref c') ctv) ⟨[], []⟩ = pure [])
    (tk : Takes ((cxOf GX X.prog X.w X.K X.mg X.base GN gq gs g gcd X.A X.stack s H GE).tr pn xe) W) (hr : Room (k + 1) (X.A.deeper (envOfC gq gs s.heap.objs.size g gcd)))
    (inner : ∀ (A : Around) (outer : List Env) (s2 : Shared) (H2 : Hp) (E : XK), Room k (A.deeper (lamEnv X scope s2.heap.objs.size f c')) → PE (lamCx X A outer s2 H2 E scope f c') body (tb E))
    (hN : GN[i]? = some a) (hv : Vis gs a) (hd : (a == ("__debug__" : Str)) = false := by decide) (hcd : (a == ("__classdict__" : Str)) = false := by decide) :
    PE ((cxOf GX X.prog X.w X.K X.mg X.base GN gq gs g gcd X.A X.stack s H GE).tr pn xe) (.Call (.Name a p1) [] [] p2)
      (fun τ G Q => τ[i]? = some (some (.ref f)) ∧ G c' = some (CodeO c' (X.env.qual ++ "<lambda>")) ∧ tb (fun cls dd G' => W cls dd τ G') σ G Q) := by
  constructor
  intro pz sz τ G Q J ⟨at_, co, go⟩
  refine wpAny_Call_Name_kw (thn ((pe_var (pos := p1) (i := i) hN hv hd hcd).run pz sz τ G (fun v G1 => v = .ref f ∧ G1 = G) J ⟨.ref f, at_, rfl, rfl⟩) ?_)
  rintro u s1 ⟨v, G1, J1, rel, rfl, rfl⟩
  cases (show u = Value.ref f from rel)
  have held : s1.heap.get? f = some (PySem.W.kla_obj "<lambda>" (X.env.qual ++ "<lambda>") params body scope (cloFrom X.env.cells scope.names []) pm c' ctv) :=
    J1.base.keep f _ hf hfn hfr fun z => absurd (show f ∈ ([] : List Addr) from z) (by simp)
  refine PySem.W.callWith_F0 ⟨_, _, _, _, held⟩ ?_
  have base : Un (frs X.stack) [] H G1 s.heap s1.heap := J1.base
  obtain ⟨⟨oc, vs, t, k1, k2, k3⟩, -, -⟩ := J1.hok c' _ co
  have ran : codeAny (model X.prog X.w) (X.A.deeper (envOfC gq gs s.heap.objs.size g gcd)) (.call (.ref f) ⟨[], []⟩)
      (CR (L2.CX X.prog X.w) (envOfC gq gs s.heap.objs.size g gcd :: X.stack) X.prog X.w G1 s1 Q (fun cls dd G' => W cls dd τ G')) s1 := by
    refine PySem.W.kla_callFunE hr.depth held rfl L.co L.gen rfl ⟨c', oc, vs, t, rfl, k1, k2, k3⟩ ?_
    rw [bind0]
    refine wpAny_pure (wpAny_newFunctionEnv (fun y hy => (L.own y hy).2) (fun y hy => absurd hy (by simp)) (fun h₁ ns bt => ?_) L.kind)
    have up : ∀ b o, s1.heap.get? b = some o → h₁.get? b = some o := fun b o e =>
      bt.extBut b o (Nat.ne_of_lt (Heap.lt_size e)) (Heap.get?_push_of_some _ e)
    refine ⟨J1.nolimit.fresh _ bt, PySem.W.kla_codeExpr ?_⟩
    have start : Inv (lamCx X (X.A.deeper (envOfC gq gs s.heap.objs.size g gcd)) (envOfC gq gs s.heap.objs.size g gcd :: X.stack) s1 G1 (fun cls dd G' => W cls dd τ G') scope f c') [] σ G1
        { s1 with heap := h₁, toks := s1.toks + ([] : List (Str × Value)).length } := lam_start2 I L J1.env0 hr.hd base ns up
    refine wpAny_mono ((inner _ _ s1 G1 _ (hr.deeper _)).run [] _ _ G1 Q start go) ?_ fun e s' q => q
    rintro v s' ⟨w', G2, J2, rv, q⟩
    exact ⟨w', G2, J2.os, J2.bare, J2.base, J2.hok, rv, q⟩
  refine wpAny_call (codeAny_mono ran fun r s' q => ?_)
  match r, q with
  | .error e, q => exact passAt tk τ pz G1 s1 e s' J1 q
  | .ok (.ret u), q => exact J1.after q
end
/-- what the def g, which calls what it got, makes of the lambda's reading -/
def Gives (X : Cx) (GN : List Str) (x : Str) (gs : Scope) (g : Addr) (gcd : Value) (gb : List Stmt) (a q : Str) (TT : (XK → Hp → VK → Prop) → Hp → VK → Prop) : Prop :=
  ∀ (f c' : Addr) (s : Shared) (H : Hp) (Q : VK) (tl : XK → Hp → VK → Prop),
    (∀ (W : WX) (pn : List (Addr × Obj)) (xe : Value → Shared → Prop) (p1 p2 : Pos), Takes ((cxOf L2.CX0 X.prog X.w X.K X.mg X.base GN x gs g gcd X.A X.stack s H L2.E0).tr pn xe) W →
      PE ((cxOf L2.CX0 X.prog X.w X.K X.mg X.base GN x gs g gcd X.A X.stack s H L2.E0).tr pn xe) (.Call (.Name a p1) [] [] p2) (fun τ G Q => τ[0]? = some (some (.ref f)) ∧ G c' = some (CodeO c' q) ∧ tl (fun cls dd G' => W cls dd τ G') G Q)) →
    H c' = some (CodeO c' q) → TT tl H Q → ∃ t, PSs (cxOf L2.CX0 X.prog X.w X.K X.mg X.base GN x gs g gcd X.A X.stack s H L2.E0).nox gb t ∧ t { nx := fun _ G => Q .non G, rt := Q } (L2.start GN [.ref f]) H
section
variable {X : Cx}
/-- g(lambda: body) -/
theorem pe_lamS {T : List (Addr × Str)} {TT : (XK → Hp → VK → Prop) → Hp → VK → Prop} {x a : Str} {g c P : Addr} {k : Nat} {st : Stmt} {fd : FuncData} {GN : List Str} {params : Arguments} {body : Expr} {scope : Scope} {t : XK → TE} {p lp pos : Pos}
    (D : Df X.K X.mg x st [a] g fd) (S : FnScope GN [a] (defScope st)) (at0 : GN[0]? = some a) (va : Vis (defScope st) a) (gl : Gl X x)
    (gives : ∀ gcd, Gives X GN x (defScope st) g gcd (defBody st) a (X.env.qual ++ "<lambda>") TT) (B : TabB X.base X.mg c P) (code : X.env.code = .ref c) (mem : (P, X.env.qual ++ "<lambda>") ∈ T) (uni : ∀ p ∈ T, p.1 = P → p.2 = X.env.qual ++ "<lambda>")
    (hr : Room (k + 2) X.A) (L : LamS X.env.scope scope) (inner : ∀ (A : Around) (outer : List Env) (s2 : Shared) (H2 : Hp) (E : XK) (f c' : Addr), Room k (A.deeper (lamEnv X scope s2.heap.objs.size f c')) → PE (lamCx X A outer s2 H2 E scope f c') body (t E))
    (d0 : defaultsOf params X.env = ([], []) := by rfl) (bind0 : ∀ (q : Str) (cl : List (Str × Addr)) (pm cv ctv : Value), bindArgs (PySem.W.kla_fn "<lambda>" q params body scope cl pm cv ctv) ⟨[], []⟩ = pure [] := by intros; rfl)
    (hdb : (x == ("__debug__" : Str)) = false := by decide) (hd : (a == ("__debug__" : Str)) = false := by decide) (hcd : (a == ("__classdict__" : Str)) = false := by decide) :
    PE X (.Call (.Name x p) [.Lambda params body scope lp] [] pos) (tLam T TT t) := by
  obtain ⟨oc, od, kV, doc, pm, an, gcd, ct, osl, rfl, lk, cg⟩ := D.F.ex
  constructor
  intro pins s σ H Q I ⟨hT, h⟩
  refine wpAny_Call_Name_kw (ld_glob I gl D.g ?_ hdb)
  refine PySem.W.callWith_K (h₀ := X.base) I.ok.mod.kin D.F.kp ?_ (by rfl) (by rfl)
  show wpAny _ _ (spliced ((false, eval (.Lambda params body scope lp) X.env) :: backTo pos (starEach [] X.env))) _ _ s
  refine Calls.spliced_cons (lam_make2 I B code mem uni hT d0 (L.has I.ok) ?_)
  intro f c' pm' ctv H1 s' I1 eN T1 hf hfn hfr hco
  refine Calls.spliced_nil ⟨I1.kIn, wpAny_call (codeAny_mono ?_ fun r s2 (q : CR L2.CX0 X.stack X.prog X.w H1 s' Q L2.E0 r s2) => ?_)⟩
  · refine run_ofS (N := GN) (ps := [a]) (us := [.ref f]) (vs := [.ref f]) lk cg S hr I1.env0 (D.b s' [.ref f] I1.kIn rfl) (.cons rfl .nil) rfl fun hr' => ?_
    obtain ⟨t', ht', hq'⟩ := gives gcd f c' s' H1 Q (fun E G Q' => t E σ G Q')
      (fun W pn xe p1 p2 tk => pe_actS (i := 0) I1 L hf hfn hfr (bind0 _ _ _ _ _) tk hr' (fun A outer s2 H2 E hr2 => inner A outer s2 H2 E f c' hr2) at0 va hd hcd) hco (h H1 eN T1)
    exact ⟨t', ht'.nox, hq'⟩
  · match r, q with
    | .ok (.ret u), q => exact I1.after q
end
/-- try: a() / except C as e: .. / .. ; return None -/
def TTf (K : PySem.W.Frag) (i : Nat) (l : List (Value × (Addr → Value → Option Addr → TS))) : (XK → Hp → VK → Prop) → Hp → VK → Prop := fun tl H Q =>
  ∀ f : Addr, tl (fun cls dd G => wAsAll K i (fun _ _ _ _ => False) { nx := fun _ G' => Q .non G', rt := Q } l cls dd [some (.ref f), none] G) H fun _ G => Q .non G
theorem fault_gives {X : Cx} {a n x q : Str} {gs : Scope} {g : Addr} {gcd : Value} {h0 : ExceptHandler} {hds : List ExceptHandler} {l : List (Value × (Addr → Value → Option Addr → TS))} {j : Nat} {p1 p2 p3 p4 p5 p6 : Pos} (nd : [a, n].Nodup) (hln : gs.names.lookup n = some .local)
    (hh : ∀ (s : Shared) (H : Hp), AsOk (cxOf L2.CX0 X.prog X.w X.K X.mg X.base [a, n] x gs g gcd X.A X.stack s H L2.E0).nox n (h0 :: hds) l) :
    Gives X [a, n] x gs g gcd [.Try [.Expr (.Call (.Name a p1) [] [] p2) p3] (h0 :: hds) [] [] p4, .Return (some (.Constant .none j p5)) p6] a q (TTf X.K 1 l) := by
  intro f c' s H Q tl act hc h
  refine ⟨_, pss_cons (ps_try_asAll (X := (cxOf L2.CX0 X.prog X.w X.K X.mg X.base [a, n] x gs g gcd X.A X.stack s H L2.E0).nox) (i := 1)
    (tb := fun W D τ G => τ[0]? = some (some (.ref f)) ∧ G c' = some (CodeO c' q) ∧ tl (fun cls dd G' => W cls dd τ G') G fun _ G' => D.nx τ G') rfl rfl nd rfl hln LamX.takes0 (fun W pn xe tk _ => ?_) (hh s H)) (pss_one (ps_ret pe_non)), ?_⟩
  · constructor
    intro pins s' τ G D I go
    exact (pss_one (ps_expr (act W pn xe p1 p2 tk))).run pins s' τ G D I go
  · exact ⟨rfl, hc, h f⟩
end K1
set_option Elab.async false
set_option linter.all false
set_option maxRecDepth 100000
/-! a clause's suite that tells a tag and the error's fields -/
namespace K1
open PySem L2
def Has (gs : List (Str × V)) : List Str → List V → Prop
  | [], [] => True
  | f :: r, v :: vs => gs.lookup f = some v ∧ Has gs r vs
  | _, _ => False
def tFs (i : Nat) (C a : Addr) (cl : Value) (dd : Option Addr) : List Str → TA
  | [] => tNil
  | f :: r => tCons (tXf a cl dd C f (tVar i)) (tFs i C a cl dd r)
/-- return (tag, e.f, ..) -/
def suiteT (i : Nat) (C : Addr) (tag : Str) (fs : List Str) : Addr → Value → Option Addr → TS := fun a cl dd => tRet (tTup (tCons (tC (.str tag)) (tFs i C a cl dd fs)))
theorem tFs_read {i : Nat} {C a d : Addr} {gs : List (Str × V)} {σ : St} {G : Hp} (hσ : σ[i]? = some (some (.ref a))) (hd : G d = some (.xd gs)) : ∀ (fs : List Str) (vs : List V), Has gs fs vs → ∀ {Q : List V → Hp → Prop}, Q vs G → tFs i C a (.ref C) (some d) fs σ G Q
  | [], [], _, _, k => k
  | [], _ :: _, h, _, _ => h.elim
  | _ :: _, [], h, _, _ => h.elim
  | f :: r, v :: vs, h, Q, k => by
    obtain ⟨h1, h2⟩ := h
    exact ⟨_, hσ, rfl, rfl, d, gs, v, rfl, hd, h1, tFs_read hσ hd r vs h2 k⟩
theorem suiteT_read {i : Nat} {C a d : Addr} {tag : Str} {fs : List Str} {vs : List V} {gs : List (Str × V)} {D : Ends} {σ : St} {G : Hp} (hσ : σ[i]? = some (some (.ref a))) (hd : G d = some (.xd gs)) (h : Has gs fs vs) (hl : vs.length ≤ 10)
    (k : ∀ p, G p = none → D.rt (.ref p) (upd G p (.tup (.str tag :: vs)))) : suiteT i C tag fs a (.ref C) (some d) D σ G :=
  tFs_read hσ hd fs vs h ⟨by simp; exact Nat.le_of_lt (small1000 (by omega)), k⟩
end K1
set_option Elab.async false
set_option linter.all false
set_option maxRecDepth 100000
/-! a def whose body may ask what is under way -/
namespace K1
open PySem PySem.Spec PyProof.Rows L2 LamX
section
variable {P : Program} {w : World} {K : PySem.W.Frag} {mg : Str → Option Value} {base : Heap}
theorem FunC.okG {x qual : Str} {st : Stmt} {f c : Addr} {fd : FuncData} {N ps : List Str} {k : Nat} {sp : Sp} (F : FunC K x qual st f fd c) (S : FnScope N ps (defScope st)) (len : ∀ vs H Q E, sp vs H Q E → vs.length = ps.length)
    (body : ∀ (g : List Code) (A : Around) (outer : List Env) (s : Shared) (H : Hp) (vs : List V) (Q : VK) (E : XK), A.guards = some g → Room k (A.deeper (envOfC qual (defScope st) s.heap.objs.size f (.ref c))) → sp vs H Q E →
      ∃ t, PSs (cxOf L2.CX0 P w K mg base N qual (defScope st) f (.ref c) A outer s H E).nox (defBody st) t ∧ t { nx := fun _ H' => Q .non H', rt := Q } (L2.start N vs) H) : FnOk P w K mg base L2.CX0 (k + 1) f fd ps sp := by
  obtain ⟨oc, od, kV, doc, pm, an, ct, osl, rfl, l, cc⟩ := F.ex
  refine ⟨len, fun A outer s H args us vs Q E hr e0 hb r hsp => RpR.told_guards fun g => ?_⟩
  exact run_ofS (A := { A with guards := some g }) l cc S ⟨hr.hd, hr.dp, hr.un⟩ ⟨e0.frames, e0.mod, e0.bs, e0.bsz, e0.funs, e0.frf, e0.hok, e0.bare⟩ hb r (len _ _ _ _ hsp) fun hr' => (body g { A with guards := some g } outer s H vs Q E rfl hr' hsp).imp fun t ht => ⟨ht.1.nox, ht.2⟩
end
end K1
set_option Elab.async false
set_option linter.all false
set_option maxRecDepth 100000
/-! the end of a law whose defs make lambdas: the tables of all defs -/
namespace K1
open PySem PySem.Spec PyProof.Rows L2 LamX
/-- the code object of each def of the text and its table, still empty -/
def OwnTabs (q : Program) (mg : Str → Option Value) (h : Heap) : Prop :=
  ∀ e ∈ recsOf q, ∃ (f : Addr) (o : Obj) (fd : FuncData) (c P : Addr), mg e.name = some (.ref f) ∧ h.get? f = some o ∧ o.data = .func fd ∧ fd.code = .ref c ∧ PySem.W.CodeHd h c P ∧ h.get? P = some { cls := .none, data := .fields #[] }
theorem tab_at {q : Program} {mg : Str → Option Value} {K : PySem.W.Frag} {h : Heap} {x : Str} {f c P : Addr} {oc e : Value} {od dd : Option Addr} {fd : FuncData} {sl s2 : Array (Option Value)} {vs : Array Value} (X : K.In h) (O : OwnTabs q mg h) (hx : ((recsOf q).any fun e => e.name == x) = true)
    (g : mg x = some (.ref f)) (l : K.lookup f = some ⟨oc, od, .func fd, sl⟩) (hc : fd.code = .ref c) (lc : K.lookup c = some ⟨e, dd, .fields vs, s2⟩) (h11 : vs[11]? = some (.ref P)) : PySem.W.CodeHd h c P ∧ h.get? P = some { cls := .none, data := .fields #[] } := by
  obtain ⟨r, hr, er⟩ := List.any_eq_true.mp hx
  obtain ⟨f', o, fd', c', P', a1, a2, a3, a4, a5, a6⟩ := O r hr
  rw [beq_iff_eq.mp er, g] at a1
  cases a1
  rw [X _ _ l] at a2
  cases a2
  cases a3
  rw [hc] at a4
  cases a4
  obtain ⟨o, ws, _, _, _, _, _, _, _, b1, _, b3, b4, _⟩ := id a5
  rw [X _ _ lc] at b1
  cases b1
  cases b3
  rw [h11] at b4
  cases b4
  exact ⟨a5, a6⟩
theorem walk_tabs {l : PySem.W.OpenLaw} {n k : Nat} {q : Program} {loose : List Str} {XP : (Str → Option Value) → Heap → Prop} {YP : World → Heap → Prop} {d : DefRec} {K : Params → PySem.W.Frag} {CX : World → CXT} {x : Str}
    (hn : l.most = some n) (hs : n ≤ sizeLine) (hd : d.params.defaults = []) (hr : Room k callerA) (hY : ∀ (w : World) (h : Heap), YP w h → (K w.params).In h)
    (F : ∀ (w : World) (mg : Str → Option Value) (fa : Addr) (h : Heap), YP w h → (K w.params).In h → h.Ns mainGlobals mg → mg d.name = some (.ref fa) → OwnTabs q mg h → LawAtS l w (K w.params) (CX w) k n x mg fa h)
    (hC : ∀ (w : World) (H : Hp) (s : Shared) (e : Value) (s' : Shared), CX w [] H s (fun _ _ _ => False) e s' → False) :
    PySem.W.WalkO q loose XP YP l.row.toRowW d [] (fun f vs => PySem.call f vs) := by
  refine Att.attach_callB hn hd ?_
  intro w s₀ s₁ mg mb fa o pm cd doc a vs ns G Y ho hdt hcd hmg hobj hints hlen hbits hg
  have tabs : OwnTabs q mg s₁.heap := fun e he => by
    obtain ⟨f, o, fd, c, P, b1, b2, b3, b4, b5, b6⟩ := G.T.tab e he
    exact ⟨f, o, fd, c, P, b1, b2, b3, b4, PySem.W.CodeHd.of b5 b6, b6.2⟩
  obtain ⟨fd, cs, sp, t1, t2, t3, b, s, f⟩ := F w mg fa _ Y (hY w _ Y) G.T.g hmg tabs
  exact law_callTs (hY w _ Y) G.T.g G.T.b G.T.builtins G.T.nolimit hg t1 t2 t3 G.T.bmain hobj hints (Nat.le_trans hlen hs) hr f b (fun H hH hS => s H a ns hlen hbits hH hS) fun H e s' => hC w H s₁ e s'
theorem exm_of {K : PySem.W.Frag} {S N : Addr} {b : Bool} (h1 : PySem.W.subIn K (.ref N) (.type "BaseException") = some true) (h2 : PySem.W.isClsIn K N = true) (h3 : PySem.W.typeIn K (.ref N) = some (.type "type")) (h4 : PySem.W.subIn K (.ref S) (.ref N) = some b) :
    PySem.W.exmOne K (.ref S) (.ref N) = some b := by
  have e1 : (PySem.W.subIn K (.ref N) (.type "BaseException") == some true) = true := by rw [h1] <;> rfl
  have e2 : ((PySem.W.clsIn K N).isSome && PySem.W.typeIn K (.ref N) == some (.type "type")) = true := by
    have h2' : (PySem.W.clsIn K N).isSome = true := h2
    rw [h2', h3] <;> rfl
  show (if (PySem.W.subIn K (.ref N) (.type "BaseException") == some true) = true then (if ((PySem.W.clsIn K N).isSome && PySem.W.typeIn K (.ref N) == some (.type "type")) = true then PySem.W.subIn K (.ref S) (.ref N) else none) else none) = some b
  rw [if_pos e1, if_pos e2]
  exact h4
end K1
set_option Elab.async false
set_option linter.all false
set_option maxRecDepth 100000
/-! what is refused, and how it is told -/
namespace K1
open PySem L2 LamX RpR
abbrev sRefX : Stmt := top 21
abbrev pRefX : List Str := ["_law_call"]
abbrev nRefX : List Str := ["_law_call", "e"]
theorem scRefX : FnScope nRefX pRefX (defScope sRefX) := ⟨rfl, rfl, rfl, by decide +kernel, rfl, by decide +kernel, by decide +kernel⟩
/-- return (tag, repr(e.f)) -/
def suiteR (g : List Code) (i : Nat) (C : Addr) (tag f : Str) : Addr → Value → Option Addr → TS := fun a cl dd => tRet (tTup (tCons (tC (.str tag)) (tCons (tCB (rReprG g) (tCons (tXf a cl dd C f (tVar i)) tNil)) tNil)))
def suite0 (tag : Str) : Addr → Value → Option Addr → TS := fun _ _ _ => tRet (tTup (tCons (tC (.str tag)) tNil))
/-- the errors' classes -/
structure Cs where
  CA : Addr
  CS : Addr
  CN : Addr
  CU : Addr
  CL : Addr
def clauses (g : List Code) (c : Cs) : List (Value × (Addr → Value → Option Addr → TS)) :=
  [(.ref c.CA, suiteR g 1 c.CA "act" "states"), (.ref c.CS, suiteR g 1 c.CS "state" "state"), (.ref c.CN, suiteR g 1 c.CN "number" "number"), (.ref c.CU, suiteT 1 c.CU "uneven" ["many", "most"]), (.ref c.CL, suite0 "other")]
theorem gives_refx {X : Cx} {gs : List Code} (hgs : X.A.guards = some gs) (hu : X.A.units + 100 < cLine) {g fA fS fN fU : Addr} {c : Cs} {fdA fdS fdN fdU : FuncData} {gcd : Value} {q : Str} (OA : OBadAct X.K X.mg c.CA fA fdA) (OS : OBadState X.K X.mg c.CS fS fdS) (ON : OBadNumber X.K X.mg c.CN fN fdN) (OU : OUneven X.K X.mg c.CU fU fdU) (hL : X.mg "LooksError" = some (.ref c.CL)) (hrp : X.mg "repr" = none) :
    Gives X nRefX "_law_refused" (defScope sRefX) g gcd (defBody sRefX) "_law_call" q (TTf X.K 1 (clauses gs c)) := by
  refine fault_gives scRefX.nd rfl fun s H => ?_
  exact (.cons (x := "BadAct") ⟨rfl, by decide, .inl OA.g⟩ (fun a oe cl dd pn hz hf => pss_one (ps_ret (pe_tup (pa_cons pe_str (pa_cons (pe_callB (call_repr_G (g := gs) hgs (by show X.A.units + 3 + 1 < cLine; omega)) (by rfl) hrp PyProof.Rows.boot_repr (pa_cons (pe_xf OA.xf (OA.no "states" (by simp)) hz hf (pv 1)) pa_nil)) pa_nil)))))
    (.cons (x := "BadState") ⟨rfl, by decide, .inl OS.g⟩ (fun a oe cl dd pn hz hf => pss_one (ps_ret (pe_tup (pa_cons pe_str (pa_cons (pe_callB (call_repr_G (g := gs) hgs (by show X.A.units + 3 + 1 < cLine; omega)) (by rfl) hrp PyProof.Rows.boot_repr (pa_cons (pe_xf OS.xf (OS.no "state" (by simp)) hz hf (pv 1)) pa_nil)) pa_nil)))))
    (.cons (x := "BadNumber") ⟨rfl, by decide, .inl ON.g⟩ (fun a oe cl dd pn hz hf => pss_one (ps_ret (pe_tup (pa_cons pe_str (pa_cons (pe_callB (call_repr_G (g := gs) hgs (by show X.A.units + 3 + 1 < cLine; omega)) (by rfl) hrp PyProof.Rows.boot_repr (pa_cons (pe_xf ON.xf (ON.no "number" (by simp)) hz hf (pv 1)) pa_nil)) pa_nil)))))
    (.cons (x := "Uneven") ⟨rfl, by decide, .inl OU.g⟩ (fun a oe cl dd pn hz hf => pss_one (ps_ret (pe_tup (pa_cons pe_str (pa_cons (pe_xf OU.xf (OU.no "many" (by simp)) hz hf (pv 1)) (pa_cons (pe_xf OU.xf (OU.no "most" (by simp)) hz hf (pv 1)) pa_nil))))))
    (.cons (x := "LooksError") ⟨rfl, by decide, .inl hL⟩ (fun a oe cl dd pn hz hf => pss_one (ps_ret (pe_tup (pa_cons pe_str pa_nil)))) .nil)))))
/-- the errors' classes, told apart -/
structure Ee (K : PySem.W.Frag) (c : Cs) : Prop where
  aa : PySem.W.exmOne K (.ref c.CA) (.ref c.CA) = some true
  sa : PySem.W.exmOne K (.ref c.CS) (.ref c.CA) = some false
  ss : PySem.W.exmOne K (.ref c.CS) (.ref c.CS) = some true
  na : PySem.W.exmOne K (.ref c.CN) (.ref c.CA) = some false
  ns : PySem.W.exmOne K (.ref c.CN) (.ref c.CS) = some false
  nn : PySem.W.exmOne K (.ref c.CN) (.ref c.CN) = some true
  ua : PySem.W.exmOne K (.ref c.CU) (.ref c.CA) = some false
  us : PySem.W.exmOne K (.ref c.CU) (.ref c.CS) = some false
  un : PySem.W.exmOne K (.ref c.CU) (.ref c.CN) = some false
  uu : PySem.W.exmOne K (.ref c.CU) (.ref c.CU) = some true
abbrev WF (K : PySem.W.Frag) (g : List Code) (c : Cs) (f : Addr) (Q : VK) : XK := fun cls dd G => wAsAll K 1 (fun _ _ _ _ => False) { nx := fun _ G' => Q .non G', rt := Q } (clauses g c) cls dd [some (.ref f), none] G
section
variable {K : PySem.W.Frag} {g : List Code} {c : Cs} {H1 : Hp} {Q : VK}
theorem suiteR_read {i : Nat} {C a d : Addr} {tag f : Str} {v : V} {t : Str} {gs : List (Str × V)} {D : Ends} {σ : St} {G : Hp} (hσ : σ[i]? = some (some (.ref a))) (hd : G d = some (.xd gs)) (hf : gs.lookup f = some v) (rp : Rp g G v t)
    (k : ∀ p, G p = none → D.rt (.ref p) (upd G p (.tup [.str tag, .str t]))) : suiteR g i C tag f a (.ref C) (some d) D σ G :=
  ⟨_, hσ, rfl, rfl, d, gs, v, rfl, hd, hf, v, t, rfl, rp, Nat.le_of_ble_eq_true rfl, k⟩
theorem rs_a (EE : Ee K c) {v : V} {t : Str} (rp : Rp g H1 v t) (k : ∀ p G, Same H1 G → H1 p = none → G p = some (.tup [.str "act", .str t]) → Q (.ref p) G) (f : Addr) : Rs c.CA ["states"] [v] H1 (WF K g c f Q) := by
  intro d G sG hd eG
  exact ⟨true, EE.aa, fun _ a ha => suiteR_read rfl eG rfl (rp.same sG) fun p hp => k p _ (sG.trans (same_upd hp)) (sG.free hp) upd_same, fun q => nomatch q⟩
theorem rs_s (EE : Ee K c) {v : V} {t : Str} (rp : Rp g H1 v t) (k : ∀ p G, Same H1 G → H1 p = none → G p = some (.tup [.str "state", .str t]) → Q (.ref p) G) (f : Addr) : Rs c.CS ["state"] [v] H1 (WF K g c f Q) := by
  intro d G sG hd eG
  exact ⟨false, EE.sa, (fun q => nomatch q), fun _ => ⟨true, EE.ss, fun _ a ha => suiteR_read rfl eG rfl (rp.same sG) fun p hp => k p _ (sG.trans (same_upd hp)) (sG.free hp) upd_same, fun q => nomatch q⟩⟩
theorem rs_n (EE : Ee K c) {v : V} {t : Str} (rp : Rp g H1 v t) (k : ∀ p G, Same H1 G → H1 p = none → G p = some (.tup [.str "number", .str t]) → Q (.ref p) G) (f : Addr) : Rs c.CN ["number"] [v] H1 (WF K g c f Q) := by
  intro d G sG hd eG
  exact ⟨false, EE.na, (fun q => nomatch q), fun _ => ⟨false, EE.ns, (fun q => nomatch q), fun _ => ⟨true, EE.nn, fun _ a ha => suiteR_read rfl eG rfl (rp.same sG) fun p hp => k p _ (sG.trans (same_upd hp)) (sG.free hp) upd_same, fun q => nomatch q⟩⟩⟩
theorem rs_u (EE : Ee K c) {u v : V} (k : ∀ p G, Same H1 G → H1 p = none → G p = some (.tup [.str "uneven", u, v]) → Q (.ref p) G) (f : Addr) : Rs c.CU ["many", "most"] [u, v] H1 (WF K g c f Q) := by
  intro d G sG hd eG
  exact ⟨false, EE.ua, (fun q => nomatch q), fun _ => ⟨false, EE.us, (fun q => nomatch q), fun _ => ⟨false, EE.un, (fun q => nomatch q), fun _ => ⟨true, EE.uu, fun _ a ha => suiteT_read (vs := [u, v]) rfl eG ⟨rfl, rfl, trivial⟩ (Nat.le_of_ble_eq_true rfl) fun p hp => k p _ (sG.trans (same_upd hp)) (sG.free hp) upd_same, fun q => nomatch q⟩⟩⟩⟩
end
end K1
set_option Elab.async false
set_option linter.all false
set_option maxRecDepth 100000
/-! _law_powers -/
namespace K1
open PySem L2 LamX
abbrev sPow : Stmt := top 22
/-- tuples of naturals at as -/
def TupsAt (H : Hp) (as : List Addr) (ls : List (List Nat)) : Prop := as.length = ls.length ∧ ∀ (i : Nat) (a : Addr) (l : List Nat), as[i]? = some a → ls[i]? = some l → H a = some (.tup ((natI l).map V.int))
theorem TupsAt.same {H H' : Hp} {as : List Addr} {ls : List (List Nat)} (h : TupsAt H as ls) (s : Same H H') : TupsAt H' as ls := ⟨h.1, fun i a l e1 e2 => s _ _ (h.2 i a l e1 e2)⟩
theorem TupsAt.updL {H : Hp} {as : List Addr} {ls : List (List Nat)} {L : Addr} {xs ys : List V} (h : TupsAt H as ls) (e : H L = some (.lst xs)) : TupsAt (upd H L (.lst ys)) as ls :=
  ⟨h.1, fun i a l e1 e2 => by rw [upd_ne (ne_of (h.2 i a l e1 e2) e (by intro z; cases z))]; exact h.2 i a l e1 e2⟩
theorem TupsAt.snoc {H : Hp} {as : List Addr} {ls : List (List Nat)} {a : Addr} {l : List Nat} (h : TupsAt H as ls) (e : H a = some (.tup ((natI l).map V.int))) : TupsAt H (as ++ [a]) (ls ++ [l]) := by
  refine ⟨by simp [h.1], fun i b m e1 e2 => ?_⟩
  by_cases hi : i < as.length
  · rw [List.getElem?_append_left hi] at e1
    rw [List.getElem?_append_left (by rw [← h.1]; exact hi)] at e2
    exact h.2 i b m e1 e2
  · rw [List.getElem?_append_right (by omega)] at e1
    rw [List.getElem?_append_right (by rw [← h.1]; omega), ← h.1] at e2
    have : i - as.length = 0 := by
      have := (List.getElem?_eq_some_iff.mp e1).1
      simp at this
      omega
    rw [this] at e1 e2
    cases e1; cases e2; exact e
def powsL (f : List Nat) (m : Nat) : List (List Nat) := (List.range m).map (powL f)
theorem powsL_succ (f : List Nat) (m : Nat) : powsL f (m + 1) = powsL f m ++ [powL f m] := by unfold powsL; rw [List.range_succ, List.map_append]; rfl
theorem powsL_len (f : List Nat) (m : Nat) : (powsL f m).length = m := by simp [powsL]
def spPow (K : PySem.W.Frag) : Sp := fun vs H Q _ => ∃ (a : Addr) (f : List Nat) (m : Nat), vs = [.ref a, .int (m : Int)] ∧ SqT K H a ((natI f).map V.int) ∧ ActOk f ∧ 1 ≤ m ∧ m ≤ 60 ∧
  ∀ (L : Addr) (as : List Addr) (H' : Hp), H L = none → Same H H' → H' L = some (.lst (as.map V.ref)) → TupsAt H' as (powsL f m) → Q (.ref L) H'
section
variable {P : Program} {w : World} {K : PySem.W.Frag} {mg : Str → Option Value} {base : Heap}
abbrev pPow : List Str := ["_law_a", "_law_many"]
abbrev nPow : List Str := ["_law_a", "_law_many", "_law_found", "_law_k"]
theorem scPow : FnScope nPow pPow (defScope sPow) := ⟨rfl, rfl, rfl, by decide +kernel, rfl, by decide +kernel, by decide +kernel⟩
theorem ok_pow {f : Addr} {fd : FuncData} (D : Df K mg "_law_powers" sPow pPow f fd) (T : Bt3 mg) (hrg : mg "range" = none) : FnOk P w K mg base CX0 1 f fd pPow (spPow K) := by
  refine D.F.ok scPow (fun vs H Q E h => ?_) (fun cdv A outer s H vs Q E hr h => ?_)
  · obtain ⟨a, f', m, rfl, _⟩ := h
    rfl
  · obtain ⟨a, ff, m, rfl, ha, of, m1, m60, k⟩ := h
    refine ⟨_, pss_cons (ps_set (i := 2) scPow.nd rfl (Or.inl rfl) (pe_lst (pa_cons (pe_tupRg rfl rfl T.tuple (prg_1 rfl hrg (pe_callB call_len (by rfl) T.len PySem.boot_len (pa_cons (pv 0) pa_nil)))) pa_nil)))
      (pss_cons (ps_while PassesOwn.never (pt_cmpR op_lt (pe_callB call_len (by rfl) T.len PySem.boot_len (pa_cons (pv 2) pa_nil)) (pv 1) (nomark _))
        (pss_one (ps_expr (pe_bm PySem.F.plainAttrs_list PySem.F.slot_list_append PySem.F.type_list_append mt_append (pv 2) (pa_cons
          (pe_callTy (r := rTuA K) call_tuple_of (by rfl) T.tuple PyProof.Rows.boot_tuple (pa_cons (pe_lc (own := [("_law_k", 3)]) (g := gName 3) (by rfl) scPow.nd (pi_tup (pe_ix (r := rIxL K) ix_list (pv 2) (pe_un un_neg pe_int) (fun _ _ => rfl)))
            (blkOk_by (own := [("_law_k", 3)]) (N := nPow) (sc := defScope sPow) (by decide +kernel)) (fun _ _ _ _ _ => pg_name (i := 3) scPow.nd rfl (Or.inl rfl)) (fun _ _ _ _ _ => pts_nil)
            (fun _ _ _ _ _ => pe_ix (r := rIxT K) ix_tup (pv 0) (pv 3) (fun _ _ => rfl))) pa_nil)) pa_nil)))))
      (pss_one (ps_ret (pv 2)))), ?_⟩
    have hnI : ∀ l : List Nat, (natI l).length = l.length := fun l => List.length_map _
    have la : LenV K (.ref a) H ff.length := .inr ⟨_, ha, by rw [List.length_map, hnI]⟩
    have h60 := of.2.1
    refine ⟨_, rfl, _, ff.length, rfl, la, _, rfl, RgOk.of_le (by omega) (by omega) (by omega) (by omega), fun d hd => ?_⟩
    have s1 : Same H (upd H d (.tup (rgV 0 ff.length))) := same_upd hd
    have hD : upd H d (.tup (rgV 0 ff.length)) d = some (.tup ((natI (powL ff 0)).map V.int)) := by
      rw [upd_same, eRg]; rfl
    generalize upd H d (.tup (rgV 0 ff.length)) = H1 at s1 hD ⊢
    refine ⟨Nat.le_of_ble_eq_true rfl, fun L hL => ?_⟩
    have zL : H L = none := s1.free hL
    have s2 := s1.trans (same_upd (o := .lst [V.ref d]) hL)
    have eL : upd H1 L (.lst [V.ref d]) L = some (.lst ([d].map V.ref)) := upd_same
    have tD : TupsAt (upd H1 L (.lst [V.ref d])) [d] (powsL ff 1) := ⟨rfl, fun i b l e1 e2 => by
      match i, e1, e2 with
      | 0, e1, e2 => cases e1; cases e2; rw [upd_ne (ne_of_none hD hL)]; exact hD
      | i + 1, e1, e2 => simp at e1⟩
    generalize upd H1 L (.lst [V.ref d]) = H2 at s2 eL tD ⊢
    refine while_ix (fun r σ H' => ∃ (as : List Addr) (j : Nat) (v3 : Option V), σ = [some (.ref a), some (.int m), some (.ref L), v3] ∧ Same H H' ∧ H' L = some (.lst (as.map V.ref)) ∧ TupsAt H' as (powsL ff (j + 1)) ∧ j + 1 + r = m) (m - 1) ⟨[d], 0, none, rfl, s2, eL, tD, by omega⟩ ?_ ?_
    · rintro r σ H3 ⟨as, j, v3, rfl, s3, eL3, tA, e⟩
      have lA : as.length = j + 1 := by rw [tA.1, powsL_len]
      refine ⟨_, rfl, _, j + 1, rfl, .inl ⟨_, SqL.of eL3, by rw [List.length_map, lA]⟩, _, rfl, _, _, rfl, rfl, _, rfl, ?_⟩
      refine ite2 (fun hg => ?_) (fun hg => ?_)
      · have hm : j + 1 < m := by have := of_decide_eq_true hg; omega
        obtain ⟨ok1, ol1⟩ := pow_ok of j
        obtain ⟨b, eb⟩ : ∃ b, as[j]? = some b := ⟨_, List.getElem?_eq_getElem (by omega)⟩
        have el : (powsL ff (j + 1))[j]? = some (powL ff j) := by rw [powsL_succ, List.getElem?_append_right (by rw [powsL_len]; exact Nat.le_refl _), powsL_len, Nat.sub_self]; rfl
        have hb := tA.2 j b _ eb el
        have eA : as = as.take j ++ [b] := by
          conv => lhs; rw [← List.take_length (l := as), lA, List.take_add_one, eb]
          rfl
        refine ⟨_, rfl, .inl ⟨rfl, _, SqL.of eL3⟩, ?_⟩
        refine ⟨_, rfl, 1, rfl, L, as.map V.ref, -1, V.ref b, rfl, rfl, SqL.of eL3, by rw [eA, List.map_append]; exact atI_last _ _, b, rfl, ⟨_, SqT.of hb⟩, fun D1 hD1 => ?_⟩
        refine lc_tup (K := K) (a := b) (xs := (natI (powL ff j)).map V.int) (fun i H' => Same H3 H' ∧ H' D1 = some (.lst ((natI ((folL (powL ff j) ff).take i)).map V.int))) ?_ ?_ ?_ ?_
        · exact ⟨same_upd hD1, upd_same⟩
        · exact fun i H' _ q => (SqT.of hb).ext q.1
        · rintro i y H4 hi ⟨s4, hD4⟩
          unfold natI at hi
          rw [List.getElem?_map, List.getElem?_map] at hi
          obtain ⟨z, ez, rfl⟩ := Option.map_eq_some_iff.mp hi
          obtain ⟨x, ex, rfl⟩ := Option.map_eq_some_iff.mp ez
          have hil := (List.getElem?_eq_some_iff.mp ex).1
          have hx := ok1.2.2 x (List.mem_of_getElem? ex)
          rw [ol1] at hx
          have eg : ff[x]? = some (ff.getD x 0) := by rw [List.getD_eq_getElem?_getD, List.getElem?_eq_getElem hx]; rfl
          have en : (folL (powL ff j) ff)[i]? = some (ff.getD x 0) := by unfold folL; rw [List.getElem?_map, ex]; rfl
          refine ⟨rfl, _, rfl, _, rfl, a, _, _, V.int ((ff.getD x 0 : Nat) : Int), rfl, rfl, ha.ext (s3.trans s4), atI_nat (by unfold natI; rw [List.getElem?_map, List.getElem?_map, eg]; rfl), ?_⟩
          refine ⟨_, hD4, ?_, fun b' o e => by rw [upd_ne (ne_of_none e hD1)]; exact s4 b' o e, ?_⟩
          · rw [List.length_map, hnI, List.length_take, sizeLine_eq]; omega
          · rw [upd_same, List.take_add_one, en]; unfold natI; rw [List.map_append, List.map_append]; rfl
        · rintro H4 ⟨s4, hD4⟩
          rw [List.take_of_length_le (by rw [List.length_map, hnI]; unfold folL; rw [List.length_map]; exact Nat.le_refl _)] at hD4
          refine ⟨D1, _, rfl, .inl ⟨SqL.of hD4, fun q hq => ?_⟩⟩
          have s5 := same_upd (o := .tup ((natI (folL (powL ff j) ff)).map V.int)) hq
          refine ⟨L, _, _, rfl, rfl, s5 _ _ (s4 _ _ eL3), by rw [List.length_map, lA, sizeLine_eq]; omega, ?_⟩
          refine ⟨r - 1, by omega, as ++ [q], j + 1, v3, rfl, fun b' o e' => ?_, ?_, ?_, by omega⟩
          · have n : b' ≠ L := ne_of_none e' zL
            rw [upd_ne n]
            exact s5 _ _ (s4 _ _ (s3 _ _ e'))
          · rw [upd_same, List.map_append]; rfl
          · rw [powsL_succ]
            refine TupsAt.updL (TupsAt.snoc ((tA.same s4).same s5) ?_) (s5 _ _ (s4 _ _ eL3))
            exact upd_same
      · have hm : r = 0 := by
          rcases Nat.eq_zero_or_pos r with z | z
          · exact z
          · exact absurd (decide_eq_true (by omega)) hg
        subst hm
        obtain rfl : j + 1 = m := by omega
        exact ⟨_, rfl, k L as H3 zL s3 eL3 tA⟩
    · rintro σ H' Q1 Q2 hQ ⟨v1, e1, x1, n1, h1, h2, v2, e2, i1, i2, h3, h4, c, h5, h6⟩
      exact ⟨v1, e1, x1, n1, h1, h2, v2, e2, i1, i2, h3, h4, c, h5, hQ _ _ h6⟩
end
end K1
set_option Elab.async false
set_option linter.all false
set_option maxRecDepth 100000
set_option maxHeartbeats 1000000
/-! _law_is_act -/
namespace K1
open PySem L2 LamX
abbrev sIcA : Stmt := top 23
theorem sorted_ext : ∀ (a b : List Int), a.Pairwise (· < ·) → b.Pairwise (· < ·) → (∀ k, k ∈ a ↔ k ∈ b) → a = b
  | [], [], _, _, _ => rfl
  | [], y :: ys, _, _, h => absurd ((h y).mpr List.mem_cons_self) List.not_mem_nil
  | x :: xs, [], _, _, h => absurd ((h x).mp List.mem_cons_self) List.not_mem_nil
  | x :: xs, y :: ys, pa, pb, h => by
    obtain ⟨a1, a2⟩ := List.pairwise_cons.mp pa
    obtain ⟨b1, b2⟩ := List.pairwise_cons.mp pb
    have e : x = y := by
      rcases List.mem_cons.mp ((h x).mp List.mem_cons_self) with e | e
      · exact e
      · rcases List.mem_cons.mp ((h y).mpr List.mem_cons_self) with e' | e'
        · exact e'.symm
        · have := a1 y e'
          have := b1 x e
          omega
    subst e
    rw [sorted_ext xs ys a2 b2 fun k => ⟨fun hk => ?_, fun hk => ?_⟩]
    · rcases List.mem_cons.mp ((h k).mp (List.mem_cons_of_mem _ hk)) with e | e
      · have := a1 k hk
        omega
      · exact e
    · rcases List.mem_cons.mp ((h k).mpr (List.mem_cons_of_mem _ hk)) with e | e
      · have := b1 k hk
        omega
      · exact e
/-- the states that an act leads to -/
def imL (f : List Nat) : List Nat := (List.range f.length).filter fun k => decide (k ∈ f)
theorem mem_natI {k : Int} {f : List Nat} : k ∈ natI f ↔ ∃ x ∈ f, (x : Int) = k := by
  unfold natI; rw [List.mem_map]
theorem im_eq {f : List Nat} (of : ActOk f) {is : List Int} (hp : is.Pairwise (· < ·)) (hm : ∀ k : Int, k ∈ is ↔ k ∈ natI f) : is = natI (imL f) := by
  refine sorted_ext _ _ hp ?_ fun k => ?_
  · refine List.Pairwise.map _ (fun a b h => ?_) (List.Pairwise.filter _ List.pairwise_lt_range)
    exact Int.ofNat_lt.mpr h
  · rw [hm k, mem_natI, mem_natI]
    constructor
    · rintro ⟨x, hx, e⟩
      exact ⟨x, List.mem_filter.mpr ⟨List.mem_range.mpr (of.2.2 x hx), decide_eq_true hx⟩, e⟩
    · rintro ⟨x, hx, e⟩
      exact ⟨x, of_decide_eq_true (List.mem_filter.mp hx).2, e⟩
theorem im_succ (f : List Nat) (i : Nat) : ((List.range (i + 1)).filter fun k => decide (k ∈ f)) = ((List.range i).filter fun k => decide (k ∈ f)) ++ (if decide (i ∈ f) = true then [i] else []) := by
  rw [List.range_succ, List.filter_append, List.filter_cons, List.filter_nil]
theorem inV_nat (i : Nat) (f : List Nat) : inV (.int (0 + (i : Int))) ((natI f).map V.int) = decide (i ∈ f) := by
  unfold inV natI
  rw [List.map_map, List.any_map]
  rw [Bool.eq_iff_iff, List.any_eq_true, decide_eq_true_eq]
  constructor
  · rintro ⟨x, hx, e⟩
    have e' : ((x : Int) == 0 + (i : Int)) = true := e
    have : x = i := by have := beq_iff_eq.mp e'; omega
    exact this ▸ hx
  · intro h
    refine ⟨i, h, ?_⟩
    show ((i : Int) == 0 + (i : Int)) = true
    rw [Int.zero_add]; exact beq_self_eq_true _
theorem flat_nat (f : List Nat) : ((natI f).map V.int).all flatV = true := by
  rw [List.all_eq_true]
  intro v hv
  obtain ⟨z, _, rfl⟩ := List.mem_map.mp hv
  rfl
theorem af_image (a im : Addr) (r : Int) (sw : Bool) (cy : Addr) : (af a im r sw cy).lookup ("image" : Str) = some (.ref im) := by
  unfold af
  rw [lookup_putF, if_neg (by decide +kernel), lookup_putF, if_neg (by decide +kernel), lookup_putF, if_neg (by decide +kernel), lookup_putF, if_pos rfl]
theorem af_rank (a im : Addr) (r : Int) (sw : Bool) (cy : Addr) : (af a im r sw cy).lookup ("rank" : Str) = some (.int r) := by
  unfold af
  rw [lookup_putF, if_neg (by decide +kernel), lookup_putF, if_neg (by decide +kernel), lookup_putF, if_pos rfl]
theorem af_swap (a im : Addr) (r : Int) (sw : Bool) (cy : Addr) : (af a im r sw cy).lookup ("is_swap" : Str) = some (.bl sw) := by
  unfold af
  rw [lookup_putF, if_neg (by decide +kernel), lookup_putF, if_pos rfl]
def rLi (K : PySem.W.Frag) : List V → Hp → VK → Prop := fun xs H Q => ∃ p ys, xs = [.ref p] ∧ (SqL K H p ys ∨ SqT K H p ys) ∧ ∀ l, H l = none → Q (.ref l) (upd H l (.lst ys))
def spIcA (K : PySem.W.Frag) (C : Addr) : Sp := fun vs H Q _ => ∃ (x a : Addr) (f : List Nat), vs = [.ref x, .ref a] ∧ ActAt K C H x f ∧ ActOk f ∧ SqT K H a ((natI f).map V.int) ∧ ∀ H', Same H H' → Q (.bl true) H'
section
variable {P : Program} {w : World} {K : PySem.W.Frag} {mg : Str → Option Value} {base : Heap}
abbrev pIcA : List Str := ["_law_act", "_law_a"]
abbrev nIcA : List Str := ["_law_act", "_law_a", "_law_image", "_law_k"]
theorem scIcA : FnScope nIcA pIcA (defScope sIcA) := ⟨rfl, rfl, rfl, by decide +kernel, rfl, by decide +kernel, by decide +kernel⟩
theorem tup_refl (ns : List Int) : PyData.eqv (.tuple (ns.map PyData.int)) (.tuple (ns.map PyData.int)) = true := by
  rw [PyData.eqv, eqv_ints]; simp
theorem lst_refl (ns : List Int) : PyData.eqv (.list (ns.map PyData.int)) (.list (ns.map PyData.int)) = true := by
  rw [PyData.eqv, eqv_ints]; simp
theorem ok_ica {C CS f fG : Addr} {fd fdG : FuncData} (D : Df K mg "_law_is_act" sIcA pIcA f fd) (M : Tac K mg C) (T : Bt3 mg) (hrg : mg "range" = none) (hls : mg "list" = none) (gi : PySem.W.findIn K (.ref C) "__getitem__" = some (some (.ref fG))) (gk : PySem.W.fnIn K fG = true) (gf : PySem.W.isFn K (.ref fG) = true) (gb : Binds K fdG pAGet [])
    (GG : FnOk P w K mg base (L2.CX P w) 6 fG fdG pAGet (spAGet K C CS)) : FnOk P w K mg base CX0 8 f fd pIcA (spIcA K C) := by
  refine D.F.ok scIcA (fun vs H Q E h => ?_) (fun cdv A outer s H vs Q E hr h => ?_)
  · obtain ⟨x, a, f', rfl, _⟩ := h
    rfl
  · obtain ⟨x, a, ff, rfl, ax, of, ha, k⟩ := h
    refine ⟨_, pss_cons (ps_set (i := 2) scIcA.nd rfl (Or.inl rfl) (pe_callTy (r := rTuA K) call_tuple_of (by rfl) T.tuple PyProof.Rows.boot_tuple (pa_cons (pe_lc (own := [("_law_k", 3)]) (g := gName 3) (by rfl) scIcA.nd
          (pi_range1 rfl hrg (pa_cons (pe_callB call_len (by rfl) T.len PySem.boot_len (pa_cons (pv 1) pa_nil)) pa_nil))
          (blkOk_by (own := [("_law_k", 3)]) (N := nIcA) (sc := defScope sIcA) (by decide +kernel)) (fun _ _ _ _ _ => pg_name (i := 3) scIcA.nd rfl (Or.inl rfl)) (fun _ _ _ _ _ => pts_one (pt_cmpR (r := rIn K false) op_in_seq (pv 3) (pv 1) (by rfl)))
          (fun _ _ _ _ _ => pv 3)) pa_nil)))
      (pss_cons (ps_if (PW.pt (pw_or (pt_cmpR (op_neD hr.units) (pe_fld (pv 0) rfl) (pv 1) (nomark _)) (pw_or (pt_cmpR (op_neD hr.units) (pe_fld (pv 0) rfl) (pv 2) (nomark _))
          (pw_or1 (pt_cmpR op_ne (pe_fld (pv 0) rfl) (pe_callB call_len (by rfl) T.len PySem.boot_len (pa_cons (pv 2) pa_nil)) (nomark _)))))) (pss_one (ps_ret pe_bl)) pss_nil)
      (pss_cons (ps_if (PW.pt (pw_or (pt_cmpR op_ne (pe_fld (pv 0) rfl) (pe_cmpR op_eq (pe_callB call_len (by rfl) T.len PySem.boot_len (pa_cons (pv 2) pa_nil)) (pe_callB call_len (by rfl) T.len PySem.boot_len (pa_cons (pv 1) pa_nil)) (nomark _)) (nomark _))
          (pw_or1 (pt_cmpR op_notIn_seq (pe_fld (pv 0) rfl) (pe_lst (pa_cons pe_bl (pa_cons pe_bl pa_nil))) (by rfl))))) (pss_one (ps_ret pe_bl)) pss_nil)
      (pss_one (ps_ret (pe_cmpR (op_eqD hr.units) (pe_lc (own := [("_law_k", 3)]) (g := gName 3) (by rfl) scIcA.nd
          (pi_range1 rfl hrg (pa_cons (pe_callB call_len (by rfl) T.len PySem.boot_len (pa_cons (pv 1) pa_nil)) pa_nil))
          (blkOk_by (own := [("_law_k", 3)]) (N := nIcA) (sc := defScope sIcA) (by decide +kernel)) (fun _ _ _ _ _ => pg_name (i := 3) scIcA.nd rfl (Or.inl rfl)) (fun _ _ _ _ _ => pts_nil)
          (fun _ _ _ _ _ => pe_ixOwn (E := E0) gi gk gf GG hr gb passL (pv 0) (pv 3))) (pe_callTy (r := rLi K) call_list_of (by rfl) hls PyProof.Rows.boot_list (pa_cons (pv 1) pa_nil)) (nomark _)))))), ?_⟩
    obtain ⟨dx, a', im, cy, is, c1, c2, hx, hst, him, hpw, hmem, hcy⟩ := id ax
    have eIs := im_eq of hpw hmem
    subst eIs
    have hnI : ∀ l : List Nat, (natI l).length = l.length := fun l => List.length_map _
    have la : LenV K (.ref a) H ff.length := .inr ⟨_, ha, by rw [List.length_map, hnI]⟩
    have h60 := of.2.1
    refine ⟨_, rfl, _, ff.length, rfl, la, (ff.length : Int), rfl, by omega, by omega, fun D1 hD1 => ?_⟩
    rw [Int.toNat_natCast]
    refine lc_range (lo := 0) (n := ff.length) (fun i H' => Same H H' ∧ H' D1 = some (.lst ((natI ((List.range i).filter fun k => decide (k ∈ ff))).map V.int))) ?_ ?_ ?_
    · exact ⟨same_upd hD1, upd_same⟩
    · rintro i H1 hi ⟨s1, e1⟩
      refine ⟨rfl, _, rfl, _, rfl, a, _, rfl, .inr (ha.ext s1), rfl, flat_nat ff, _, rfl, ?_⟩
      rw [inV_nat]
      have hs := im_succ ff i
      show (if decide (i ∈ ff) = true then _ else _)
      by_cases hd : decide (i ∈ ff) = true
      · rw [if_pos hd] at hs ⊢
        refine ⟨_, rfl, _, e1, ?_, fun b' o e => by rw [upd_ne (ne_of_none e hD1)]; exact s1 b' o e, ?_⟩
        · rw [List.length_map, hnI, sizeLine_eq]
          have := List.length_filter_le (fun k => decide (k ∈ ff)) (List.range i)
          rw [List.length_range] at this
          omega
        · rw [upd_same, hs]; unfold natI; rw [List.map_append, List.map_append, Int.zero_add]; rfl
      · rw [if_neg hd] at hs ⊢
        exact ⟨s1, by rw [hs, List.append_nil]; exact e1⟩
    rintro H1 ⟨s1, e1⟩
    change H1 D1 = some (.lst ((natI (imL ff)).map V.int)) at e1
    refine ⟨D1, _, rfl, .inl ⟨SqL.of e1, fun q hq => ?_⟩⟩
    have s2 := same_upd (o := .tup ((natI (imL ff)).map V.int)) hq
    have eq2 : upd H1 q (.tup ((natI (imL ff)).map V.int)) q = some (.tup ((natI (imL ff)).map V.int)) := upd_same
    generalize upd H1 q (.tup ((natI (imL ff)).map V.int)) = H2 at s2 eq2 ⊢
    have s02 := s1.trans s2
    have il : (imL ff).length ≤ ff.length := by
      have := List.length_filter_le (fun k => decide (k ∈ ff)) (List.range ff.length)
      rw [List.length_range] at this
      exact this
    have lq : LenV K (.ref q) H2 (imL ff).length := .inr ⟨_, SqT.of eq2, by rw [List.length_map, hnI]⟩
    have la2 : LenV K (.ref a) H2 ff.length := .inr ⟨_, ha.ext s02, by rw [List.length_map, hnI]⟩
    rw [hnI] at hx
    have hx2 := s02 _ _ hx
    -- states, image, rank
    refine ⟨_, rfl, x, C, dx, _, V.ref a', rfl, hx2, M.cl, M.nS, af_states _ _ _ _ _, _, rfl, _, _, .tup (hst.ext s02) (dp_ints _), .tup (ha.ext s02) (dp_ints _), shaped_ints _, shaped_ints _, _, rfl, ?_⟩
    rw [tup_refl]
    refine iteF ?_
    refine ⟨_, rfl, x, C, dx, _, V.ref im, rfl, hx2, M.cl, M.nI, af_image _ _ _ _ _, _, rfl, _, _, .tup (SqT.of (s02 _ _ him)) (dp_ints _), .tup (SqT.of eq2) (dp_ints _), shaped_ints _, shaped_ints _, _, rfl, ?_⟩
    rw [tup_refl]
    refine iteF ?_
    refine ⟨_, rfl, x, C, dx, _, _, rfl, hx2, M.cl, M.nR, af_rank _ _ _ _ _, _, rfl, _, (imL ff).length, rfl, lq, rfl, _, rfl, ?_⟩
    refine ite2 (fun h => absurd h (by simp)) (fun _ => ?_)
    -- is_swap
    refine ⟨_, rfl, x, C, dx, _, _, rfl, hx2, M.cl, M.nW, af_swap _ _ _ _ _, _, rfl, _, (imL ff).length, rfl, lq, _, rfl, _, ff.length, rfl, la2, rfl, rfl, _, rfl, ?_⟩
    refine ite2 (fun h => absurd h (by simp [Int.ofNat_inj])) (fun _ => ?_)
    refine ⟨_, rfl, x, C, dx, _, _, rfl, hx2, M.cl, M.nW, af_swap _ _ _ _ _, Nat.le_of_ble_eq_true rfl, fun l hl => ?_⟩
    have s3 := same_upd (o := .lst [V.bl true, V.bl false]) hl
    have el3 : upd H2 l (.lst [V.bl true, V.bl false]) l = some (.lst [V.bl true, V.bl false]) := upd_same
    generalize upd H2 l (.lst [V.bl true, V.bl false]) = H3 at s3 el3 ⊢
    refine ⟨l, _, rfl, .inl (SqL.of el3), rfl, rfl, _, rfl, ?_⟩
    refine ite2 (fun h => absurd h (by cases decide ((imL ff).length = ff.length) <;> decide)) (fun _ => ?_)
    -- brackets
    have s03 := s02.trans s3
    have la3 : LenV K (.ref a) H3 ff.length := .inr ⟨_, ha.ext s03, by rw [List.length_map, hnI]⟩
    refine ⟨_, rfl, _, ff.length, rfl, la3, (ff.length : Int), rfl, by omega, by omega, fun D2 hD2 => ?_⟩
    rw [Int.toNat_natCast]
    refine lc_range (lo := 0) (n := ff.length) (fun i H' => Same H3 H' ∧ H' D2 = some (.lst ((natI (ff.take i)).map V.int))) ?_ ?_ ?_
    · exact ⟨same_upd hD2, upd_same⟩
    · rintro i H4 hi ⟨s4, e4⟩
      have s04 := s03.trans s4
      refine ⟨rfl, _, rfl, _, rfl, x, dx, _, rfl, s04 _ _ hx, ?_⟩
      refine ⟨x, .int (0 + (i : Int)), "int", ff, rfl, ax.same s04, of, .int _, fun h => ?_, fun n en hn => ?_⟩
      · have : (decide (0 ≤ 0 + (i : Int)) && decide (0 + (i : Int) < (ff.length : Int))) = false := h
        rw [decide_eq_true (by omega), decide_eq_true (by omega)] at this
        cases this
      · have : n = i := by have := V.int.inj en; omega
        subst this
        refine ⟨_, e4, ?_, fun b' o e => by rw [upd_ne (ne_of_none e hD2)]; exact s4 b' o e, ?_⟩
        · rw [List.length_map, hnI, List.length_take, sizeLine_eq]; omega
        · have en2 : ff[n]? = some (ff.getD n 0) := by rw [List.getD_eq_getElem?_getD, List.getElem?_eq_getElem hi]; rfl
          rw [upd_same, List.take_add_one, en2]; unfold natI; rw [List.map_append, List.map_append]; rfl
    rintro H4 ⟨s4, e4⟩
    rw [List.take_length] at e4
    have s04 := s03.trans s4
    refine ⟨_, rfl, a, _, rfl, .inr (ha.ext s04), fun l2 hl2 => ?_⟩
    have s5 := same_upd (o := .lst ((natI ff).map V.int)) hl2
    refine ⟨_, _, .lst (SqL.of (s5 _ _ e4)) (dp_ints _), .lst (SqL.of upd_same) (dp_ints _), shaped_ints _, shaped_ints _, ?_⟩
    rw [lst_refl]
    exact k _ (s04.trans s5)
end
end K1
set_option Elab.async false
set_option linter.all false
set_option maxRecDepth 100000
/-! an instance and a tuple: never equal -/
namespace EO
open PySem PySem.W PySem.Spec PyProof.Rows L2
open SeqAt
open AutoSeq1 (wpAny_loadPart')
section
variable {prog : Program} {w : World} {A : Around} {E : Value → Shared → Prop} {s : Shared} {K : Frag} {x C : Addr} {ox : Obj} {od : Option Obj}
theorem tuple_declines_ins {l : Addr} {items : Array Value} {R : Result → Shared → Prop} (hl : s.heap.IsTuple l items) (X : K.In s.heap) (I : InstAt s.heap x ox C od) (hm : mroIn K C (.type "tuple") = some false) (h : R (.ok (.ret .notImplemented)) s) :
    wpAny (model prog w) A.in1 (Builtin.«tuple.__eq__» ⟨[.ref l, .ref x], []⟩) (fun fin s' => match fin with | .done f => R (.ok f) s' | .again c' => c'.quiet = true ∧ codeAny (model prog w) A c' R s') (fun e s' => R (.error e) s') s := by
  have hx := I.at_
  have hcl := I.cls
  obtain ⟨⟨cls, dd, data, sl⟩, ho, hc, n, hd⟩ := id hl
  simp only at hc hd
  subst hc hd
  obtain ⟨cls2, dd2, data2, sl2⟩ := ox
  simp only at hcl
  subst hcl
  obtain ⟨hp, g, d, tk, os⟩ := s
  wp_walk using wpAny_loadPart' ho, wpAny_loadPart' hx
  refine (looks_mroIn X hm).here ?_
  simp only [Bool.not_false, if_true]
  wp_walk
  exact h
theorem mro_tuple : fastBuiltinMro "tuple" = some [.type "tuple", .type "object"] := by decide +kernel
end
end EO
namespace L2
open PySem PySem.Spec PyProof.Rows
/-- an instance compared with a tuple: its own == says NotImplemented, the tuple's too; so False -/
def rNIT (C : Addr) (pre : List V → Hp → Prop) : R2 := fun x y H Q => ∃ a dx fs l xs, x = .ref a ∧ H a = some (.ins C dx fs) ∧ pre [x, y] H ∧ y = .ref l ∧ H l = some (.tup xs) ∧ ∀ H', Same H H' → Q (.bl false) H'
theorem op_eqNIT {X : Cx} {n : Nat} {C f : Addr} {fd : FuncData} {ps : List Str} {pre : List V → Hp → Prop} (O : OwnE X.K C f) (ml : PySem.W.mroIn X.K C (.type "tuple") = some false)
    (G : FnNI X.prog X.w X.K X.mg X.base n f fd ps pre) (hr : Room n X.A) (hb : Binds X.K fd ps []) : OpR X (compareOp .Eq) (rNIT C pre) := by
  intro pins s σ H x y u v Q I rx ry h
  obtain ⟨a, dx, fs, l, xs, rfl, ha, hp, rfl, hl', hQ⟩ := h
  cases rx
  cases ry
  obtain ⟨mA, J, _⟩ := ins_get I.hok ha
  obtain ⟨od, J, _⟩ := J.look
  show wpAny (model X.prog X.w) X.A (richCompare .Eq (.ref a) (.ref l)) (EP X pins σ Q) X.xe s
  have hl := G.len _ _ hp
  have at' : ∀ s' H', Inv X pins σ H' s' → Same H H' → ∃ od, PySem.W.InstAt s'.heap a (PySem.W.instObj C dx) C (some od) := fun s' H' I' sm => by
    obtain ⟨mA, J, _⟩ := ins_get I'.hok (sm _ _ ha)
    obtain ⟨od, J, _⟩ := J.look
    exact ⟨od, J⟩
  obtain ⟨_, its, k, ⟨c0, dd0, dt0, sl0⟩, hg, hcl, n0, hdt⟩ := I.hok l _ hl'
  simp only at hcl hdt
  subst hcl hdt
  refine EO.cmp_dec_K (tb := .type "tuple") hr.units0 I.kIn J ((PySem.W.Looks.ld (part := none) hg).andThen .now) (EO.nf EO.mro_tuple (by simp)) O.eq O.fn ?_
  refine wpAny_call (codeAny_mono (G.run X.A X.stack s H ⟨[.ref a, .ref l], []⟩ [.ref a, .ref l] [.ref a, .ref l] hr I.env0 (by
    have := hb s [.ref a, .ref l] I.kIn (by rw [List.append_nil, ← hl]; rfl)
    simpa using this) (.cons rfl (.cons rfl .nil)) hp) fun r s' hq => ?_)
  obtain ⟨rfl, hq⟩ := hq
  obtain ⟨z, H', I', rz, ez, sm⟩ := I.after hq
  refine ⟨rfl, ?_⟩
  obtain ⟨od', J'⟩ := at' s' H' I' sm
  obtain ⟨_, its', k', ⟨c1, dd1, dt1, sl1⟩, e', hcl1, n1, hdt1⟩ := I'.hok l _ (sm _ _ hl')
  simp only at hcl1 hdt1
  subst hcl1 hdt1
  have nal : a ≠ l := ne_of ha hl' (by intro z; cases z)
  refine wpAny_mono (Q := fun r s2 => r = none ∧ wpAny (model X.prog X.w) X.A (isSame (.ref a) (.ref l)) (fun k s3 => k = false ∧ Inv X pins σ H' s3) X.xe s2) (wpAny_tryCompare_declines ⟨_, e', rfl⟩ F.slot_tuple_eq (GQ.call_here F.slot_tuple_eq ⟨_, e', rfl⟩ F.entry_tuple_eq (F.args_tuple_eq_2 _ _) ?_)) (fun r s2 q => ⟨q.1, wpAny_mono q.2 (fun k s3 q => ?_) fun _ _ e => e⟩) fun _ _ e => e
  · exact EO.tuple_declines_ins (R := wants _ _) ⟨_, e', rfl, _, rfl⟩ I'.kIn J' ml ⟨rfl, rfl, wpAny_isSame_ref_other nal J'.at_ e' (by show Value.ref C ≠ Value.type "tuple"; simp) ⟨rfl, I'⟩⟩
  · obtain ⟨rfl, I3⟩ := q
    exact ⟨.bl false, H', I3, rfl, hQ H' sm⟩
end L2
set_option Elab.async false
set_option linter.all false
set_option maxRecDepth 100000
/-! an instance and a tuple by !=, where the own == says NotImplemented; > and >= of tuples of integers -/
namespace EO
open PySem PySem.W PySem.Spec PyProof.Rows L2
open SeqAt
open AutoSeq1 (wpAny_loadPart')
section
variable {prog : Program} {w : World} {A : Around} {E : Value → Shared → Prop} {s : Shared} {K : Frag} {x C f : Addr} {ox : Obj} {od : Option Obj} {b tb : Value}
theorem ne_dec_K {Q : Value → Shared → Prop} (hu : A.units + 1 < cLine) (X : K.In s.heap) (I : InstAt s.heap x ox C od) (hb : Looks (model prog w) s.heap (typeOf b) tb) (hn : notFirst K C tb = true)
    (hs : findIn K (.ref C) "__eq__" = some (some (.ref f))) (hf : isFn K (.ref f) = true) (hne : findIn K (.ref C) "__ne__" = some (some (.builtin "object.__ne__"))) (hm : mroIn K C (.type "object") = some true)
    (h : wpAny (model prog w) A.in1 (call (.ref f) [.ref x, b]) (fun v s' => v = .notImplemented ∧ wpAny (model prog w) A (tryCompare b "__ne__" (.ref x)) (fun r s2 => r = none ∧ wpAny (model prog w) A (isSame (.ref x) b) (fun k s3 => Q (.bool (!k)) s3) E s2) E s') E s) :
    wpAny (model prog w) A (richCompare .NotEq (.ref x) b) Q E s := by
  have body : wpAny (model prog w) A (call (.builtin "object.__ne__") [.ref x, b]) (fun v s' => v = .notImplemented ∧ wpAny (model prog w) A (tryCompare b "__ne__" (.ref x)) (fun r s2 => r = none ∧ wpAny (model prog w) A (isSame (.ref x) b) (fun k s3 => Q (.bool (!k)) s3) E s2) E s') E s := by
    refine wpAny_call ?_
    refine codeAny_call_builtin F.cmp_object.ne.plain F.cmpEntry_ne ?_
    refine check_obj (id := "object.__ne__") (n := "__ne__") (rest := [b]) (x := x) F.cmpKind_ne F.cmpSplit_ne (F.cmpArgs_ne _ _) X I hm ?_
    have h' := ifBound_K (M := model prog w) (A := A.in1) (name := Str.ofString "__eq__") (Q := fun r s' => r = some .notImplemented ∧ wpAny (model prog w) A (tryCompare b "__ne__" (.ref x)) (fun r s2 => r = none ∧ wpAny (model prog w) A (isSame (.ref x) b) (fun k s3 => Q (.bool (!k)) s3) E s2) E s') X I hs hf
      (wpAny_mono h (fun r s' hr => ⟨congrArg some hr.1, hr.2⟩) fun _ _ e => e)
    unfold Builtin.«object.__ne__»
    repeat (first
      | with_reducible refine wpAny_cRoomFor (A := A.in1) hu ?_
      | (refine wpAny_bind (m := callSpecialIfBound? (.ref x) (Str.ofString "__eq__") [b]) (wpAny_mono h' (fun r s' hr => ?_) fun _ _ e => e)
         obtain ⟨rfl, hq⟩ := hr)
      | wp_step)
    exact ⟨rfl, hq⟩
  have one : wpAny (model prog w) A (tryCompare (.ref x) "__ne__" b) (fun r s' => r = none ∧ wpAny (model prog w) A (tryCompare b "__ne__" (.ref x)) (fun r s2 => r = none ∧ wpAny (model prog w) A (isSame (.ref x) b) (fun k s3 => Q (.bool (!k)) s3) E s2) E s') E s := by
    unfold tryCompare
    refine wpAny_bind (ifBound_B X I hne (F.cmp_object.ne.bind _) (wpAny_mono body (fun v s' hv => ?_) fun _ _ e => e))
    obtain ⟨rfl, hq⟩ := hv
    exact wpAny_pure ⟨rfl, hq⟩
  unfold richCompare
  simp only [oneThing_ref]
  refine wpAny_holding (wpAny_bind (wpAny_cRoomFor (Nat.lt_of_succ_lt hu) ?_))
  refine wpAny_bind (I.type.here (wpAny_bind (hb.here ?_)))
  split
  · rename_i q
    have e : subIn K tb (.ref C) = some false := by
      rcases Bool.or_eq_true_iff.mp hn with e | e
      · rw [beq_iff_eq.mp e] at q; simp at q
      · exact beq_iff_eq.mp e
    refine wpAny_bind ((looks_subIn X e).here ?_)
    simp only [Bool.false_eq_true, if_false]
    refine wpAny_bind (wpAny_mono one (fun r s' z => ?_) fun _ _ e => e)
    obtain ⟨rfl, z⟩ := z
    simp only [Bool.not_false, if_true]
    refine wpAny_bind (wpAny_mono z (fun r s' z => ?_) fun _ _ e => e)
    obtain ⟨rfl, z⟩ := z
    refine wpAny_bind (wpAny_rule ?_)
    exact wpAny_bind (wpAny_mono z (fun k s3 q => wpAny_pure q) fun _ _ e => e)
  · refine wpAny_bind (wpAny_pure ?_)
    simp only [Bool.false_eq_true, if_false]
    refine wpAny_bind (wpAny_mono one (fun r s' z => ?_) fun _ _ e => e)
    obtain ⟨rfl, z⟩ := z
    simp only [Bool.not_false, if_true]
    refine wpAny_bind (wpAny_mono z (fun r s' z => ?_) fun _ _ e => e)
    obtain ⟨rfl, z⟩ := z
    refine wpAny_bind (wpAny_rule ?_)
    exact wpAny_bind (wpAny_mono z (fun k s3 q => wpAny_pure q) fun _ _ e => e)
theorem tuple_ne_declines_ins {l : Addr} {items : Array Value} {R : Result → Shared → Prop} (hl : s.heap.IsTuple l items) (X : K.In s.heap) (I : InstAt s.heap x ox C od) (hm : mroIn K C (.type "tuple") = some false) (h : R (.ok (.ret .notImplemented)) s) :
    wpAny (model prog w) A.in1 (Builtin.«tuple.__ne__» ⟨[.ref l, .ref x], []⟩) (fun fin s' => match fin with | .done f => R (.ok f) s' | .again c' => c'.quiet = true ∧ codeAny (model prog w) A c' R s') (fun e s' => R (.error e) s') s := by
  have hx := I.at_
  have hcl := I.cls
  obtain ⟨⟨cls, dd, data, sl⟩, ho, hc, n, hd⟩ := id hl
  simp only at hc hd
  subst hc hd
  obtain ⟨cls2, dd2, data2, sl2⟩ := ox
  simp only at hcl
  subst hcl
  obtain ⟨hp, g, d, tk, os⟩ := s
  wp_walk using wpAny_loadPart' ho, wpAny_loadPart' hx
  refine (looks_mroIn X hm).here ?_
  simp only [Bool.not_false, if_true]
  wp_walk
  exact h
end
end EO
namespace L2
open PySem PySem.Spec PyProof.Rows
/-- an instance and a tuple by !=: both say NotImplemented, so True -/
def rNNIT (C : Addr) (pre : List V → Hp → Prop) : R2 := fun x y H Q => ∃ a dx fs l xs, x = .ref a ∧ H a = some (.ins C dx fs) ∧ pre [x, y] H ∧ y = .ref l ∧ H l = some (.tup xs) ∧ ∀ H', Same H H' → Q (.bl true) H'
theorem op_neNIT {X : Cx} {n : Nat} {C f : Addr} {fd : FuncData} {ps : List Str} {pre : List V → Hp → Prop} (O : OwnE X.K C f) (ml : PySem.W.mroIn X.K C (.type "tuple") = some false)
    (G : FnNI X.prog X.w X.K X.mg X.base n f fd ps pre) (hr : Room (n + 1) X.A) (hb : Binds X.K fd ps []) : OpR X (compareOp .NotEq) (rNNIT C pre) := by
  intro pins s σ H x y u v Q I rx ry h
  obtain ⟨a, dx, fs, l, xs, rfl, ha, hp, rfl, hl', hQ⟩ := h
  cases rx
  cases ry
  obtain ⟨mA, J, _⟩ := ins_get I.hok ha
  obtain ⟨od, J, _⟩ := J.look
  show wpAny (model X.prog X.w) X.A (richCompare .NotEq (.ref a) (.ref l)) (EP X pins σ Q) X.xe s
  have hl := G.len _ _ hp
  have at' : ∀ s' H', Inv X pins σ H' s' → Same H H' → ∃ od, PySem.W.InstAt s'.heap a (PySem.W.instObj C dx) C (some od) := fun s' H' I' sm => by
    obtain ⟨mA, J, _⟩ := ins_get I'.hok (sm _ _ ha)
    obtain ⟨od, J, _⟩ := J.look
    exact ⟨od, J⟩
  obtain ⟨_, its, k, ⟨c0, dd0, dt0, sl0⟩, hg, hcl, n0, hdt⟩ := I.hok l _ hl'
  simp only at hcl hdt
  subst hcl hdt
  have e0 : Env0 X.prog X.w X.K X.mg X.base X.A.in1 X.stack s H := I.env0.in1
  refine EO.ne_dec_K (tb := .type "tuple") (by have := hr.units; omega) I.kIn J ((PySem.W.Looks.ld (part := none) hg).andThen .now) (EO.nf EO.mro_tuple (by simp)) O.eq O.fn O.ne O.mo ?_
  refine wpAny_call (codeAny_mono (G.run X.A.in1 X.stack s H ⟨[.ref a, .ref l], []⟩ [.ref a, .ref l] [.ref a, .ref l] hr.in1 e0 (by
    have := hb s [.ref a, .ref l] I.kIn (by rw [List.append_nil, ← hl]; rfl)
    simpa using this) (.cons rfl (.cons rfl .nil)) hp) fun r s' hq => ?_)
  obtain ⟨rfl, hq⟩ := hq
  obtain ⟨z, H', I', rz, ez, sm⟩ := I.after hq
  refine ⟨rfl, ?_⟩
  obtain ⟨od', J'⟩ := at' s' H' I' sm
  obtain ⟨_, its', k', ⟨c1, dd1, dt1, sl1⟩, e', hcl1, n1, hdt1⟩ := I'.hok l _ (sm _ _ hl')
  simp only at hcl1 hdt1
  subst hcl1 hdt1
  have nal : a ≠ l := ne_of ha hl' (by intro z; cases z)
  refine wpAny_mono (Q := fun r s2 => r = none ∧ wpAny (model X.prog X.w) X.A (isSame (.ref a) (.ref l)) (fun k s3 => k = false ∧ Inv X pins σ H' s3) X.xe s2) (wpAny_tryCompare_declines ⟨_, e', rfl⟩ F.slot_tuple_ne (GQ.call_here F.slot_tuple_ne ⟨_, e', rfl⟩ F.entry_tuple_ne (F.args_tuple_ne_2 _ _) ?_)) (fun r s2 q => ⟨q.1, wpAny_mono q.2 (fun k s3 q => ?_) fun _ _ e => e⟩) fun _ _ e => e
  · exact EO.tuple_ne_declines_ins (R := wants _ _) ⟨_, e', rfl, _, rfl⟩ I'.kIn J' ml ⟨rfl, rfl, wpAny_isSame_ref_other nal J'.at_ e' (by show Value.ref C ≠ Value.type "tuple"; simp) ⟨rfl, I'⟩⟩
  · obtain ⟨rfl, I3⟩ := q
    exact ⟨.bl true, H', I3, rfl, hQ H' sm⟩
section
variable {X : Cx}
def rCmT (K : PySem.W.Frag) (r : List Int → List Int → Bool) : R2 := fun x y H Q => ∃ (a b : Addr) (ns ms : List Int), x = .ref a ∧ y = .ref b ∧ SqT K H a (ns.map V.int) ∧ SqT K H b (ms.map V.int) ∧ Q (.bl (r ns ms)) H
def gtB (ns ms : List Int) : Bool := Ob.lexAt (fun j => decide (ns.getD j 0 = ms.getD j 0)) (fun j => decide (ms.getD j 0 < ns.getD j 0)) (decide (ns.length > ms.length)) 0 (min ns.length ms.length)
def geB (ns ms : List Int) : Bool := Ob.lexAt (fun j => decide (ns.getD j 0 = ms.getD j 0)) (fun j => decide (ms.getD j 0 ≤ ns.getD j 0)) (decide (ns.length ≥ ms.length)) 0 (min ns.length ms.length)
theorem beq_dec (a b : Int) : (a == b) = decide (a = b) := by
  by_cases q : a = b
  · rw [decide_eq_true q]; exact beq_iff_eq.mpr q
  · rw [decide_eq_false q]; exact beq_eq_false_iff_ne.mpr q
theorem op_gtT (hu : X.A.units < cLine) : OpR X (compareOp .Gt) (rCmT X.K gtB) := by
  intro pins s σ H x y v u Q I rx ry h
  obtain ⟨a, b, ns, ms, rfl, rfl, ha, hb, q⟩ := h
  cases rx
  cases ry
  obtain ⟨its, r1, p1, _⟩ := I.tuple ha
  obtain ⟨its2, r2, p2, _⟩ := I.tuple hb
  have i1 := Vals.ints r1
  have i2 := Vals.ints r2
  have n1 : its.toArray.size = ns.length := by rw [List.size_toArray]; exact i1.length
  have n2 : its2.toArray.size = ms.length := by rw [List.size_toArray]; exact i2.length
  have g1 : ∀ j (z : j < its.toArray.size), ∃ t, its.toArray[j] = .int (ns.getD j 0) t := fun j z => PyProof.Rows.IntsAre.int_at i1 _ _ (by simp at z; simp [z])
  have g2 : ∀ j (z : j < its2.toArray.size), ∃ t, its2.toArray[j] = .int (ms.getD j 0) t := fun j z => PyProof.Rows.IntsAre.int_at i2 _ _ (by simp at z; simp [z])
  have R := Ob.RcOp.tuples_gt (A := X.A) (s := s) (e := fun j => decide (ns.getD j 0 = ms.getD j 0)) (r := fun j => decide (ms.getD j 0 < ns.getD j 0)) p1 p2 hu (fun j z1 z2 => by
    obtain ⟨t, et⟩ := g1 j z1
    obtain ⟨t', et'⟩ := g2 j z2
    rw [et, et', ← beq_dec]
    exact SeqAt.EqAt.int_int _ _ _ _) (fun j z1 z2 _ => by
    obtain ⟨t, et⟩ := g1 j z1
    obtain ⟨t', et'⟩ := g2 j z2
    rw [et, et']
    exact Ob.RcOp.gt_int _ _ _ _)
  rw [n1, n2] at R
  exact R X.prog X.w X.xe (EP X pins σ Q) ⟨.bl _, H, I, rfl, q⟩
theorem op_geT (hu : X.A.units < cLine) : OpR X (compareOp .GtE) (rCmT X.K geB) := by
  intro pins s σ H x y v u Q I rx ry h
  obtain ⟨a, b, ns, ms, rfl, rfl, ha, hb, q⟩ := h
  cases rx
  cases ry
  obtain ⟨its, r1, p1, _⟩ := I.tuple ha
  obtain ⟨its2, r2, p2, _⟩ := I.tuple hb
  have i1 := Vals.ints r1
  have i2 := Vals.ints r2
  have n1 : its.toArray.size = ns.length := by rw [List.size_toArray]; exact i1.length
  have n2 : its2.toArray.size = ms.length := by rw [List.size_toArray]; exact i2.length
  have g1 : ∀ j (z : j < its.toArray.size), ∃ t, its.toArray[j] = .int (ns.getD j 0) t := fun j z => PyProof.Rows.IntsAre.int_at i1 _ _ (by simp at z; simp [z])
  have g2 : ∀ j (z : j < its2.toArray.size), ∃ t, its2.toArray[j] = .int (ms.getD j 0) t := fun j z => PyProof.Rows.IntsAre.int_at i2 _ _ (by simp at z; simp [z])
  have R := Ob.RcOp.tuples_ge (A := X.A) (s := s) (e := fun j => decide (ns.getD j 0 = ms.getD j 0)) (r := fun j => decide (ms.getD j 0 ≤ ns.getD j 0)) p1 p2 hu (fun j z1 z2 => by
    obtain ⟨t, et⟩ := g1 j z1
    obtain ⟨t', et'⟩ := g2 j z2
    rw [et, et', ← beq_dec]
    exact SeqAt.EqAt.int_int _ _ _ _) (fun j z1 z2 _ => by
    obtain ⟨t, et⟩ := g1 j z1
    obtain ⟨t', et'⟩ := g2 j z2
    rw [et, et']
    exact Ob.RcOp.ge_int _ _ _ _)
  rw [n1, n2] at R
  exact R X.prog X.w X.xe (EP X pins σ Q) ⟨.bl _, H, I, rfl, q⟩
end
/-! the orders are one -/
theorem lexAt_shift (e r : Nat → Bool) (z : Bool) : ∀ k i, Ob.lexAt e r z (i + 1) k = Ob.lexAt (fun j => e (j + 1)) (fun j => r (j + 1)) z i k
  | 0, _ => rfl
  | k + 1, i => by rw [Ob.lexAt_succ, Ob.lexAt_succ, lexAt_shift e r z k (i + 1)]
theorem lexLt_at : ∀ ns ms : List Int, HT.lexLt ns ms = Ob.lexAt (fun j => decide (ns.getD j 0 = ms.getD j 0)) (fun j => decide (ns.getD j 0 < ms.getD j 0)) (decide (ns.length < ms.length)) 0 (min ns.length ms.length)
  | [], [] => rfl
  | [], _ :: _ => by simp [HT.lexLt, Ob.lexAt]
  | _ :: _, [] => by simp [HT.lexLt, Ob.lexAt]
  | x :: xs, y :: ys => by
    rw [HT.lexLt_cons, lexLt_at xs ys, List.length_cons, List.length_cons, Nat.add_min_add_right, Ob.lexAt_succ, lexAt_shift]
    by_cases e : x = y
    · subst e; simp
    · simp [e]
theorem gtB_eq (ns ms : List Int) : gtB ns ms = HT.lexLt ms ns := by
  rw [lexLt_at, gtB, Nat.min_comm]
  congr 1
  funext j
  exact decide_eq_decide.mpr ⟨Eq.symm, Eq.symm⟩
theorem geB_eq (ns ms : List Int) : geB ns ms = Ob.lexAt (fun j => decide (ms.getD j 0 = ns.getD j 0)) (fun j => decide (ms.getD j 0 ≤ ns.getD j 0)) (decide (ms.length ≤ ns.length)) 0 (min ms.length ns.length) := by
  rw [geB, Nat.min_comm]
  congr 1
  funext j
  exact decide_eq_decide.mpr ⟨Eq.symm, Eq.symm⟩
end L2
set_option Elab.async false
set_option linter.all false
set_option maxRecDepth 100000
set_option maxHeartbeats 1000000
/-! _law_is_compared -/
namespace K1
open PySem L2 LamX
abbrev sIpA : Stmt := top 24
/-- the class as isinstance sees it -/
structure Tic (K : PySem.W.Frag) (C : Addr) : Prop extends Tia K C where
  ci : (PySem.W.clsIn K C).isSome = true
  ty : PySem.W.typeIn K (.ref C) = some (.type "type")
theorem kit_noA {K : PySem.W.Frag} {C : Addr} (I : Tic K C) {T : String} {l : List Value} (h : fastBuiltinMro T = some l) (hc : l.contains (.ref C) = false) : PySem.W.kitOne K (.type T) (.ref C) = some false := by
  unfold PySem.W.kitOne PySem.W.kitCls PySem.W.subIn
  simp only [I.ci, I.ty, h, Option.map_some, hc]
  simp
/-- an act and no act -/
def preNA (C : Addr) : List V → Hp → Prop := fun vs H => ∃ x dx fs v, vs = [.ref x, v] ∧ H x = some (.ins C dx fs) ∧ (v = .non ∨ (∃ l xs, v = .ref l ∧ H l = some (.lst xs)) ∨ ∃ l xs, v = .ref l ∧ H l = some (.tup xs))
def spIpA (K : PySem.W.Frag) (C : Addr) : Sp := fun vs H Q _ => ∃ (x y a b : Addr) (f g : List Nat), vs = [.ref x, .ref y, .ref a, .ref b] ∧ ActAt K C H x f ∧ ActAt K C H y g ∧ H a = some (.tup ((natI f).map V.int)) ∧ H b = some (.tup ((natI g).map V.int)) ∧ ∀ H', Same H H' → Q (.bl true) H'
/-- what the class Act has for its comparisons -/
structure CmpF (P : Program) (w : World) (K : PySem.W.Frag) (mg : Str → Option Value) (base : Heap) (C fE fL fQ : Addr) (fdE fdL fdQ : FuncData) : Prop where
  OE : OwnE K C fE
  bE : Binds K fdE pAMul []
  GE : FnOk P w K mg base CX0 1 fE fdE pAMul (spACmp K C fun ns ms => decide (ns = ms))
  NE : FnNI P w K mg base 1 fE fdE pAMul (preNA C)
  mt : PySem.W.mroIn K C (.type "tuple") = some false
  ml : PySem.W.mroIn K C (.type "list") = some false
  lS : PySem.W.findIn K (.ref C) "__lt__" = some (some (.ref fL))
  lF : PySem.W.isFn K (.ref fL) = true
  bL : Binds K fdL pAMul []
  GL : FnOk P w K mg base CX0 1 fL fdL pAMul (spACmp K C HT.lexLt)
  qS : PySem.W.findIn K (.ref C) "__le__" = some (some (.ref fQ))
  qF : PySem.W.isFn K (.ref fQ) = true
  bQ : Binds K fdQ pAMul []
  GQ : FnOk P w K mg base CX0 1 fQ fdQ pAMul (spACmp K C leB)
  gS : PySem.W.findIn K (.ref C) "__gt__" = some (some (.builtin "object.__gt__"))
  hS : PySem.W.findIn K (.ref C) "__ge__" = some (some (.builtin "object.__ge__"))
section
variable {P : Program} {w : World} {K : PySem.W.Frag} {mg : Str → Option Value} {base : Heap}
theorem ok_ani {C f : Addr} {fd : FuncData} (F : Fun K "__eq__" "Act.__eq__" sAEq f fd) (M : Tac K mg C) (I : Tic K C) (T : Bt3 mg) (hn : mg "NotImplemented" = none) : FnNI P w K mg base 1 f fd pAMul (preNA C) := by
  obtain ⟨oc, od, kV, doc, pm, an, cdv, ct, osl, rfl, lk, hcd⟩ := F.ex
  refine fn_NI (N := pAMul) lk hcd scAEq (fun vs H h => ?_) rfl rfl hn (by decide +kernel) (fun A outer s H vs hr h => ?_)
  · obtain ⟨x, dx, fs, v, rfl, _⟩ := h
    rfl
  · obtain ⟨x, dx, fs, v, rfl, hx, hv⟩ := h
    refine ⟨_, pt_not (pt_val (pe_callB call_isi (by rfl) T.isinstance PyProof.Rows.boot_isinstance (pa_cons (pv 1) (pa_cons (pe_glob (v := .ref C) rfl M.mgC rfl) pa_nil)))), ?_⟩
    rcases hv with rfl | ⟨l, xs, rfl, hl⟩ | ⟨l, xs, rfl, hl⟩
    · exact ⟨_, rfl, _, _, .type "NoneType", .ref C, false, rfl, .own C, .base .non, kit_noA I EO.mro_None (by simp), false, rfl, rfl, Same.refl H⟩
    · exact ⟨_, rfl, _, _, .type "list", .ref C, false, rfl, .own C, .base (.lst hl), kit_noA I EO.mro_list (by simp), false, rfl, rfl, Same.refl H⟩
    · exact ⟨_, rfl, _, _, .type "tuple", .ref C, false, rfl, .own C, .base (.tup hl), kit_noA I EO.mro_tuple (by simp), false, rfl, rfl, Same.refl H⟩
abbrev pIpA : List Str := ["_law_one", "_law_other", "_law_a", "_law_b"]
abbrev nIpA : List Str := ["_law_one", "_law_other", "_law_a", "_law_b", "_law_told"]
theorem scIpA : FnScope nIpA pIpA (defScope sIpA) := ⟨rfl, rfl, rfl, by decide +kernel, rfl, by decide +kernel, by decide +kernel⟩
theorem ok_ipa {C f fE fL fQ : Addr} {fd fdE fdL fdQ : FuncData} (D : Df K mg "_law_is_compared" sIpA pIpA f fd) (hls : mg "list" = none) (c : CmpF P w K mg base C fE fL fQ fdE fdL fdQ) : FnOk P w K mg base CX0 4 f fd pIpA (spIpA K C) := by
  obtain ⟨OE, bE, GE, NE, mt, ml, lS, lF, bL, GL, qS, qF, bQ, GQ, gS, hS⟩ := c
  refine D.F.ok scIpA (fun vs H Q E h => ?_) (fun cdv A outer s H vs Q E hr h => ?_)
  · obtain ⟨x, y, a, b, f', g', rfl, _⟩ := h
    rfl
  · obtain ⟨x, y, a, b, ff, gg, rfl, ax, ay, ha, hb, k⟩ := h
    have hr1 : Room 1 _ := hr.mono (by decide)
    have hr2 : Room 2 _ := hr.mono (by decide)
    refine ⟨_, pss_cons (ps_set (i := 4) scIpA.nd rfl (Or.inl rfl) (pe_lst (pa_cons (pe_cmpR (op_eqOwn OE GE hr1 bE pass0) (pv 0) (pv 1) (nomark _)) (pa_cons (pe_cmpR (op_neOwn OE GE hr2 bE pass0) (pv 0) (pv 1) (nomark _))
          (pa_cons (pe_cmpR (op_ltOwn lS lF GL hr1 bL pass0) (pv 0) (pv 1) (nomark _)) (pa_cons (pe_cmpR (op_leOwn qS qF GQ hr1 bQ pass0) (pv 0) (pv 1) (nomark _)) (pa_cons (pe_cmpR (op_gtOwn lS lF gS OE.mo GL hr2 bL pass0) (pv 0) (pv 1) (nomark _))
          (pa_cons (pe_cmpR (op_geOwn qS qF hS OE.mo GQ hr2 bQ pass0) (pv 0) (pv 1) (nomark _)) pa_nil))))))))
      (pss_cons (ps_if (pt_cmpR (op_neD hr.units) (pv 4) (pe_lst (pa_cons (pe_cmpR (op_eqD hr.units) (pv 2) (pv 3) (nomark _)) (pa_cons (pe_cmpR (op_neD hr.units) (pv 2) (pv 3) (nomark _))
          (pa_cons (pe_cmpR (op_ltT hr.units0) (pv 2) (pv 3) (nomark _)) (pa_cons (pe_cmpR (op_leT hr.units0) (pv 2) (pv 3) (nomark _)) (pa_cons (pe_cmpR (op_gtT hr.units0) (pv 2) (pv 3) (nomark _))
          (pa_cons (pe_cmpR (op_geT hr.units0) (pv 2) (pv 3) (nomark _)) pa_nil))))))) (nomark _)) (pss_one (ps_ret pe_bl)) pss_nil)
      (pss_one (ps_ret (pe_and (pe_not (pe_cmpR (op_eqNIT OE mt NE hr1 bE) (pv 0) (pv 2) (nomark _))) (pe_and (pe_cmpR (op_neNIT OE mt NE hr2 bE) (pv 0) (pv 3) (nomark _))
          (pe_and (pe_not (pe_cmpR (op_eqNI OE ml NE hr1 bE) (pv 0) (pe_callTy (r := rLi K) call_list_of (by rfl) hls PyProof.Rows.boot_list (pa_cons (pv 2) pa_nil)) (nomark _)))
          (pe_one (pe_not (pe_cmpR (op_eqNI OE ml NE hr1 bE) (pv 0) pe_non (nomark _)))))))))), ?_⟩
    obtain ⟨dx, a1, _, _, _, _, _, hx, _⟩ := id ax
    obtain ⟨dy, b1, _, _, _, _, _, hy, _⟩ := id ay
    have e1 : PyData.eqv (.tuple ((natI ff).map PyData.int)) (.tuple ((natI gg).map PyData.int)) = decide (natI ff = natI gg) := by rw [PyData.eqv, eqv_ints]
    refine ⟨_, rfl, _, rfl, x, y, dx, dy, _, _, rfl, rfl, hx, hy, ⟨x, y, ff, gg, rfl, ax, ay, _, rfl, ?_⟩⟩
    refine ⟨_, rfl, _, rfl, x, y, dx, dy, _, _, rfl, rfl, hx, hy, ⟨x, y, ff, gg, rfl, ax, ay, _, rfl, ?_⟩⟩
    refine ⟨_, rfl, _, rfl, x, y, dx, dy, _, _, rfl, rfl, hx, hy, ⟨x, y, ff, gg, rfl, ax, ay, _, rfl, ?_⟩⟩
    refine ⟨_, rfl, _, rfl, x, y, dx, dy, _, _, rfl, rfl, hx, hy, ⟨x, y, ff, gg, rfl, ax, ay, _, rfl, ?_⟩⟩
    refine ⟨_, rfl, _, rfl, x, y, dx, dy, _, _, rfl, rfl, hx, hy, ⟨y, x, gg, ff, rfl, ay, ax, _, rfl, ?_⟩⟩
    refine ⟨_, rfl, _, rfl, x, y, dx, dy, _, _, rfl, rfl, hx, hy, ⟨y, x, gg, ff, rfl, ay, ax, _, rfl, ?_⟩⟩
    refine ⟨Nat.le_of_ble_eq_true rfl, fun l hl => ?_⟩
    have s1 := same_upd (o := .lst [V.bl (decide (natI ff = natI gg)), V.bl (!decide (natI ff = natI gg)), V.bl (HT.lexLt (natI ff) (natI gg)), V.bl (leB (natI ff) (natI gg)), V.bl (HT.lexLt (natI gg) (natI ff)), V.bl (leB (natI gg) (natI ff))]) hl
    have el : upd H l (.lst [V.bl (decide (natI ff = natI gg)), V.bl (!decide (natI ff = natI gg)), V.bl (HT.lexLt (natI ff) (natI gg)), V.bl (leB (natI ff) (natI gg)), V.bl (HT.lexLt (natI gg) (natI ff)), V.bl (leB (natI gg) (natI ff))]) l = some (.lst [V.bl (decide (natI ff = natI gg)), V.bl (!decide (natI ff = natI gg)), V.bl (HT.lexLt (natI ff) (natI gg)), V.bl (leB (natI ff) (natI gg)), V.bl (HT.lexLt (natI gg) (natI ff)), V.bl (leB (natI gg) (natI ff))]) := upd_same
    generalize upd H l _ = H1 at s1 el ⊢
    have ha1 := SqT.of (K := K) (s1 _ _ ha)
    have hb1 := SqT.of (K := K) (s1 _ _ hb)
    refine ⟨_, rfl, _, rfl, _, rfl, _, _, .tup ha1 (dp_ints _), .tup hb1 (dp_ints _), shaped_ints _, shaped_ints _, ?_⟩
    rw [e1]
    refine ⟨_, rfl, _, rfl, _, _, .tup ha1 (dp_ints _), .tup hb1 (dp_ints _), shaped_ints _, shaped_ints _, ?_⟩
    rw [e1]
    refine ⟨_, rfl, _, rfl, a, b, _, _, rfl, rfl, ha1, hb1, ?_⟩
    refine ⟨_, rfl, _, rfl, a, b, _, _, rfl, rfl, ha1, hb1, ?_⟩
    refine ⟨_, rfl, _, rfl, a, b, _, _, rfl, rfl, ha1, hb1, ?_⟩
    refine ⟨_, rfl, _, rfl, a, b, _, _, rfl, rfl, ha1, hb1, ?_⟩
    rw [gtB_eq, geB_eq]
    refine ⟨Nat.le_of_ble_eq_true rfl, fun l2 hl2 => ?_⟩
    have hs2 : ∀ {o : HO}, Same H1 (upd H1 l2 o) := fun {o} => same_upd hl2
    refine ⟨.list [.bool (decide (natI ff = natI gg)), .bool (!decide (natI ff = natI gg)), .bool (HT.lexLt (natI ff) (natI gg)), .bool (leB (natI ff) (natI gg)), .bool (HT.lexLt (natI gg) (natI ff)), .bool (leB (natI gg) (natI ff))],
      .list [.bool (decide (natI ff = natI gg)), .bool (!decide (natI ff = natI gg)), .bool (HT.lexLt (natI ff) (natI gg)), .bool (leB (natI ff) (natI gg)), .bool (HT.lexLt (natI gg) (natI ff)), .bool (leB (natI gg) (natI ff))],
      .lst (SqL.of (hs2 _ _ el)) (.cons (.bl _) (.cons (.bl _) (.cons (.bl _) (.cons (.bl _) (.cons (.bl _) (.cons (.bl _) .nil)))))), .lst (SqL.of upd_same) (.cons (.bl _) (.cons (.bl _) (.cons (.bl _) (.cons (.bl _) (.cons (.bl _) (.cons (.bl _) .nil)))))), by rfl, by rfl, _, rfl, ?_⟩
    rw [PySem.SeqAt.eqv_refl _ (by rfl)]
    refine iteF ?_
    have s2 : ∀ {o : HO}, Same H (upd H1 l2 o) := fun {o} => s1.trans hs2
    refine ⟨_, rfl, _, rfl, x, dx, _, a, _, rfl, s2 _ _ hx, ⟨x, dx, _, _, rfl, s2 _ _ hx, .inr (.inr ⟨a, _, rfl, s2 _ _ ha⟩)⟩, rfl, s2 _ _ ha, fun H3 s3 => ⟨false, rfl, ?_⟩⟩
    have s03 := s2.trans s3
    refine ⟨true, rfl, ?_⟩
    refine iteT ?_
    refine ⟨_, rfl, _, rfl, x, dx, _, b, _, rfl, s03 _ _ hx, ⟨x, dx, _, _, rfl, s03 _ _ hx, .inr (.inr ⟨b, _, rfl, s03 _ _ hb⟩)⟩, rfl, s03 _ _ hb, fun H4 s4 => ⟨true, rfl, ?_⟩⟩
    have s04 := s03.trans s4
    refine iteT ?_
    refine ⟨_, rfl, _, rfl, a, _, rfl, .inr (SqT.of (s04 _ _ ha)), fun l3 hl3 => ?_⟩
    have s5 := same_upd (o := .lst ((natI ff).map V.int)) hl3
    have el5 : upd H4 l3 (.lst ((natI ff).map V.int)) l3 = some (.lst ((natI ff).map V.int)) := upd_same
    generalize upd H4 l3 _ = H5 at s5 el5 ⊢
    have s05 := s04.trans s5
    refine ⟨x, dx, _, rfl, s05 _ _ hx, ⟨x, dx, _, _, rfl, s05 _ _ hx, .inr (.inl ⟨l3, _, rfl, el5⟩)⟩, .inr (.inr ⟨l3, _, rfl, el5⟩), fun H6 s6 => ⟨false, rfl, ?_⟩⟩
    have s06 := s05.trans s6
    refine ⟨true, rfl, ?_⟩
    refine iteT ?_
    refine ⟨_, rfl, x, dx, _, rfl, s06 _ _ hx, ⟨x, dx, _, _, rfl, s06 _ _ hx, .inl rfl⟩, .inl rfl, fun H7 s7 => ⟨false, rfl, ?_⟩⟩
    exact k H7 (s06.trans s7)
end
end K1
set_option Elab.async false
set_option linter.all false
set_option maxRecDepth 100000
/-! how long what repr tells is -/
namespace L2
open PySem PySem.Spec PyProof.Rows RpR
theorem textFrom_le : ∀ (ts : List Str) (k : Nat) (acc : Str), (textFrom k acc ts).length ≤ acc.length + piled ts
  | [], k, acc => Nat.le_add_right _ _
  | t :: ts, k, acc => by
    have h := textFrom_le ts (k + 1) (acc ++ (if k > 0 then ", " else "" : String) ++ t)
    have e : ((if k > 0 then ", " else "" : String) : Str).length ≤ 2 := by split <;> decide
    rw [piled_cons]
    rw [strLen_append, strLen_append] at h
    show (textFrom (k + 1) _ ts).length ≤ _
    omega
theorem listText_le (ts : List Str) : (listText ts).length ≤ piled ts + 2 := by
  unfold listText
  rw [strLen_append]
  have h := textFrom_le ts 0 "["
  have e1 : (("[" : String) : Str).length = 1 := rfl
  have e2 : (("]" : String) : Str).length = 1 := rfl
  omega
/-- every item is told in at most m signs -/
theorem piled_le {m : Nat} : ∀ ts : List Str, (∀ t ∈ ts, t.length ≤ m) → piled ts ≤ (m + 2) * ts.length
  | [], _ => Nat.le_refl _
  | t :: ts, h => by
    have h1 := h t List.mem_cons_self
    have h2 := piled_le ts fun x hx => h x (List.mem_cons_of_mem _ hx)
    rw [piled_cons, List.length_cons, Nat.mul_add, Nat.mul_one]
    omega
/-! the signs are signs -/
theorem okS_app {x y : Str} (hx : PyData.strOk x = true) (hy : PyData.strOk y = true) : PyData.strOk (x ++ y) = true := by
  have e : PyData.strOk (x ++ y) = (x.cps ++ y.cps).all (· < 0x110000) := rfl
  rw [e, Array.all_append, Bool.and_eq_true]
  exact ⟨hx, hy⟩
theorem okS_join : ∀ ts : List Str, (∀ t ∈ ts, PyData.strOk t = true) → PyData.strOk (Str.join ", " ts) = true
  | [], _ => by decide +kernel
  | [x], h => h x List.mem_cons_self
  | x :: y :: r, h => by
    have ih := okS_join (y :: r) fun t ht => h t (List.mem_cons_of_mem _ ht)
    show PyData.strOk (x ++ ", " ++ Str.join ", " (y :: r)) = true
    exact okS_app (okS_app (h x List.mem_cons_self) (by decide +kernel)) ih
theorem okS_tuple {ts : List Str} (h : ∀ t ∈ ts, PyData.strOk t = true) : PyData.strOk (tupleText ts) = true := by
  unfold tupleText
  exact okS_app (okS_app (by decide +kernel) (okS_join ts h)) (by split <;> decide +kernel)
theorem okS_from : ∀ (ts : List Str) (k : Nat) (acc : Str), PyData.strOk acc = true → (∀ t ∈ ts, PyData.strOk t = true) → PyData.strOk (textFrom k acc ts) = true
  | [], _, _, ha, _ => ha
  | t :: ts, k, acc, ha, h => okS_from ts (k + 1) _ (okS_app (okS_app ha (by split <;> decide +kernel)) (h t List.mem_cons_self)) fun x hx => h x (List.mem_cons_of_mem _ hx)
theorem okS_list {ts : List Str} (h : ∀ t ∈ ts, PyData.strOk t = true) : PyData.strOk (listText ts) = true := by
  unfold listText
  exact okS_app (okS_from ts 0 _ (by decide +kernel) h) (by decide +kernel)
/-- plain values, few and told in few signs -/
structure PlX (xs : List V) : Prop where
  ok : ∀ x ∈ xs, reprOk x
  l : xs.length ≤ 1000
  z : ∀ x ∈ xs, (reprV x).length ≤ 100
  s : ∀ x ∈ xs, PyData.strOk (reprV x) = true
theorem PlX.sT {xs : List V} (p : PlX xs) : PyData.strOk (tupleText (xs.map reprV)) = true := okS_tuple fun t ht => by obtain ⟨x, hx, rfl⟩ := List.mem_map.mp ht; exact p.s x hx
theorem PlX.sL {xs : List V} (p : PlX xs) : PyData.strOk (listText (xs.map reprV)) = true := okS_list fun t ht => by obtain ⟨x, hx, rfl⟩ := List.mem_map.mp ht; exact p.s x hx
theorem PlX.zT {xs : List V} (p : PlX xs) : (tupleText (xs.map reprV)).length ≤ sizeLine := by
  have h1 := fmt_text (xs.map reprV)
  have h2 := piled_le (m := 100) (xs.map reprV) fun t ht => by obtain ⟨x, hx, rfl⟩ := List.mem_map.mp ht; exact p.z x hx
  have := p.l
  rw [List.length_map] at h2
  rw [sizeLine_eq]
  omega
theorem PlX.zL {xs : List V} (p : PlX xs) : (listText (xs.map reprV)).length ≤ sizeLine := by
  have h1 := listText_le (xs.map reprV)
  have h2 := piled_le (m := 100) (xs.map reprV) fun t ht => by obtain ⟨x, hx, rfl⟩ := List.mem_map.mp ht; exact p.z x hx
  have := p.l
  rw [List.length_map] at h2
  rw [sizeLine_eq]
  omega
theorem PlX.nil : PlX [] := ⟨fun _ h => absurd h List.not_mem_nil, by decide, fun _ h => absurd h List.not_mem_nil, fun _ h => absurd h List.not_mem_nil⟩
theorem PlX.cons {x : V} {xs : List V} (ok : reprOk x) (z : (reprV x).length ≤ 100 ∧ PyData.strOk (reprV x) = true) (p : PlX xs) (l : xs.length < 1000) : PlX (x :: xs) :=
  ⟨fun y hy => (List.mem_cons.mp hy).elim (fun e => e ▸ ok) (p.ok y), l, fun y hy => (List.mem_cons.mp hy).elim (fun e => e ▸ z.1) (p.z y), fun y hy => (List.mem_cons.mp hy).elim (fun e => e ▸ z.2) (p.s y)⟩
theorem PlX.app {xs ys : List V} (p : PlX xs) (q : PlX ys) (l : xs.length + ys.length ≤ 1000) : PlX (xs ++ ys) :=
  ⟨fun y hy => (List.mem_append.mp hy).elim (p.ok y) (q.ok y), by rw [List.length_append]; exact l, fun y hy => (List.mem_append.mp hy).elim (p.z y) (q.z y), fun y hy => (List.mem_append.mp hy).elim (p.s y) (q.s y)⟩
theorem nat60 : ∀ k : Nat, k < 100 → (reprV (.int (k : Int))).length ≤ 100 ∧ PyData.strOk (reprV (.int (k : Int))) = true := by decide +kernel
theorem PlX.nats {f : List Nat} (h : ∀ x ∈ f, x < 100) (l : f.length ≤ 1000) : PlX (f.map fun (k : Nat) => V.int (k : Int)) :=
  ⟨fun y hy => by
    obtain ⟨k, hk, rfl⟩ := List.mem_map.mp hy
    have := h k hk
    show ((k : Int)).natAbs.log2 < 1920
    have e : ((k : Int)).natAbs = k := by omega
    rw [e]
    exact Nat.lt_of_le_of_lt (Nat.log2_le_self k) (by omega), by rw [List.length_map]; exact l, fun y hy => by
    obtain ⟨k, hk, rfl⟩ := List.mem_map.mp hy
    exact (nat60 k (h k hk)).1, fun y hy => by
    obtain ⟨k, hk, rfl⟩ := List.mem_map.mp hy
    exact (nat60 k (h k hk)).2⟩
end L2
set_option Elab.async false
set_option linter.all false
set_option maxRecDepth 100000
/-! values that are no acts -/
namespace K1
open PySem L2 LamX RpR
/-- what repr and is_act see of an odd value -/
inductive Odd (H : Hp) : V → Prop
  | tup {a : Addr} {xs : List V} (e : H a = some (.tup xs)) (p : PlX xs) (th : ∀ x ∈ xs, ∀ K H', ∃ t, Th K H' x t) (n : actB xs = false) : Odd H (.ref a)
  | lst {a : Addr} {x : V} {xs : List V} (e : H a = some (.lst (x :: xs))) (p : PlX (x :: xs)) : Odd H (.ref a)
  | flat {v : V} {t : String} (ok : reprOk v) (so : PyData.strOk (reprV v) = true) (th : ∀ K H', Th K H' v t) (n : (t == "tuple") = false) : Odd H v
theorem Odd.rp {H : Hp} {v : V} (g : List Code) (h : Odd H v) : ∃ t, Rp g H v t ∧ PyData.strOk t = true := by
  cases h with
  | tup e p th n => exact ⟨_, .tup e p.ok p.zT, by split; decide +kernel; exact p.sT⟩
  | lst e p => exact ⟨_, .lst e p.ok p.zL, by split; decide +kernel; exact p.sL⟩
  | flat ok so th n => exact ⟨_, .plain ok, so⟩
theorem Odd.ask {K : PySem.W.Frag} {H : Hp} {v : V} (h : Odd H v) : AskA K H v false := by
  cases h with
  | tup e p th n => exact .inl ⟨_, _, rfl, e, p.l, fun x hx => th x hx K H, n.symm⟩
  | lst e p => exact .inr ⟨"list", .lst e, rfl, rfl⟩
  | flat ok so th n => exact .inr ⟨_, th K H, n, rfl⟩
theorem Odd.kn {d : Addr} {kv : List (Key × V)} {H H' : Hp} {v : V} (h : Odd H v) (hd : H d = some (.dK kv)) (k : KeptN d H H') : Odd H' v := by
  cases h with
  | tup e p th n => exact .tup (k.tup (ne_of e hd (by intro z; cases z)) e) p th n
  | lst e p => exact .lst (k.lst (ne_of e hd (by intro z; cases z)) e) p
  | flat ok so th n => exact .flat ok so th n
theorem Odd.same {H H' : Hp} {v : V} (h : Odd H v) (s : Same H H') : Odd H' v := by
  cases h with
  | tup e p th n => exact .tup (s _ _ e) p th n
  | lst e p => exact .lst (s _ _ e) p
  | flat ok so th n => exact .flat ok so th n
theorem Odd.int {H : Hp} {i : Int} (h : i.natAbs.log2 < 1920) (s : PyData.strOk (reprV (.int i)) = true) : Odd H (.int i) := .flat h s (fun _ _ => .int i) rfl
theorem Odd.bl {H : Hp} {b : Bool} : Odd H (.bl b) := .flat trivial (by cases b <;> decide +kernel) (fun _ _ => .bl b) rfl
theorem Odd.non {H : Hp} : Odd H .non := .flat trivial (by decide +kernel) (fun _ _ => .non) rfl
theorem Odd.str {H : Hp} {z : Str} (h : (PySem.reprText z).length ≤ sizeLine) (l : z.length ≤ 1000) (s : PyData.strOk (reprV (.str z)) = true) : Odd H (.str z) := .flat h s (fun _ _ => .str z l) rfl
/-- whichever of the written kinds -/
theorem th_list {xs : List V} (h : ∀ x ∈ xs, (∃ i, x = .int i) ∨ (∃ b, x = .bl b) ∨ ∃ z, x = .str z ∧ z.length ≤ 1000) : ∀ x ∈ xs, ∀ K H', ∃ t, Th K H' x t := by
  intro x hx K H'
  rcases h x hx with ⟨i, rfl⟩ | ⟨b, rfl⟩ | ⟨z, rfl, l⟩
  · exact ⟨_, .int i⟩
  · exact ⟨_, .bl b⟩
  · exact ⟨_, .str z l⟩
theorem odd1 {H : Hp} {a : Addr} {x : V} (e : H a = some (.tup [x])) (h : (∃ i, x = .int i) ∨ (∃ b, x = .bl b) ∨ ∃ z, x = .str z ∧ z.length ≤ 1000) (ok : reprOk x) (z : (reprV x).length ≤ 100 ∧ PyData.strOk (reprV x) = true) (n : actB [x] = false) : Odd H (.ref a) :=
  .tup e (.cons ok z .nil (by decide)) (th_list fun y hy => by rw [List.mem_singleton.mp hy]; exact h) n
theorem odd2 {H : Hp} {a : Addr} {x y : V} (e : H a = some (.tup [x, y])) (h : (∃ i, x = .int i) ∨ (∃ b, x = .bl b) ∨ ∃ z, x = .str z ∧ z.length ≤ 1000) (h' : (∃ i, y = .int i) ∨ (∃ b, y = .bl b) ∨ ∃ z, y = .str z ∧ z.length ≤ 1000) (ok : reprOk x) (z : (reprV x).length ≤ 100 ∧ PyData.strOk (reprV x) = true) (ok' : reprOk y) (z' : (reprV y).length ≤ 100 ∧ PyData.strOk (reprV y) = true) (n : actB [x, y] = false) : Odd H (.ref a) :=
  .tup e (.cons ok z (.cons ok' z' .nil (by decide)) (Nat.le_of_ble_eq_true rfl)) (th_list fun q hq => by
    rcases List.mem_cons.mp hq with rfl | hq
    · exact h
    · rw [List.mem_singleton.mp hq]; exact h') n
theorem natI_plx {f : List Nat} (of : ActOk f) : PlX ((natI f).map V.int) := by
  have : (natI f).map V.int = f.map fun (k : Nat) => V.int (k : Int) := by unfold natI; rw [List.map_map]; rfl
  rw [this]
  exact .nats (fun x hx => by have := of.2.2 x hx; have := of.2.1; omega) (by have := of.2.1; omega)
theorem natI_th {f : List Nat} : ∀ x ∈ (natI f).map V.int, ∀ K H', ∃ t, Th K H' x t := fun x hx K H' => by
  obtain ⟨z, _, rfl⟩ := List.mem_map.mp hx
  exact ⟨_, .int z⟩
/-- one state more, that is none -/
theorem act_more {f : List Nat} : actB ((natI f).map V.int ++ [V.int ((f.length : Int) + 1)]) = false := by
  have hl : ((natI f).map V.int ++ [V.int ((f.length : Int) + 1)]).length = f.length + 1 := by rw [List.length_append, List.length_map]; unfold natI; rw [List.length_map]; rfl
  unfold actB
  rw [List.all_append, hl]
  have : ixB (.int ((f.length : Int) + 1)) ((f.length + 1 : Nat) : Int) = false := by
    show (decide (0 ≤ (f.length : Int) + 1) && decide ((f.length : Int) + 1 < ((f.length + 1 : Nat) : Int))) = false
    rw [decide_eq_false (p := ((f.length : Int) + 1 < ((f.length + 1 : Nat) : Int))) (by omega), Bool.and_false]
  simp only [List.all_cons, this, Bool.false_and, Bool.and_false]
theorem more_plx {f : List Nat} (of : ActOk f) : PlX ((natI f).map V.int ++ [V.int ((f.length : Int) + 1)]) := by
  have h := of.2.1
  refine (natI_plx of).app (.cons ?_ ?_ .nil (by decide)) (by rw [List.length_map]; unfold natI; rw [List.length_map]; show f.length + 1 ≤ 1000; omega)
  · show ((f.length : Int) + 1).natAbs.log2 < 1920
    exact Nat.lt_of_le_of_lt (Nat.log2_le_self _) (by omega)
  · have := nat60 (f.length + 1) (by omega)
    exact this
/-- all that is no index -/
theorem odd_at {v : V} (h : v = .non ∨ (∃ b, v = .bl b) ∨ (∃ z : Str, v = .str z)) (m : Int) : ixB v m = false := by
  rcases h with rfl | ⟨b, rfl⟩ | ⟨z, rfl⟩ <;> rfl
end K1
set_option Elab.async false
set_option linter.all false
set_option maxRecDepth 100000
namespace K1
open PySem L2
def valOf : Stmt → Expr
  | .Assign _ v _ => v
  | .Return (some v) _ => v
  | _ => .Constant .none 0 ⟨0, 0, 0, 0⟩
def compScope : Expr → Scope
  | .ListComp _ _ sc _ => sc
  | _ => { kind := .function, names := [], isGenerator := false, isCoroutine := false }
def eltOf : Expr → Expr
  | .ListComp e _ _ _ => e
  | e => e
def stOf (s : Stmt) (i : Nat) : Stmt := (defBody s).getD i (.Pass ⟨0, 0, 0, 0⟩)
def spPen (K : PySem.W.Frag) : Sp := fun vs H Q _ => ∃ (a : Addr) (ns : List Int), vs = [.ref a] ∧ SqL K H a (ns.map V.int) ∧ ns.length ≤ 63 ∧
  ∀ (d c : Addr) (H' : Hp), H d = none → H c = none → PenAt H' d c 0 → Same H H' → Q (.ref d) H'
section
variable {P : Program} {w : World} {K : PySem.W.Frag} {mg : Str → Option Value} {base : Heap}
theorem scPen : FnScope ["_law_script"] ["_law_script"] (defScope sPen) := ⟨rfl, rfl, rfl, by decide +kernel, rfl, by decide +kernel, by decide +kernel⟩
theorem cut63 {xs : List V} (h : xs.length ≤ 63) : cutV xs none (some 63) = xs := by
  have e : HT.sIx xs.length xs.length (some 63) = min 63 xs.length := HT.sIx_nat xs.length xs.length 63
  unfold cutV
  rw [HT.sIx_none, e, Nat.min_eq_right h]
  simp
theorem ok_pen {f : Addr} {fd : FuncData} (D : Df K mg "_law_pen" sPen ["_law_script"] f fd) (T : Bt mg) : FnOk P w K mg base CX0 1 f fd ["_law_script"] (spPen K) := by
  refine D.F.ok scPen (fun vs H Q E h => ?_) (fun cdv A outer s H vs Q E hr h => ?_)
  · obtain ⟨a, ns, rfl, _⟩ := h
    rfl
  · obtain ⟨a, ns, rfl, ha, hl, k⟩ := h
    refine ⟨_, pss_one (ps_ret (pe_disp (pps_cons pe_str (pe_callTy call_list_of (by rfl) T.list (by decide +kernel) (pa_cons (pe_slice sl_list (pv 0) po_none (po_some pe_int)) pa_nil))
      (pps_cons pe_str pe_int (pps_cons pe_str pe_int pps_nil))) (by rfl) (by rfl) (fun z => by cases z) (by decide))), ?_⟩
    intro p hp
    have ha1 := (same_upd (o := .dK []) hp).seq ha
    refine ⟨_, rfl, 63, rfl, a, _, rfl, ha1, fun q hq => ?_⟩
    rw [cut63 (by simpa using hl)]
    refine ⟨q, _, rfl, .inl (SqL.of upd_same), fun c hc => ?_⟩
    have npq : p ≠ q := by intro z; rw [z, upd_same] at hq; cases hq
    have nqp := npq.symm
    have zq : H q = none := by rw [upd_ne nqp] at hq; exact hq
    have npc : p ≠ c := by
      intro z; rw [z] at npq; rw [← z, upd_ne (by rw [z]; exact npq), upd_same] at hc; cases hc
    have nqc : q ≠ c := by intro z; rw [← z, upd_same] at hc; cases hc
    have zc : H c = none := by rw [upd_ne nqc.symm, upd_ne npc.symm] at hc; exact hc
    refine ⟨by rw [upd_ne npc, upd_ne npq, upd_same], penK c 0 0, rfl, by show 3 ≤ 15; decide, ?_⟩
    have em : mergeK [] (penK c 0 0) = penK c 0 0 := by
      have h1 : ¬ (("cells" : Str) = "at") := by decide +kernel
      have h2 : ¬ (("cells" : Str) = "left") := by decide +kernel
      have h3 : ¬ (("at" : Str) = "left") := by decide +kernel
      unfold mergeK penK putK
      simp [h1, h2, h3]
    rw [em]
    refine k p c _ hp zc ⟨ns, 0, 0, upd_same, ?_, hl, by decide, by decide⟩ ?_
    · rw [upd_ne npc.symm, upd_same]
    · intro b o e
      rw [upd_ne (ne_of_none e hp), upd_ne (ne_of_none e zc), upd_ne (ne_of_none e zq), upd_ne (ne_of_none e hp)]
      exact e
end
end K1
set_option Elab.async false
set_option linter.all false
set_option maxRecDepth 100000
set_option maxHeartbeats 2000000
/-! the law: what is refused -/
namespace K1
open PySem L2 LamX RpR
abbrev sLaw : Stmt := top 25
abbrev qLaw : Str := "law.<locals>.<lambda>"
def forBody : Stmt → List Stmt
  | .For _ _ b _ _ => b
  | _ => []
abbrev lawBody : List Stmt := forBody (stOf sLaw 1)
theorem PenAt.dk {H : Hp} {d c : Addr} {n : Nat} (h : PenAt H d c n) : ∃ kv, H d = some (.dK kv) := by
  obtain ⟨_, _, _, hd, _⟩ := h
  exact ⟨_, hd⟩
theorem ActAt.kn {K : PySem.W.Frag} {C d : Addr} {kv : List (Key × V)} {H H' : Hp} {x : Addr} {f : List Nat} (h : ActAt K C H x f) (hd : H d = some (.dK kv)) (k : KeptN d H H') : ActAt K C H' x f := by
  obtain ⟨dx, a, im, cy, is, c1, c2, h1, h2, h3, h4, h5, h6⟩ := h
  refine ⟨dx, a, im, cy, is, c1, c2, k.ins (ne_of h1 hd (by intro z; cases z)) h1, ?_, k.tup (ne_of h3 hd (by intro z; cases z)) h3, h4, h5, k.tup (ne_of h6 hd (by intro z; cases z)) h6⟩
  rcases h2 with (h | ⟨o, h⟩) | h
  · exact .inl (.inl (k.tup (ne_of h hd (by intro z; cases z)) h))
  · exact .inl (.inr ⟨o, k _ _ h (ne_of h hd (by intro z; cases z)) fun ps => by intro z; cases z⟩)
  · exact .inr h
/-- the first menu: no indices -/
theorem menu1 {H : Hp} {m : Nat} (hm : m ≤ 60) {v : V} (h : v ∈ [V.int (-1), .int (m : Int), .bl true, .non, .str "0", .int (10 ^ Int.toNat 30)]) : Odd H v ∧ ixB v (m : Int) = false ∧ ∃ t, ∀ K H', Th K H' v t := by
  simp only [List.mem_cons, List.not_mem_nil, or_false] at h
  rcases h with rfl | rfl | rfl | rfl | rfl | rfl
  · exact ⟨.int (by decide +kernel) (by decide +kernel), rfl, _, fun _ _ => .int _⟩
  · refine ⟨.int ?_ (nat60 m (by omega)).2, ?_, _, fun _ _ => .int _⟩
    · have e : ((m : Int)).natAbs = m := by omega
      rw [e]
      exact Nat.lt_of_le_of_lt (Nat.log2_le_self m) (by omega)
    · show (decide (0 ≤ (m : Int)) && decide ((m : Int) < (m : Int))) = false
      rw [decide_eq_false (p := (m : Int) < (m : Int)) (by omega), Bool.and_false]
  · exact ⟨.bl, rfl, _, fun _ _ => .bl _⟩
  · exact ⟨.non, rfl, _, fun _ _ => .non⟩
  · exact ⟨.str (by decide +kernel) (by decide +kernel) (by decide +kernel), rfl, _, fun _ _ => .str _ (by decide +kernel)⟩
  · refine ⟨.int (by decide +kernel) (by decide +kernel), ?_, _, fun _ _ => .int _⟩
    show (decide ((0 : Int) ≤ 10 ^ Int.toNat 30) && decide ((10 : Int) ^ Int.toNat 30 < (m : Int))) = false
    have : (60 : Int) < 10 ^ Int.toNat 30 := by decide +kernel
    rw [decide_eq_false (p := ((10 : Int) ^ Int.toNat 30 < (m : Int))) (by omega), Bool.and_false]
theorem rI {i : Int} (h : i.natAbs.log2 < 1920) : reprOk (.int i) := h
/-- the second menu: no numbers -/
theorem menu2 {H : Hp} {q : Addr} (hq : H q = some (.tup [V.int 1])) {v : V} (h : v ∈ [V.int (-1), .int (10 ^ Int.toNat 30 + 1), .bl true, .non, .str "2", .ref q]) : (∀ g, ∃ t, Rp g H v t ∧ PyData.strOk t = true) ∧ numT v = false ∧ ∃ t, ∀ K, Th K H v t := by
  have fin : ∀ {v : V}, Odd H v → ∀ g, ∃ t, Rp g H v t ∧ PyData.strOk t = true := fun o g => o.rp g
  simp only [List.mem_cons, List.not_mem_nil, or_false] at h
  rcases h with rfl | rfl | rfl | rfl | rfl | rfl
  · have o : Odd H (.int (-1)) := .int (by decide +kernel) (by decide +kernel)
    exact ⟨fin o, rfl, _, fun _ => .int _⟩
  · have o : Odd H (.int (10 ^ Int.toNat 30 + 1)) := .int (by decide +kernel) (by decide +kernel)
    exact ⟨fin o, by decide +kernel, _, fun _ => .int _⟩
  · exact ⟨fin .bl, rfl, _, fun _ => .bl _⟩
  · exact ⟨fin .non, rfl, _, fun _ => .non⟩
  · have o : Odd H (.str "2") := .str (by decide +kernel) (by decide +kernel) (by decide +kernel)
    exact ⟨fin o, rfl, _, fun _ => .str _ (by decide +kernel)⟩
  · have p : PlX [V.int 1] := .cons (rI (by decide +kernel)) (by decide +kernel) .nil (by decide)
    exact ⟨fun g => ⟨_, .tup hq p.ok p.zT, by split; decide +kernel; exact p.sT⟩, rfl, _, fun _ => .tup hq⟩
/-- the third menu's objects -/
structure M3 (H : Hp) (f : List Nat) (p0 p1 p2 p3 p4 p5 p6 p7 p8 p9 p10 : Addr) : Prop where
  h0 : H p0 = some (.tup [])
  h1 : H p1 = some (.lst [.int 0])
  h2 : H p2 = some (.tup [.int 1])
  h3 : H p3 = some (.tup [.int 0, .int 2])
  h4 : H p4 = some (.tup [.bl true])
  h5 : H p5 = some (.tup [.int (-1), .int 0])
  h6 : H p6 = some (.tup [.str "0"])
  h7 : H p7 = some (.lst ((natI f).map V.int))
  h8 : H p8 = some (.tup ((natI f).map V.int ++ [V.int ((f.length : Int) + 1)]))
  h9 : H p9 = some (.tup [.bl false])
  h10 : H p10 = some (.tup [.int 0, .bl true])
theorem menu3 {H : Hp} {f : List Nat} (of : ActOk f) {p0 p1 p2 p3 p4 p5 p6 p7 p8 p9 p10 : Addr} (m : M3 H f p0 p1 p2 p3 p4 p5 p6 p7 p8 p9 p10) {v : V}
    (h : v ∈ [V.ref p0, .ref p1, .ref p2, .ref p3, .ref p4, .str "0", .non, .ref p5, .ref p6, .ref p7, .ref p8, .int 0, .ref p9, .ref p10]) : Odd H v := by
  obtain ⟨h0, h1, h2, h3, h4, h5, h6, h7, h8, h9, h10⟩ := m
  simp only [List.mem_cons, List.not_mem_nil, or_false] at h
  rcases h with rfl | rfl | rfl | rfl | rfl | rfl | rfl | rfl | rfl | rfl | rfl | rfl | rfl | rfl
  · exact .tup h0 .nil (fun x hx => absurd hx List.not_mem_nil) rfl
  · exact .lst h1 (.cons (rI (by decide +kernel)) (by decide +kernel) .nil (by decide))
  · exact odd1 h2 (.inl ⟨_, rfl⟩) (rI (by decide +kernel)) (by decide +kernel) (by decide +kernel)
  · exact odd2 h3 (.inl ⟨_, rfl⟩) (.inl ⟨_, rfl⟩) (rI (by decide +kernel)) (by decide +kernel) (rI (by decide +kernel)) (by decide +kernel) (by decide +kernel)
  · exact odd1 h4 (.inr (.inl ⟨_, rfl⟩)) trivial (by decide +kernel) (by decide +kernel)
  · exact .str (by decide +kernel) (by decide +kernel) (by decide +kernel)
  · exact .non
  · exact odd2 h5 (.inl ⟨_, rfl⟩) (.inl ⟨_, rfl⟩) (rI (by decide +kernel)) (by decide +kernel) (rI (by decide +kernel)) (by decide +kernel) (by decide +kernel)
  · exact odd1 h6 (.inr (.inr ⟨_, rfl, by decide +kernel⟩)) (show (PySem.reprText "0").length ≤ sizeLine by decide +kernel) (by decide +kernel) (by decide +kernel)
  · cases f with
    | nil => exact absurd of.1 (by decide)
    | cons a r => exact .lst h7 (natI_plx of)
  · exact .tup h8 (more_plx of) (fun x hx => by
      rcases List.mem_append.mp hx with hx | hx
      · exact natI_th x hx
      · rw [List.mem_singleton.mp hx]; exact fun K H' => ⟨_, .int _⟩) act_more
  · exact .int (by decide +kernel) (by decide +kernel)
  · exact odd1 h9 (.inr (.inl ⟨_, rfl⟩)) trivial (by decide +kernel) (by decide +kernel)
  · exact odd2 h10 (.inl ⟨_, rfl⟩) (.inr (.inl ⟨_, rfl⟩)) (rI (by decide +kernel)) (by decide +kernel) trivial (by decide +kernel) (by decide +kernel)
end K1
set_option Elab.async false
set_option linter.all false
set_option maxRecDepth 100000
set_option maxHeartbeats 2000000
/-! the law: what is refused, in the law -/
namespace K1
open PySem L2 LamX RpR
def spLaw (K : PySem.W.Frag) (T : List (Addr × Str)) : Sp := fun vs H Q _ => ∃ (a : Addr) (ns : List Int), vs = [.ref a] ∧ SqL K H a (ns.map V.int) ∧ ns.length ≤ 63 ∧ Tabs T H ∧ ∀ H', Q (.bl true) H'
/-- what the law calls -/
structure Fs (P : Program) (w : World) (K : PySem.W.Frag) (mg : Str → Option Value) (base : Heap) (C : Addr) (cs : Cs) (T : List (Addr × Str)) : Prop where
  T3 : Bt3 mg
  rp : mg "repr" = none
  M : Tac K mg C
  pen : ∃ f fd, Df K mg "_law_pen" sPen ["_law_script"] f fd
  draw : ∃ f fd, Df K mg "_law_draw" sDraw pDraw f fd
  pick : ∃ f fd, Df K mg "_law_pick" sPick pPick f fd
  ica : ∃ f fd, mg "_law_is_act" = some (.ref f) ∧ PySem.W.keepIn K (.ref f) = true ∧ Binds K fd pIcA [] ∧ FnOk P w K mg base CX0 8 f fd pIcA (spIcA K C)
  ipa : ∃ f fd, mg "_law_is_compared" = some (.ref f) ∧ PySem.W.keepIn K (.ref f) = true ∧ Binds K fd pIpA [] ∧ FnOk P w K mg base CX0 4 f fd pIpA (spIpA K C)
  pow : ∃ f fd, mg "_law_powers" = some (.ref f) ∧ PySem.W.keepIn K (.ref f) = true ∧ Binds K fd pPow [] ∧ FnOk P w K mg base CX0 1 f fd pPow (spPow K)
  ref : ∃ f fd, Df K mg "_law_refused" sRefX pRefX f fd
  made : ∃ f fd, Mk K C f ∧ Binds K fd pAInit [] ∧ KBn K fd pAInit 1 ["states"] (fun us ws => us ++ ws) (fun vs zs => vs ++ zs) ∧ FnOk P w K mg base (L2.CX P w) 4 f fd pAInit (spAInit K C cs.CA)
  mul : ∃ f fd, OwnB K C f (PySem.dunder Operator.Mult.info.2) ∧ Binds K fd pAMul [] ∧ FnOk P w K mg base (L2.CX P w) 6 f fd pAMul (spAMul K C cs.CU)
  get : ∃ f fd, PySem.W.findIn K (.ref C) "__getitem__" = some (some (.ref f)) ∧ PySem.W.fnIn K f = true ∧ PySem.W.isFn K (.ref f) = true ∧ Binds K fd pAGet [] ∧ FnOk P w K mg base (L2.CX P w) 6 f fd pAGet (spAGet K C cs.CS)
  tim : ∃ f fd, Meth K C "times" f ∧ Binds K fd pATimes [] ∧ FnOk P w K mg base (L2.CX P w) 6 f fd pATimes (spATimes K C cs.CN)
  oa : ∃ f fd, OBadAct K mg cs.CA f fd
  os : ∃ f fd, OBadState K mg cs.CS f fd
  on : ∃ f fd, OBadNumber K mg cs.CN f fd
  ou : ∃ f fd, OUneven K mg cs.CU f fd
  ol : mg "LooksError" = some (.ref cs.CL)
  ee : Ee K cs
abbrev nLaw : List Str := ["_law_script", "_law_pen_here", "_law_turn", "_law_many", "_law_a", "_law_k", "_law_more", "_law_b", "_law_one", "_law_other", "_law_powers_here", "_law_n", "_law_odd"]
theorem scLaw : FnScope nLaw ["_law_script"] (defScope sLaw) := ⟨rfl, rfl, rfl, by decide +kernel, rfl, by decide +kernel, by decide +kernel⟩
theorem af_times (a im : Addr) (r : Int) (sw : Bool) (cy : Addr) : (af a im r sw cy).lookup ("times" : Str) = none := by
  unfold af
  rw [lookup_putF, if_neg (by decide +kernel), lookup_putF, if_neg (by decide +kernel), lookup_putF, if_neg (by decide +kernel), lookup_putF, if_neg (by decide +kernel), lookup_putF, if_neg (by decide +kernel)]; rfl
theorem eqv_two {u v : Str} (hu : PyData.strOk u = true) (hv : PyData.strOk v = true) : (PyData.tuple [.str u, .str v]).canLay0 = true ∧ SeqAt.shaped (.tuple [.str u, .str v]) = true := by
  have e : (PyData.tuple [.str u, .str v]).canLay0 = true := by simp only [PyData.canLay0, PyData.canLayAll0, hu, hv, Bool.and_self]
  exact ⟨e, shaped_of e (by simp only [PyData.depth, PyData.depthAll]; omega)⟩
section
variable {P : Program} {w : World} {K : PySem.W.Frag} {mg : Str → Option Value} {base : Heap} {C : Addr} {cs : Cs} {T : List (Addr × Str)}
abbrev cxL (P : Program) (w : World) (K : PySem.W.Frag) (mg : Str → Option Value) (base : Heap) (f c : Addr) (A : Around) (outer : List Env) (s : Shared) (H : Hp) (E : XK) : Cx := (cxOf CX0 P w K mg base nLaw "law" (defScope sLaw) f (.ref c) A outer s H E).nox
theorem partC (F : Fs P w K mg base C cs T) {f c pT : Addr} (TB : TabB base mg c pT) (mem : (pT, qLaw) ∈ T) (uni : ∀ p ∈ T, p.1 = pT → p.2 = qLaw) {g : List Code} {A : Around} {outer : List Env} {s : Shared} {H : Hp} {E : XK} (hg : A.guards = some g)
    (hr : Room 9 (A.deeper (PyProof.Rows.envOfC "law" (defScope sLaw) s.heap.objs.size f (.ref c)))) : ∃ tC, PSs (cxL P w K mg base f c A outer s H E) (lawBody.drop 9) tC ∧ ∀ (D : Ends) (H1 : Hp) (v0 v2 v5 v6 v7 v9 v10 v11 v12 : Option V) (d cc a x : Addr) (ff : List Nat) (n : Nat),
      PenAt H1 d cc n → n ≤ 900000 → Tabs T H1 → ActAt K C H1 x ff → ActOk ff → H1 a = some (.tup ((natI ff).map V.int)) →
      (∀ (v12 : Option V) (H' : Hp), PenAt H' d cc (n + 3) → Tabs T H' → D.nx [v0, some (.ref d), v2, some (.int (ff.length : Int)), some (.ref a), v5, v6, v7, some (.ref x), v9, v10, v11, v12] H') →
      tC D [v0, some (.ref d), v2, some (.int (ff.length : Int)), some (.ref a), v5, v6, v7, some (.ref x), v9, v10, v11, v12] H1 := by
  obtain ⟨T3, hrp, M, _, ⟨fD, fdD, DD⟩, ⟨fP, fdP, DP⟩, _, _, _, ⟨fF, fdF, DF⟩, ⟨fI, fdI, MkI, bI, _, GI⟩, _, ⟨fG, fdG, gi, gk, gf, gb, GG⟩, ⟨fT, fdT, MT, bT, GT⟩, ⟨_, _, OA⟩, ⟨_, _, OS⟩, ⟨_, _, ON⟩, ⟨_, _, OU⟩, hL, EE⟩ := F
  have T1 : Bt mg := T3.toBt
  have GP : FnOk P w K mg base CX0 2 fP fdP pPick (spPickL K) := ok_pickL DP DD T1
  have hr2 : Room 2 (cxL P w K mg base f c A outer s H E).A := hr.mono (by decide)
  have hu := hu_of hr
  have hu1 : (cxL P w K mg base f c A outer s H E).A.units + 100 < cLine := by have := hr.un; show (A.deeper _).units + 100 < cLine; omega
  refine ⟨_, pss_cons (ps_set (i := 12) scLaw.nd rfl (Or.inr rfl) (pe_call GP hr2 rfl DP.g DP.F.kp DP.b .nil pass0 (pa_cons (pv 1) (pa_cons (pe_lst (pa_cons (pe_un un_neg pe_int) (pa_cons (pv 3) (pa_cons pe_bl (pa_cons pe_non (pa_cons pe_str (pa_cons (pe_op op_pow pe_int pe_int) pa_nil))))))) pa_nil))))
    (pss_cons (ps_if (pt_cmpR (op_neD hr.units) (pe_lamS (T := T) (k := 7) DF scRefX rfl (Or.inl rfl) rfl (fun gcd => gives_refx (gs := g) hg hu1 OA OS ON OU hL hrp) TB rfl mem uni hr (lamS_by (by show lamSB (defScope sLaw) _ = true; decide +kernel))
        (fun A outer s2 H2 E f c' hr7 => pe_ixOwn (E := E) gi gk gf GG hr7 gb (passes_call (takes_of rfl rfl rfl rfl) fun _ _ _ _ h => h) (pv 8) (pv 12)))
        (pe_tup (pa_cons pe_str (pa_cons (pe_callB (call_repr_G (g := g) hg (by omega)) (by rfl) hrp PyProof.Rows.boot_repr (pa_cons (pv 12) pa_nil)) pa_nil))) (nomark _)) (pss_one (ps_ret pe_bl)) pss_nil)
    (pss_cons (ps_set (i := 12) scLaw.nd rfl (Or.inr rfl) (pe_call GP hr2 rfl DP.g DP.F.kp DP.b .nil pass0 (pa_cons (pv 1) (pa_cons (pe_lst (pa_cons (pe_un un_neg pe_int) (pa_cons (pe_op op_add (pe_op op_pow pe_int pe_int) pe_int) (pa_cons pe_bl (pa_cons pe_non (pa_cons pe_str (pa_cons (pe_tup (pa_cons pe_int pa_nil)) pa_nil))))))) pa_nil))))
    (pss_cons (ps_if (pt_cmpR (op_neD hr.units) (pe_lamS (T := T) (k := 7) DF scRefX rfl (Or.inl rfl) rfl (fun gcd => gives_refx (gs := g) hg hu1 OA OS ON OU hL hrp) TB rfl mem uni hr (lamS_by (by show lamSB (defScope sLaw) _ = true; decide +kernel))
        (fun A outer s2 H2 E f c' hr7 => pe_meth (pv 8) M.cl MT GT (hr7.mono (by decide)) bT .nil (passes_call (takes_of rfl rfl rfl rfl) fun _ _ _ _ h => h) (pa_cons (pv 12) pa_nil)))
        (pe_tup (pa_cons pe_str (pa_cons (pe_callB (call_repr_G (g := g) hg (by omega)) (by rfl) hrp PyProof.Rows.boot_repr (pa_cons (pv 12) pa_nil)) pa_nil))) (nomark _)) (pss_one (ps_ret pe_bl)) pss_nil)
    (pss_cons (ps_set (i := 12) scLaw.nd rfl (Or.inr rfl) (pe_call GP hr2 rfl DP.g DP.F.kp DP.b .nil pass0 (pa_cons (pv 1) (pa_cons (pe_lst (pa_cons (pe_tup pa_nil) (pa_cons (pe_lst (pa_cons pe_int pa_nil)) (pa_cons (pe_tup (pa_cons pe_int pa_nil)) (pa_cons (pe_tup (pa_cons pe_int (pa_cons pe_int pa_nil)))
          (pa_cons (pe_tup (pa_cons pe_bl pa_nil)) (pa_cons pe_str (pa_cons pe_non (pa_cons (pe_tup (pa_cons (pe_un un_neg pe_int) (pa_cons pe_int pa_nil))) (pa_cons (pe_tup (pa_cons pe_str pa_nil)) (pa_cons (pe_callTy (r := rLi K) call_list_of (by rfl) T1.list PyProof.Rows.boot_list (pa_cons (pv 4) pa_nil))
          (pa_cons (pe_op op_catT (pv 4) (pe_tup (pa_cons (pe_op op_add (pv 3) pe_int) pa_nil))) (pa_cons pe_int (pa_cons (pe_tup (pa_cons pe_bl pa_nil)) (pa_cons (pe_tup (pa_cons pe_int (pa_cons pe_bl pa_nil))) pa_nil))))))))))))))) pa_nil))))
    (pss_one (ps_if (pt_cmpR (op_neD hr.units) (pe_lamS (T := T) (k := 7) DF scRefX rfl (Or.inl rfl) rfl (fun gcd => gives_refx (gs := g) hg hu1 OA OS ON OU hL hrp) TB rfl mem uni hr (lamS_by (by show lamSB (defScope sLaw) _ = true; decide +kernel))
        (fun A outer s2 H2 E f c' hr7 => pe_makeS MkI GI (hr7.mono (by decide)) rfl M.mgC bI .nil (fun σ => passAt (takes_of rfl rfl rfl rfl) σ) (pa_cons (pv 12) pa_nil)))
        (pe_tup (pa_cons pe_str (pa_cons (pe_callB (call_repr_G (g := g) hg (by omega)) (by rfl) hrp PyProof.Rows.boot_repr (pa_cons (pv 12) pa_nil)) pa_nil))) (nomark _)) (pss_one (ps_ret pe_bl)) pss_nil)))))), ?_⟩
  intro D H1 v0 v2 v5 v6 v7 v9 v10 v11 v12 d cc a x ff n hp hn hT ax of ha done
  obtain ⟨kv, hd⟩ := hp.dk
  -- no index
  refine ⟨_, rfl, 1, rfl, _, rfl, 10, 30, rfl, rfl, ⟨by decide, by decide, by decide⟩, Nat.le_of_ble_eq_true rfl, fun q hq => ?_⟩
  have s1 := same_upd (o := .lst [V.int (-1), .int (ff.length : Int), .bl true, .non, .str "0", .int (10 ^ Int.toNat 30)]) hq
  refine ⟨d, cc, q, n, _, rfl, hp.same s1, by omega, (hp.ne hq).1, SqL.of upd_same, Nat.le_of_ble_eq_true rfl, Nat.le_of_ble_eq_true rfl, fun v H2 hv p2 k2 => ?_⟩
  have k02 : Kept d H1 H2 := (Kept.same s1).trans k2
  have T2 : Tabs T H2 := hT.pen hp k02
  have ax2 := ax.kn hd k02.n
  have ha2 := k02 _ _ ha (ne_of ha hd (by intro z; cases z))
  refine ⟨T2, fun H3 e3 T3 f3 => ?_⟩
  obtain ⟨kv2, hd2⟩ := p2.dk
  have p3 := e3.pen p2
  have ax3 := ax2.kn hd2 e3.n
  have ha3 := e3.tup ha2
  obtain ⟨od, hix, ty, hth⟩ := menu1 (H := H3) of.2.1 hv
  obtain ⟨tx, rp, so⟩ := od.rp g
  obtain ⟨dx, _, _, _, _, _, _, hx3, _⟩ := id ax3
  refine ⟨_, rfl, _, rfl, x, dx, _, rfl, hx3, ⟨x, v, ty, ff, rfl, ax3, of, hth _ _, fun _ => rs_s EE rp (fun p4 G s4 z4 g4 => ?_) f3, fun m em hm => ?_⟩⟩
  · refine ⟨_, rfl, v, tx, rfl, rp.same s4, Nat.le_of_ble_eq_true rfl, fun q5 hq5 => ?_⟩
    have s5 := same_upd (o := .tup [V.str "state", V.str tx]) hq5
    obtain ⟨lay, shp⟩ := eqv_two (u := "state") (by decide +kernel) so
    refine ⟨_, _, .tup (SqT.of (s5 _ _ g4)) (.cons (.str _) (.cons (.str _) .nil)), .tup (SqT.of upd_same) (.cons (.str _) (.cons (.str _) .nil)), shp, shp, _, rfl, ?_⟩
    rw [PySem.SeqAt.eqv_refl _ lay]
    refine iteF ?_
    have s35 : Same H3 (upd G q5 (.tup [V.str "state", V.str tx])) := s4.trans s5
    have p5 := p3.same s35
    have T5 := T3.same s35
    have ax5 := ax3.same s35
    have ha5 := s35 _ _ ha3
    generalize upd G q5 (.tup [V.str "state", V.str tx]) = H5 at p5 T5 ax5 ha5 ⊢
    clear rp so od hix hth s35 s5 s4 g4 hq5 z4 e3 f3 hx3
    obtain ⟨kv5, hd5⟩ := p5.dk
    -- no number
    refine ⟨_, rfl, 1, rfl, _, _, rfl, rfl, ⟨by decide, by decide, by decide⟩, _, _, rfl, rfl, Nat.le_of_ble_eq_true rfl, fun t1 ht1 => ⟨Nat.le_of_ble_eq_true rfl, fun q2 hq2 => ?_⟩⟩
    have s6 := same_upd (o := .tup [V.int 1]) ht1
    have et6 : upd H5 t1 (.tup [V.int 1]) t1 = some (.tup [V.int 1]) := upd_same
    generalize upd H5 t1 (.tup [V.int 1]) = H6 at s6 et6 hq2 ⊢
    have s7 := same_upd (o := .lst [V.int (-1), .int (10 ^ Int.toNat 30 + 1), .bl true, .non, .str "2", .ref t1]) hq2
    refine ⟨d, cc, q2, n + 1, _, rfl, (p5.same s6).same s7, by omega, ((p5.same s6).ne hq2).1, SqL.of upd_same, Nat.le_of_ble_eq_true rfl, Nat.le_of_ble_eq_true rfl, fun v' H8 hv' p8 k8 => ?_⟩
    have k58 : Kept d H5 H8 := ((Kept.same s6).trans (Kept.same s7)).trans k8
    have T8 : Tabs T H8 := T5.pen p5 k58
    have ax8 := ax5.kn hd5 k58.n
    have ha8 := k58 _ _ ha5 (ne_of ha5 hd5 (by intro z; cases z))
    have et8 := k8 _ _ (s7 _ _ et6) (ne_of (s7 _ _ et6) (((p5.same s6).same s7).dk.choose_spec) (by intro z; cases z))
    refine ⟨T8, fun H9 e9 T9 f9 => ?_⟩
    obtain ⟨kv8, hd8⟩ := p8.dk
    have p9 := e9.pen p8
    have ax9 := ax8.kn hd8 e9.n
    have ha9 := e9.tup ha8
    have et9 := e9.tup et8
    obtain ⟨rps, hnum, ty, hth⟩ := menu2 et9 hv'
    obtain ⟨tx, rp, so⟩ := rps g
    obtain ⟨dx, _, _, _, _, _, _, hx9, _⟩ := id ax9
    refine ⟨_, rfl, x, dx, _, rfl, hx9, af_times _ _ _ _ _, _, rfl, ⟨x, v', ty, ff, rfl, ax9, of, hth _, fun _ => rs_n EE rp (fun p10 G s10 z10 g10 => ?_) f9, fun m em hm => ?_⟩⟩
    · refine ⟨_, rfl, v', tx, rfl, rp.same s10, Nat.le_of_ble_eq_true rfl, fun q11 hq11 => ?_⟩
      have s11 := same_upd (o := .tup [V.str "number", V.str tx]) hq11
      obtain ⟨lay, shp⟩ := eqv_two (u := "number") (by decide +kernel) so
      refine ⟨_, _, .tup (SqT.of (s11 _ _ g10)) (.cons (.str _) (.cons (.str _) .nil)), .tup (SqT.of upd_same) (.cons (.str _) (.cons (.str _) .nil)), shp, shp, _, rfl, ?_⟩
      rw [PySem.SeqAt.eqv_refl _ lay]
      refine iteF ?_
      have s911 : Same H9 (upd G q11 (.tup [V.str "number", V.str tx])) := s10.trans s11
      have p11 := p9.same s911
      have T11 := T9.same s911
      have ax11 := ax9.same s911
      have ha11 := s911 _ _ ha9
      generalize upd G q11 (.tup [V.str "number", V.str tx]) = HA at p11 T11 ax11 ha11 ⊢
      clear rp so rps hnum hth s911 s11 s10 g10 hq11 z10 e9 f9 hx9 et9 et8 et6 s6 s7
      refine ⟨_, rfl, Nat.le_of_ble_eq_true rfl, fun p0 z0 => ?_⟩
      have u0 := same_upd (o := .tup []) z0
      have w0 : upd HA p0 (.tup []) p0 = some (.tup []) := upd_same
      generalize upd HA p0 (.tup []) = B0 at u0 w0 ⊢
      refine ⟨Nat.le_of_ble_eq_true rfl, fun p1 z1 => ?_⟩
      have u1 := same_upd (o := .lst [V.int 0]) z1
      have w1 : upd B0 p1 (.lst [V.int 0]) p1 = some (.lst [V.int 0]) := upd_same
      generalize upd B0 p1 (.lst [V.int 0]) = B1 at u1 w1 ⊢
      refine ⟨Nat.le_of_ble_eq_true rfl, fun p2 z2 => ?_⟩
      have u2 := same_upd (o := .tup [V.int 1]) z2
      have w2 : upd B1 p2 (.tup [V.int 1]) p2 = some (.tup [V.int 1]) := upd_same
      generalize upd B1 p2 (.tup [V.int 1]) = B2 at u2 w2 ⊢
      refine ⟨Nat.le_of_ble_eq_true rfl, fun p3' z3 => ?_⟩
      have u3 := same_upd (o := .tup [V.int 0, V.int 2]) z3
      have w3 : upd B2 p3' (.tup [V.int 0, V.int 2]) p3' = some (.tup [V.int 0, V.int 2]) := upd_same
      generalize upd B2 p3' (.tup [V.int 0, V.int 2]) = B3 at u3 w3 ⊢
      refine ⟨Nat.le_of_ble_eq_true rfl, fun p4' z4 => ?_⟩
      have u4 := same_upd (o := .tup [V.bl true]) z4
      have w4 : upd B3 p4' (.tup [V.bl true]) p4' = some (.tup [V.bl true]) := upd_same
      generalize upd B3 p4' (.tup [V.bl true]) = B4 at u4 w4 ⊢
      refine ⟨1, rfl, Nat.le_of_ble_eq_true rfl, fun p5' z5 => ?_⟩
      have u5 := same_upd (o := .tup [V.int (-1), V.int 0]) z5
      have w5 : upd B4 p5' (.tup [V.int (-1), V.int 0]) p5' = some (.tup [V.int (-1), V.int 0]) := upd_same
      generalize upd B4 p5' (.tup [V.int (-1), V.int 0]) = B5 at u5 w5 ⊢
      refine ⟨Nat.le_of_ble_eq_true rfl, fun p6 z6 => ?_⟩
      have u6 := same_upd (o := .tup [V.str "0"]) z6
      have w6 : upd B5 p6 (.tup [V.str "0"]) p6 = some (.tup [V.str "0"]) := upd_same
      generalize upd B5 p6 (.tup [V.str "0"]) = B6 at u6 w6 ⊢
      have v06 : Same HA B6 := u0.trans (u1.trans (u2.trans (u3.trans (u4.trans (u5.trans u6)))))
      refine ⟨_, rfl, a, _, rfl, .inr (SqT.of (v06 _ _ ha11)), fun p7 z7 => ?_⟩
      have u7 := same_upd (o := .lst ((natI ff).map V.int)) z7
      have w7 : upd B6 p7 (.lst ((natI ff).map V.int)) p7 = some (.lst ((natI ff).map V.int)) := upd_same
      generalize upd B6 p7 (.lst ((natI ff).map V.int)) = B7 at u7 w7 ⊢
      refine ⟨_, rfl, _, rfl, _, _, rfl, rfl, Nat.le_of_ble_eq_true rfl, fun tm z8 => ?_⟩
      have u8 := same_upd (o := .tup [V.int ((ff.length : Int) + 1)]) z8
      have w8 : upd B7 tm (.tup [V.int ((ff.length : Int) + 1)]) tm = some (.tup [V.int ((ff.length : Int) + 1)]) := upd_same
      generalize upd B7 tm (.tup [V.int ((ff.length : Int) + 1)]) = B8 at u8 w8 ⊢
      have v08 : Same HA B8 := v06.trans (u7.trans u8)
      have hl : ((natI ff).map V.int).length = ff.length := by rw [List.length_map]; exact List.length_map _
      refine ⟨a, tm, _, _, rfl, rfl, SqT.of (v08 _ _ ha11), SqT.of w8, (fun e => by rw [e] at hl; have := of.1; simp at hl; omega), by rw [hl, sizeLine_eq]; have := of.2.1; show ff.length + 1 ≤ _; omega, (fun e => by cases e), fun _ p8' z9 => ?_⟩
      have u9 := same_upd (o := .tup ((natI ff).map V.int ++ [V.int ((ff.length : Int) + 1)])) z9
      have w9 : upd B8 p8' (.tup ((natI ff).map V.int ++ [V.int ((ff.length : Int) + 1)])) p8' = some (.tup ((natI ff).map V.int ++ [V.int ((ff.length : Int) + 1)])) := upd_same
      generalize upd B8 p8' (.tup ((natI ff).map V.int ++ [V.int ((ff.length : Int) + 1)])) = B9 at u9 w9 ⊢
      refine ⟨Nat.le_of_ble_eq_true rfl, fun p9' z10 => ?_⟩
      have u10 := same_upd (o := .tup [V.bl false]) z10
      have w10 : upd B9 p9' (.tup [V.bl false]) p9' = some (.tup [V.bl false]) := upd_same
      generalize upd B9 p9' (.tup [V.bl false]) = B10 at u10 w10 ⊢
      refine ⟨Nat.le_of_ble_eq_true rfl, fun p10 z11 => ?_⟩
      have u11 := same_upd (o := .tup [V.int 0, V.bl true]) z11
      have w11 : upd B10 p10 (.tup [V.int 0, V.bl true]) p10 = some (.tup [V.int 0, V.bl true]) := upd_same
      generalize upd B10 p10 (.tup [V.int 0, V.bl true]) = B11 at u11 w11 ⊢
      refine ⟨Nat.le_of_ble_eq_true rfl, fun q12 hq12 => ?_⟩
      have v11 : Same HA B11 := v08.trans (u9.trans (u10.trans u11))
      have u12 := same_upd (o := .lst [V.ref p0, .ref p1, .ref p2, .ref p3', .ref p4', .str "0", .non, .ref p5', .ref p6, .ref p7, .ref p8', .int 0, .ref p9', .ref p10]) hq12
      have m11 : M3 B11 ff p0 p1 p2 p3' p4' p5' p6 p7 p8' p9' p10 :=
        have c1 := u10.trans u11
        have c2 := u9.trans c1
        have c3 := u8.trans c2
        have c4 := u7.trans c3
        have c5 := u6.trans c4
        have c6 := u5.trans c5
        have c7 := u4.trans c6
        have c8 := u3.trans c7
        have c9 := u2.trans c8
        have c10 := u1.trans c9
        ⟨c10 _ _ w0, c9 _ _ w1, c8 _ _ w2, c7 _ _ w3, c6 _ _ w4, c5 _ _ w5, c4 _ _ w6, c3 _ _ w7, c1 _ _ w9, u11 _ _ w10, w11⟩
      have pB := p11.same v11
      refine ⟨d, cc, q12, n + 2, _, rfl, pB.same u12, by omega, (pB.ne hq12).1, SqL.of upd_same, Nat.le_of_ble_eq_true rfl, Nat.le_of_ble_eq_true rfl, fun v'' HC hv'' pC kC => ?_⟩
      obtain ⟨kvB, hdB⟩ := pB.dk
      have kBC : Kept d B11 HC := (Kept.same u12).trans kC
      have TC : Tabs T HC := (T11.same v11).pen pB kBC
      have axC := (ax11.same v11).kn hdB kBC.n
      have oC := (menu3 of m11 hv'').kn hdB kBC.n
      refine ⟨TC, fun HD eD TD fD => ?_⟩
      obtain ⟨kvC, hdC⟩ := pC.dk
      have pD := eD.pen pC
      have axD := axC.kn hdC eD.n
      have oD := oC.kn hdC eD.n
      refine ⟨_, rfl, ?_⟩
      (try delta tNil)
      intro z dz hz hdz ndz
      have sE : Same HD (upd (upd HD dz (.own z)) z (.ins C dz [])) := fun b o e => by rw [upd_ne (ne_of_none e hz), upd_ne (ne_of_none e hdz)]; exact e
      have oE := oD.same sE
      obtain ⟨tx, rp, so⟩ := oE.rp g
      refine ⟨z, dz, v'', false, rfl, upd_same, oE.ask, fun _ => rs_a EE rp (fun pF G sF zF gF => ?_) fD, fun h => by cases h⟩
      refine ⟨_, rfl, v'', tx, rfl, rp.same sF, Nat.le_of_ble_eq_true rfl, fun qG hqG => ?_⟩
      have sG := same_upd (o := .tup [V.str "act", V.str tx]) hqG
      obtain ⟨lay, shp⟩ := eqv_two (u := "act") (by decide +kernel) so
      refine ⟨_, _, .tup (SqT.of (sG _ _ gF)) (.cons (.str _) (.cons (.str _) .nil)), .tup (SqT.of upd_same) (.cons (.str _) (.cons (.str _) .nil)), shp, shp, _, rfl, ?_⟩
      rw [PySem.SeqAt.eqv_refl _ lay]
      refine iteF ?_
      have sAll : Same HD (upd G qG (.tup [V.str "act", V.str tx])) := sE.trans (sF.trans sG)
      exact done _ _ (pD.same sAll) (TD.same sAll)
    · subst em
      rw [hnum] at hm
      cases hm
  · subst em
    have : (decide (0 ≤ (m : Int)) && decide ((m : Int) < (ff.length : Int))) = false := hix
    rw [decide_eq_true (by omega), decide_eq_true (by omega)] at this
    cases this
end
end K1
set_option Elab.async false
set_option linter.all false
set_option maxRecDepth 100000
set_option maxHeartbeats 2000000
/-! the law: two acts -/
namespace K1
open PySem L2 LamX RpR
def pdT (l : List Nat) : PyData := .tuple ((natI l).map PyData.int)
theorem dp_tups {K : PySem.W.Frag} {H : Hp} : ∀ (as : List Addr) (ls : List (List Nat)), as.length = ls.length → (∀ (i : Nat) (a : Addr) (l : List Nat), as[i]? = some a → ls[i]? = some l → SqT K H a ((natI l).map V.int)) → DpAll K H (as.map V.ref) (ls.map pdT)
  | [], [], _, _ => .nil
  | [], _ :: _, e, _ => by simp at e
  | _ :: _, [], e, _ => by simp at e
  | a :: as, l :: ls, e, h => .cons (.tup (h 0 a l rfl rfl) (dp_ints _)) (dp_tups as ls (by simpa using e) fun i b m e1 e2 => h (i + 1) b m e1 e2)
theorem lay_ints : ∀ ns : List Int, PyData.canLayAll0 (ns.map PyData.int) = true
  | [] => rfl
  | n :: r => by simp [PyData.canLayAll0, PyData.canLay0, lay_ints r]
theorem lay_tups : ∀ ls : List (List Nat), PyData.canLayAll0 (ls.map pdT) = true
  | [] => rfl
  | l :: r => by simp [PyData.canLayAll0, PyData.canLay0, pdT, lay_tups r, lay_ints]
theorem dep_tups : ∀ ls : List (List Nat), PyData.depthAll (ls.map pdT) ≤ 2
  | [] => by decide
  | l :: r => by
    have h1 := dep_tups r
    have h2 := depth_ints (natI l)
    simp only [List.map_cons, PyData.depthAll, pdT, PyData.depth]
    omega
theorem shp_tups (ls : List (List Nat)) : (PyData.list (ls.map pdT)).canLay0 = true ∧ SeqAt.shaped (.list (ls.map pdT)) = true := by
  have e : (PyData.list (ls.map pdT)).canLay0 = true := by rw [PyData.canLay0, lay_tups]
  exact ⟨e, shaped_of e (by rw [PyData.depth]; have := dep_tups ls; omega)⟩
def ifComp : Stmt → Expr
  | .If (.BoolOp _ (.Compare l _ _ _ :: _) _) _ _ _ => l
  | _ => .Constant .none 0 ⟨0, 0, 0, 0⟩
abbrev eTm : Expr := ifComp (lawBody.getD 8 (.Pass ⟨0, 0, 0, 0⟩))
section
variable {P : Program} {w : World} {K : PySem.W.Frag} {mg : Str → Option Value} {base : Heap} {C : Addr} {cs : Cs} {T : List (Addr × Str)}
theorem lay3 (m k : Int) : (PyData.tuple [.str "uneven", .int m, .int k]).canLay0 = true ∧ SeqAt.shaped (.tuple [.str "uneven", .int m, .int k]) = true := by
  have o1 : PyData.strOk "uneven" = true := by decide +kernel
  have e : (PyData.tuple [.str "uneven", .int m, .int k]).canLay0 = true := by simp only [PyData.canLay0, PyData.canLayAll0, o1, Bool.and_self]
  exact ⟨e, shaped_of e (by simp only [PyData.depth, PyData.depthAll]; omega)⟩
theorem partB2 (F : Fs P w K mg base C cs T) {f c pT : Addr} (TB : TabB base mg c pT) (mem : (pT, qLaw) ∈ T) (uni : ∀ p ∈ T, p.1 = pT → p.2 = qLaw) {g : List Code} {A : Around} {outer : List Env} {s : Shared} {H : Hp} {E : XK} (hg : A.guards = some g)
    (hr : Room 9 (A.deeper (PyProof.Rows.envOfC "law" (defScope sLaw) s.heap.objs.size f (.ref c)))) : ∃ tB2, PSs (cxL P w K mg base f c A outer s H E) (lawBody.drop 7) tB2 ∧ ∀ (D : Ends) (H1 : Hp) (v0 v2 v5 v6 v7 v9 v10 v11 v12 : Option V) (d cc a x : Addr) (ff : List Nat) (n : Nat),
      PenAt H1 d cc n → n ≤ 900000 → Tabs T H1 → ActAt K C H1 x ff → ActOk ff → H1 a = some (.tup ((natI ff).map V.int)) →
      (∀ (v10 v12 : Option V) (H' : Hp), PenAt H' d cc (n + 3) → Tabs T H' → D.nx [v0, some (.ref d), v2, some (.int (ff.length : Int)), some (.ref a), v5, v6, v7, some (.ref x), v9, v10, v11, v12] H') →
      tB2 D [v0, some (.ref d), v2, some (.int (ff.length : Int)), some (.ref a), v5, v6, v7, some (.ref x), v9, v10, v11, v12] H1 := by
  have F0 := F
  obtain ⟨T3, hrp, M, _, _, _, ⟨fA, fdA, mgA, kpA, bA, GA⟩, ⟨fQ, fdQ, mgQ, kpQ, bQ, GQ⟩, ⟨fW, fdW, mgW, kpW, bW, GW⟩, ⟨fF, fdF, DF⟩, ⟨fI, fdI, MkI, bI, kI, GI⟩, ⟨fU, fdU, OU', bU, GU⟩, _, ⟨fT, fdT, MT, bT, GT⟩, ⟨_, _, OA⟩, ⟨_, _, OS⟩, ⟨_, _, ON⟩, ⟨_, _, OU⟩, hL, EE⟩ := F
  have T1 : Bt mg := T3.toBt
  have hu := hu_of hr
  have hr1 : Room 1 _ := hr.mono (by decide)
  have hr4 : Room 4 _ := hr.mono (by decide)
  have hr5 : Room 5 _ := hr.mono (by decide)
  have hr6 : Room 6 _ := hr.mono (by decide)
  have hr8 : Room 8 _ := hr.mono (by decide)
  have hu1 : (cxL P w K mg base f c A outer s H E).A.units + 100 < cLine := by have := hr.un; show (A.deeper _).units + 100 < cLine; omega
  obtain ⟨tC, htC, hqC⟩ := partC F0 TB mem uni (outer := outer) (s := s) (H := H) (E := E) hg hr
  have hnI : ∀ l : List Nat, (natI l).length = l.length := fun l => List.length_map _
  have hin : ∀ (s' : Shared) (H' : Hp) (C' : Addr) (cl' : List (Str × Addr)) (fp' : List Addr), PE (Cx.blk (cxL P w K mg base f c A outer s H E) s' H' (compScope eTm) (compEnvC (compScope eTm) cl' C' (cxL P w K mg base f c A outer s H E).env) fp')
      (eltOf eTm) (tFld K (tMeth C "times" (spATimes K C cs.CN) [] E0 (tVar 8) (tCons (tVar 11) tNil)) "states") := fun s' H' C' cl' fp' => pe_fld (pe_meth (pv 8) M.cl MT GT hr6 bT .nil passL (pa_cons (pv 11) pa_nil)) rfl
  refine ⟨_, pss_cons (ps_set (i := 10) scLaw.nd rfl (Or.inl rfl) (pe_call GW hr1 rfl mgW kpW bW .nil pass0 (pa_cons (pv 4) (pa_cons pe_int pa_nil))))
        (pss_cons (ps_if (PW.pt (pw_or (pt_cmpR (op_neD hr.units) (pe_lc (own := [("_law_n", 11)]) (g := gName 11) (by rfl) scLaw.nd (pi_range1 rfl T1.range (pa_cons pe_int pa_nil))
            (blkOk_by (own := [("_law_n", 11)]) (N := nLaw) (sc := defScope sLaw) (by decide +kernel)) (fun _ _ _ _ _ => pg_name (i := 11) scLaw.nd rfl (Or.inl rfl)) (fun _ _ _ _ _ => pts_nil)
            hin) (pv 10) (nomark _))
            (pw_or1 (pt_not (pt_val (pe_call GA hr8 rfl mgA kpA bA .nil pass0 (pa_cons (pv 8) (pa_cons (pv 4) pa_nil)))))))) (pss_one (ps_ret pe_bl)) pss_nil)
          htC), ?_⟩
  intro D H1 v0 v2 v5 v6 v7 v9 v10 v11 v12 d cc a x ff n hp hn hT ax of ha done
  have l60 := of.2.1
  refine ⟨_, rfl, a, ff, 12, rfl, SqT.of ha, of, by decide, by decide, fun L as H2 hL s2 eL tA => ?_⟩
  have ax2 := ax.same s2
  refine ⟨12, rfl, by decide, by decide, fun D1 hD1 => ?_⟩
  refine lc_range (lo := 0) (n := 12) (fun i H' => ∃ bs : List Addr, bs.length = i ∧ Same H2 H' ∧ H' D1 = some (.lst (bs.map V.ref)) ∧ ∀ (j : Nat) (q : Addr) (l : List Nat), bs[j]? = some q → (powsL ff i)[j]? = some l → SqT K H' q ((natI l).map V.int)) ?_ ?_ ?_
  · exact ⟨[], rfl, same_upd hD1, upd_same, fun j q l e _ => by simp at e⟩
  · rintro i H3 hi ⟨bs, hbl, s3, eD, hq⟩
    have ax3 := ax2.same s3
    obtain ⟨dx, _, _, _, _, _, _, hx, _⟩ := id ax3
    refine ⟨rfl, _, rfl, x, dx, _, rfl, hx, af_times _ _ _ _ _, _, rfl, ⟨x, .int (0 + (i : Int)), "int", ff, rfl, ax3, of, .int _, fun h => ?_, fun m em hm p H4 hp4 s4 ap => ?_⟩⟩
    · exfalso
      have h1 : (decide (0 ≤ 0 + (i : Int)) && decide (0 + (i : Int) ≤ 10 ^ 30)) = false := h
      rw [decide_eq_true (by omega), decide_eq_true (by have : (12 : Int) ≤ 10 ^ 30 := by decide +kernel
                                                        omega)] at h1
      cases h1
    · have : m = i := by have := V.int.inj em; omega
      subst this
      obtain ⟨dp, a2, im, cy, is, c1, c2, hp', hst, _⟩ := id ap
      refine ⟨p, C, dp, _, V.ref a2, rfl, hp', M.cl, M.nS, af_states _ _ _ _ _, _, s4 _ _ eD, by rw [List.length_map, hbl, sizeLine_eq]; omega, bs ++ [a2], by simp [hbl], fun b' o e => by rw [upd_ne (ne_of_none e hD1)]; exact s4 _ _ (s3 _ _ e), by rw [upd_same, List.map_append]; rfl, fun j q l e1 e2 => ?_⟩
      have key : SqT K H4 q ((natI l).map V.int) := by
        rw [powsL_succ] at e2
        by_cases hj : j < m
        · rw [List.getElem?_append_left (by omega)] at e1
          rw [List.getElem?_append_left (by rw [powsL_len]; omega)] at e2
          exact (hq j q l e1 e2).ext s4
        · rw [List.getElem?_append_right (by omega), hbl] at e1
          rw [List.getElem?_append_right (by rw [powsL_len]; omega), powsL_len] at e2
          have : j - m = 0 := by
            have := (List.getElem?_eq_some_iff.mp e1).1
            simp at this
            omega
          rw [this] at e1 e2
          cases e1; cases e2
          exact hst
      have eD4 := s4 _ _ eD
      rcases key with (h | ⟨o, h⟩) | h
      · exact .inl (.inl (by rw [upd_ne (ne_of h eD4 (by intro z; cases z))]; exact h))
      · exact .inl (.inr ⟨o, by rw [upd_ne (ne_of h eD4 (by intro z; cases z))]; exact h⟩)
      · exact .inr h
  rintro H3 ⟨bs, hbl, s3, eD, hq⟩
  have tA3 := tA.same s3
  obtain ⟨lay, shp⟩ := shp_tups (powsL ff 12)
  refine ⟨_, rfl, .list ((powsL ff 12).map pdT), .list ((powsL ff 12).map pdT), .lst (SqL.of eD) (dp_tups bs (powsL ff 12) (by rw [hbl, powsL_len]) hq), .lst (SqL.of (s3 _ _ eL)) (dp_tups as (powsL ff 12) tA3.1 fun i b l e1 e2 => SqT.of (tA3.2 i b l e1 e2)), shp, shp, _, rfl, ?_⟩
  rw [PySem.SeqAt.eqv_refl _ lay]
  refine iteF ?_
  have s13 := s2.trans s3
  refine ⟨_, rfl, _, rfl, x, a, ff, rfl, ax.same s13, of, SqT.of (s13 _ _ ha), fun H4 s4 => ⟨true, rfl, ?_⟩⟩
  refine iteF ?_
  have s14 := s13.trans s4
  exact hqC D H4 v0 v2 v5 v6 v7 v9 _ v11 v12 d cc a x ff n (hp.same s14) hn (hT.same s14) (ax.same s14) of (s14 _ _ ha) fun w12 H' p' T' => done _ w12 H' p' T'
theorem partB (F : Fs P w K mg base C cs T) {f c pT : Addr} (TB : TabB base mg c pT) (mem : (pT, qLaw) ∈ T) (uni : ∀ p ∈ T, p.1 = pT → p.2 = qLaw) {g : List Code} {A : Around} {outer : List Env} {s : Shared} {H : Hp} {E : XK} (hg : A.guards = some g)
    (hr : Room 9 (A.deeper (PyProof.Rows.envOfC "law" (defScope sLaw) s.heap.objs.size f (.ref c)))) : ∃ tB, PSs (cxL P w K mg base f c A outer s H E) (lawBody.drop 4) tB ∧ ∀ (D : Ends) (H1 : Hp) (v0 v2 v5 v6 v8 v9 v10 v11 v12 : Option V) (d cc a b : Addr) (ff gg : List Nat) (n : Nat),
      PenAt H1 d cc n → n ≤ 900000 → Tabs T H1 → ActOk ff → ActOk gg → H1 a = some (.tup ((natI ff).map V.int)) → H1 b = some (.tup ((natI gg).map V.int)) →
      (∀ (v8 v9 v10 v12 : Option V) (H' : Hp), PenAt H' d cc (n + 3) → Tabs T H' → D.nx [v0, some (.ref d), v2, some (.int (ff.length : Int)), some (.ref a), v5, v6, some (.ref b), v8, v9, v10, v11, v12] H') →
      tB D [v0, some (.ref d), v2, some (.int (ff.length : Int)), some (.ref a), v5, v6, some (.ref b), v8, v9, v10, v11, v12] H1 := by
  have F0 := F
  obtain ⟨T3, hrp, M, _, _, _, ⟨fA, fdA, mgA, kpA, bA, GA⟩, ⟨fQ, fdQ, mgQ, kpQ, bQ, GQ⟩, ⟨fW, fdW, mgW, kpW, bW, GW⟩, ⟨fF, fdF, DF⟩, ⟨fI, fdI, MkI, bI, kI, GI⟩, ⟨fU, fdU, OU', bU, GU⟩, _, ⟨fT, fdT, MT, bT, GT⟩, ⟨_, _, OA⟩, ⟨_, _, OS⟩, ⟨_, _, ON⟩, ⟨_, _, OU⟩, hL, EE⟩ := F
  have T1 : Bt mg := T3.toBt
  have hu := hu_of hr
  have hr1 : Room 1 _ := hr.mono (by decide)
  have hr4 : Room 4 _ := hr.mono (by decide)
  have hr5 : Room 5 _ := hr.mono (by decide)
  have hr6 : Room 6 _ := hr.mono (by decide)
  have hr8 : Room 8 _ := hr.mono (by decide)
  have hu1 : (cxL P w K mg base f c A outer s H E).A.units + 100 < cLine := by have := hr.un; show (A.deeper _).units + 100 < cLine; omega
  obtain ⟨tB2, htB2, hqB2⟩ := partB2 F0 TB mem uni (outer := outer) (s := s) (H := H) (E := E) hg hr
  have hnI : ∀ l : List Nat, (natI l).length = l.length := fun l => List.length_map _
  refine ⟨_, pss_cons (ps_asg (pe_tup (pa_cons (pe_make MkI GI hr5 rfl M.mgC bI .nil passL (pa_cons (pv 4) pa_nil)) (pa_cons (pe_makeK0 MkI GI hr5 rfl M.mgC kI passL (pk_cons (pv 7) pk_nil)) pa_nil)))
            (pg_tup (by rfl) (pgs_cons (pg_name (i := 8) scLaw.nd rfl (Or.inr rfl)) (pgs_cons (pg_name (i := 9) scLaw.nd rfl (Or.inr rfl)) pgs_nil))))
        (pss_cons (ps_if (PW.pt (pw_or (pt_not (pt_val (pe_call GA hr8 rfl mgA kpA bA .nil pass0 (pa_cons (pv 8) (pa_cons (pv 4) pa_nil))))) (pw_or (pt_not (pt_val (pe_call GA hr8 rfl mgA kpA bA .nil pass0 (pa_cons (pv 9) (pa_cons (pv 7) pa_nil)))))
            (pw_or1 (pt_not (pt_val (pe_call GQ hr4 rfl mgQ kpQ bQ .nil pass0 (pa_cons (pv 8) (pa_cons (pv 9) (pa_cons (pv 4) (pa_cons (pv 7) pa_nil))))))))))) (pss_one (ps_ret pe_bl)) pss_nil)
        (pss_cons (ps_if (pt_cmpR op_eq (pe_callB call_len (by rfl) T1.len PySem.boot_len (pa_cons (pv 4) pa_nil)) (pe_callB call_len (by rfl) T1.len PySem.boot_len (pa_cons (pv 7) pa_nil)) (nomark _))
            (pss_one (ps_if (pt_not (pt_val (pe_call GA hr8 rfl mgA kpA bA .nil pass0 (pa_cons (pe_ownB (E := fun _ => E0) OU' GU hr6 bU (fun σ pins H s e s' I h => passL pins σ H s e s' I h) (pv 8) (pv 9))
                (pa_cons (pe_callTy (r := rTuA K) call_tuple_of (by rfl) T1.tuple PyProof.Rows.boot_tuple (pa_cons (pe_lc (own := [("_law_k", 5)]) (g := gName 5) (by rfl) scLaw.nd (pi_tup (pv 4))
                (blkOk_by (own := [("_law_k", 5)]) (N := nLaw) (sc := defScope sLaw) (by decide +kernel)) (fun _ _ _ _ _ => pg_name (i := 5) scLaw.nd rfl (Or.inl rfl)) (fun _ _ _ _ _ => pts_nil)
                (fun _ _ _ _ _ => pe_ix (r := rIxT K) ix_tup (pv 7) (pv 5) (fun _ _ => rfl))) pa_nil)) pa_nil))))) (pss_one (ps_ret pe_bl)) pss_nil))
            (pss_one (ps_if (pt_cmpR (op_neD hr.units) (pe_lamS (T := T) (k := 7) DF scRefX rfl (Or.inl rfl) rfl (fun gcd => gives_refx (gs := g) hg hu1 OA OS ON OU hL hrp) TB rfl mem uni hr (lamS_by (by show lamSB (defScope sLaw) _ = true; decide +kernel))
                (fun A outer s2 H2 E f c' hr7 => pe_ownB (E := fun _ => E) OU' GU (hr7.mono (by decide)) bU (fun σ => passAt (takes_of rfl rfl rfl rfl) σ) (pv 8) (pv 9)))
                (pe_tup (pa_cons pe_str (pa_cons (pe_callB call_len (by rfl) T1.len PySem.boot_len (pa_cons (pv 4) pa_nil)) (pa_cons (pe_callB call_len (by rfl) T1.len PySem.boot_len (pa_cons (pv 7) pa_nil)) pa_nil)))) (nomark _)) (pss_one (ps_ret pe_bl)) pss_nil)))
          htB2)), ?_⟩
  intro D H1 v0 v2 v5 v6 v8 v9 v10 v11 v12 d cc a b ff gg n hp hn hT of og ha hb done
  obtain ⟨kv, hd⟩ := hp.dk
  have l60 := of.2.1
  have m60 := og.2.1
  -- one
  refine ⟨_, rfl, ?_⟩
  (try delta tNil)
  intro x dx hx hdx ndx
  have u1 : Same H1 (upd (upd H1 dx (.own x)) x (.ins C dx [])) := fun b o e => by rw [upd_ne (ne_of_none e hx), upd_ne (ne_of_none e hdx)]; exact e
  refine ⟨x, dx, .ref a, true, rfl, upd_same, ask_nat of (u1 _ _ ha), (fun h => by cases h), fun _ => ⟨a, ff, rfl, SqT.of (u1 _ _ ha), of, fun H2 ax2 k2 => ⟨rfl, ?_⟩⟩⟩
  have s2 : Same H1 H2 := fun b o e => k2 b o (u1 _ _ e) (ne_of_none e hx)
  have hb2 := s2 _ _ hb
  -- other
  refine ⟨_, rfl, rfl, rfl, fun y dy hy hdy ndy => ?_⟩
  have u3 : Same H2 (upd (upd H2 dy (.own y)) y (.ins C dy [])) := fun b o e => by rw [upd_ne (ne_of_none e hy), upd_ne (ne_of_none e hdy)]; exact e
  refine ⟨y, dy, .ref b, true, rfl, upd_same, ask_nat og (u3 _ _ hb2), (fun h => by cases h), fun _ => ⟨b, gg, rfl, SqT.of (u3 _ _ hb2), og, fun H3 ay3 k3 => ⟨rfl, ?_⟩⟩⟩
  have s3 : Same H2 H3 := fun b o e => k3 b o (u3 _ _ e) (ne_of_none e hy)
  refine ⟨Nat.le_of_ble_eq_true rfl, fun tp htp => ?_⟩
  have s4 := same_upd (o := .tup [V.ref x, V.ref y]) htp
  have e4 : upd H3 tp (.tup [V.ref x, V.ref y]) tp = some (.tup [V.ref x, V.ref y]) := upd_same
  have s14 : Same H1 (upd H3 tp (.tup [V.ref x, V.ref y])) := s2.trans (s3.trans s4)
  have ax4 := (ax2.same s3).same s4
  have ay4 := ay3.same s4
  generalize upd H3 tp (.tup [V.ref x, V.ref y]) = H4 at s4 e4 s14 ax4 ay4 ⊢
  refine ⟨tp, _, rfl, SqT.of e4, rfl, _, _, rfl, _, _, rfl, rfl, ?_⟩
  dsimp only
  have ha4 := s14 _ _ ha
  have hb4 := s14 _ _ hb
  have hp4 := hp.same s14
  have hT4 := hT.same s14
  clear u1 u3 k2 k3 ax2 ay3 s2 s3 s4 e4 hb2 hx hdx hy hdy htp s14
  -- is act, is act, is compared
  refine ⟨_, rfl, _, rfl, x, a, ff, rfl, ax4, of, SqT.of ha4, fun H5 s5 => ⟨true, rfl, ?_⟩⟩
  refine iteF ?_
  refine ⟨_, rfl, _, rfl, y, b, gg, rfl, ay4.same s5, og, SqT.of (s5 _ _ hb4), fun H6 s6 => ⟨true, rfl, ?_⟩⟩
  refine iteF ?_
  have s46 := s5.trans s6
  refine ⟨_, rfl, _, rfl, _, rfl, _, rfl, x, y, a, b, ff, gg, rfl, ax4.same s46, ay4.same s46, s46 _ _ ha4, s46 _ _ hb4, fun H7 s7 => ⟨true, rfl, ?_⟩⟩
  refine iteF ?_
  have s47 := s46.trans s7
  have ax7 := ax4.same s47
  have ay7 := ay4.same s47
  have ha7 := s47 _ _ ha4
  have hb7 := s47 _ _ hb4
  have hp7 := hp4.same s47
  have hT7 := hT4.same s47
  clear s5 s6 s7 s46 s47 ax4 ay4 ha4 hb4 hp4 hT4
  have la : LenV K (.ref a) H7 ff.length := .inr ⟨_, SqT.of ha7, by rw [List.length_map, hnI]⟩
  have lb : LenV K (.ref b) H7 gg.length := .inr ⟨_, SqT.of hb7, by rw [List.length_map, hnI]⟩
  obtain ⟨kv7, hd7⟩ := hp7.dk
  obtain ⟨dx7, _, _, _, _, _, _, hx7, _⟩ := id ax7
  obtain ⟨dy7, _, _, _, _, _, _, hy7, _⟩ := id ay7
  -- the powers, and what is refused
  refine ⟨_, rfl, _, ff.length, rfl, la, _, rfl, _, gg.length, rfl, lb, rfl, _, rfl, ?_⟩
  refine ite2 (fun e => ?_) (fun e => ?_)
  · have el : ff.length = gg.length := by have := of_decide_eq_true e; injection this with this; omega
    refine ⟨_, rfl, _, rfl, x, y, dx7, dy7, _, _, rfl, rfl, hx7, hy7, ⟨x, y, ff, gg, rfl, ax7, ay7, of, og, (fun h => absurd el h), fun _ p H8 hp8 s8 ap8 => ⟨p, rfl, ?_⟩⟩⟩
    have ha8 := s8 _ _ ha7
    have hb8 := s8 _ _ hb7
    refine ⟨_, rfl, a, rfl, ⟨_, SqT.of ha8⟩, fun D1 hD => ?_⟩
    refine lc_tup (K := K) (a := a) (xs := (natI ff).map V.int) (fun i H' => Same H8 H' ∧ H' D1 = some (.lst ((natI ((folL ff gg).take i)).map V.int))) ?_ ?_ ?_ ?_
    · exact ⟨same_upd hD, upd_same⟩
    · exact fun i H' _ q => SqT.of (q.1 _ _ ha8)
    · rintro i v H9 hi ⟨s9, hD9⟩
      unfold natI at hi
      rw [List.getElem?_map, List.getElem?_map] at hi
      obtain ⟨z, ez, rfl⟩ := Option.map_eq_some_iff.mp hi
      obtain ⟨k, ek, rfl⟩ := Option.map_eq_some_iff.mp ez
      have hil := (List.getElem?_eq_some_iff.mp ek).1
      have hk := of.2.2 k (List.mem_of_getElem? ek)
      rw [el] at hk
      have eg : gg[k]? = some (gg.getD k 0) := by rw [List.getD_eq_getElem?_getD, List.getElem?_eq_getElem hk]; rfl
      have en : (folL ff gg)[i]? = some (gg.getD k 0) := by unfold folL; rw [List.getElem?_map, ek]; rfl
      refine ⟨rfl, _, rfl, _, rfl, b, _, _, V.int ((gg.getD k 0 : Nat) : Int), rfl, rfl, SqT.of (s9 _ _ hb8), atI_nat (by unfold natI; rw [List.getElem?_map, List.getElem?_map, eg]; rfl), ?_⟩
      refine ⟨_, hD9, ?_, fun b' o e => by rw [upd_ne (ne_of_none e hD)]; exact s9 b' o e, ?_⟩
      · rw [List.length_map, hnI, List.length_take, sizeLine_eq]; omega
      · rw [upd_same, List.take_add_one, en]; unfold natI; rw [List.map_append, List.map_append]; rfl
    rintro H9 ⟨s9, hD9⟩
    rw [List.take_of_length_le (by rw [List.length_map, hnI]; unfold folL; rw [List.length_map]; exact Nat.le_refl _)] at hD9
    refine ⟨D1, _, rfl, .inl ⟨SqL.of hD9, fun q10 hq10 => ?_⟩⟩
    have s10 := same_upd (o := .tup ((natI (folL ff gg)).map V.int)) hq10
    have s79 : Same H7 (upd H9 q10 (.tup ((natI (folL ff gg)).map V.int))) := s8.trans (s9.trans s10)
    refine ⟨p, q10, folL ff gg, rfl, (ap8.same s9).same s10, fol_ok of og el, SqT.of upd_same, fun H11 s11 => ⟨true, rfl, ?_⟩⟩
    refine iteF ?_
    have s7' := s79.trans s11
    exact hqB2 D _ v0 v2 v5 v6 _ _ v10 v11 v12 d cc a x ff n (hp7.same s7') hn (hT7.same s7') (ax7.same s7') of (s7' _ _ ha7) fun w10 w12 H' p' T' => done _ _ w10 w12 H' p' T'
  · have el : ff.length ≠ gg.length := fun h => e (by rw [h]; simp)
    refine ⟨hT7, fun H8 e8 T8 f8 => ?_⟩
    have ax8 := ax7.kn hd7 e8.n
    have ay8 := ay7.kn hd7 e8.n
    obtain ⟨dx8, _, _, _, _, _, _, hx8, _⟩ := id ax8
    obtain ⟨dy8, _, _, _, _, _, _, hy8, _⟩ := id ay8
    refine ⟨_, rfl, _, rfl, x, y, dx8, dy8, _, _, rfl, rfl, hx8, hy8, ⟨x, y, ff, gg, rfl, ax8, ay8, of, og, fun _ => rs_u EE (fun q9 G s9 z9 g9 => ?_) f8, fun h => absurd h el⟩⟩
    have ha9 := s9 _ _ (e8.tup ha7)
    have hb9 := s9 _ _ (e8.tup hb7)
    refine ⟨_, rfl, _, ff.length, rfl, .inr ⟨_, SqT.of ha9, by rw [List.length_map, hnI]⟩, _, rfl, _, gg.length, rfl, .inr ⟨_, SqT.of hb9, by rw [List.length_map, hnI]⟩, Nat.le_of_ble_eq_true rfl, fun q10 hq10 => ?_⟩
    have s10 := same_upd (o := .tup [V.str "uneven", V.int (ff.length : Int), V.int (gg.length : Int)]) hq10
    refine ⟨_, _, .tup (SqT.of (s10 _ _ g9)) (.cons (.str _) (.cons (.int _) (.cons (.int _) .nil))), .tup (SqT.of upd_same) (.cons (.str _) (.cons (.int _) (.cons (.int _) .nil))), (lay3 _ _).2, (lay3 _ _).2, _, rfl, ?_⟩
    rw [PySem.SeqAt.eqv_refl _ (lay3 _ _).1]
    refine iteF ?_
    have s8' := s9.trans s10
    exact hqB2 D _ v0 v2 v5 v6 _ _ v10 v11 v12 d cc a x ff n ((e8.pen hp7).same s8') hn (T8.same s8') (ax8.same s8') of (s8' _ _ (e8.tup ha7)) fun w10 w12 H' p' T' => done _ _ w10 w12 H' p' T'
end
end K1
set_option Elab.async false
set_option linter.all false
set_option maxRecDepth 100000
set_option maxHeartbeats 2000000
/-! the law -/
namespace K1
open PySem L2 LamX RpR
section
variable {P : Program} {w : World} {K : PySem.W.Frag} {mg : Str → Option Value} {base : Heap} {C : Addr} {cs : Cs} {T : List (Addr × Str)}
theorem act_of_len {l : List Nat} {m : Nat} (hl : l.length = m) (h1 : 1 ≤ m) (h8 : m ≤ 60) (h : ∀ x ∈ l, x < m) : ActOk l := ⟨by omega, by omega, fun x hx => by rw [hl]; exact h x hx⟩
theorem partA (F : Fs P w K mg base C cs T) {f c pT : Addr} (TB : TabB base mg c pT) (mem : (pT, qLaw) ∈ T) (uni : ∀ p ∈ T, p.1 = pT → p.2 = qLaw) {g : List Code} {A : Around} {outer : List Env} {s : Shared} {H : Hp} {E : XK} (hg : A.guards = some g)
    (hr : Room 9 (A.deeper (PyProof.Rows.envOfC "law" (defScope sLaw) s.heap.objs.size f (.ref c)))) : ∃ tA, PSs (cxL P w K mg base f c A outer s H E) (lawBody.drop 3) tA ∧ ∀ (D : Ends) (H1 : Hp) (v0 v2 v5 v7 v8 v9 v10 v11 v12 : Option V) (d cc a : Addr) (m : Nat) (ff : List Nat) (n : Nat),
      PenAt H1 d cc n → n ≤ 800000 → Tabs T H1 → ActOk ff → H1 a = some (.tup ((natI ff).map V.int)) → 1 ≤ m → m ≤ 8 →
      (∀ (v7 v8 v9 v10 v12 : Option V) (H' : Hp), PenAt H' d cc (n + 20) → Tabs T H' → D.nx [v0, some (.ref d), v2, some (.int (ff.length : Int)), some (.ref a), v5, some (.int (m : Int)), v7, v8, v9, v10, v11, v12] H') →
      tA D [v0, some (.ref d), v2, some (.int (ff.length : Int)), some (.ref a), v5, some (.int (m : Int)), v7, v8, v9, v10, v11, v12] H1 := by
  have F0 := F
  obtain ⟨T3, hrp, M, _, ⟨fD, fdD, DD⟩, _, _, _, _, _, _, _, _, _, _, _, _, _, hL, EE⟩ := F
  have T1 : Bt mg := T3.toBt
  have GD : FnOk P w K mg base CX0 1 fD fdD pDraw spDraw := ok_draw DD.F T1
  have hr1 : Room 1 _ := hr.mono (by decide)
  obtain ⟨tB, htB, hqB⟩ := partB F0 TB mem uni (outer := outer) (s := s) (H := H) (E := E) hg hr
  have hnI : ∀ l : List Nat, (natI l).length = l.length := fun l => List.length_map _
  refine ⟨_, pss_cons (ps_set (i := 7) scLaw.nd rfl (Or.inr rfl) (pe_ifExp (pt_cmpR op_gt (pe_call GD hr1 rfl DD.g DD.F.kp DD.b .nil pass0 (pa_cons (pv 1) (pa_cons pe_int pa_nil))) pe_int (nomark _))
            (pe_callTy (r := rTuA K) call_tuple_of (by rfl) T1.tuple PyProof.Rows.boot_tuple (pa_cons (pe_lc (own := [("_law_k", 5)]) (g := gName 5) (by rfl) scLaw.nd (pi_range1 rfl T1.range (pa_cons (pv 6) pa_nil))
            (blkOk_by (own := [("_law_k", 5)]) (N := nLaw) (sc := defScope sLaw) (by decide +kernel)) (fun _ _ _ _ _ => pg_name (i := 5) scLaw.nd rfl (Or.inl rfl)) (fun _ _ _ _ _ => pts_nil)
            (fun _ _ _ _ _ => pe_call GD hr1 rfl DD.g DD.F.kp DD.b .nil pass0 (pa_cons (pv 1) (pa_cons (pv 6) pa_nil)))) pa_nil)) (pv 4))) htB, ?_⟩
  intro D H1 v0 v2 v5 v7 v8 v9 v10 v11 v12 d cc a m ff n hp hn hT of ha m1 m8 done
  obtain ⟨kv, hd⟩ := hp.dk
  have nad : a ≠ d := ne_of ha hd (by intro z; cases z)
  refine ⟨_, rfl, d, cc, n, 6, rfl, hp, by omega, by decide, by decide, fun r0 H2 r00 r01 hp2 k2 => ⟨_, _, rfl, rfl, _, rfl, ?_⟩⟩
  have hT2 := hT.pen hp k2
  have ha2 := k2 _ _ ha nad
  refine ite2 (fun _ => ?_) (fun _ => ?_)
  · refine ⟨_, rfl, (m : Int), rfl, by omega, by omega, fun D1 hD1 => ?_⟩
    rw [Int.toNat_natCast]
    obtain ⟨nDd, nDc⟩ := hp2.ne hD1
    refine lc_range (lo := 0) (n := m) (fun i H' => ∃ l : List Nat, l.length = i ∧ (∀ x ∈ l, x < m) ∧ H' D1 = some (.lst ((natI l).map V.int)) ∧ PenAt H' d cc (n + 1 + i) ∧ Kept d H2 H') ?_ ?_ ?_
    · exact ⟨[], rfl, fun x h => absurd h List.not_mem_nil, upd_same, hp2.upd nDd nDc, (Kept.refl d H2).upd hD1⟩
    · rintro i H3 hi ⟨l, hl, hlt, eD, hp3, k3⟩
      refine ⟨rfl, _, rfl, _, rfl, d, cc, _, (m : Int), rfl, hp3, by omega, by omega, by omega, fun r H4 r0 r1 hp4 k4 => ?_⟩
      obtain ⟨q, rfl⟩ : ∃ q : Nat, r = (q : Int) := ⟨r.toNat, by omega⟩
      refine ⟨_, k4 _ _ eD nDd, by rw [List.length_map, hnI, hl, sizeLine_eq]; omega, l ++ [q], by simp [hl], fun x hx => ?_, ?_, (hp4.upd nDd nDc), (k3.trans k4).upd hD1⟩
      · rcases List.mem_append.mp hx with h | h
        · exact hlt x h
        · rw [List.mem_singleton.mp h]; omega
      · rw [upd_same]; unfold natI; rw [List.map_append, List.map_append]; rfl
    rintro H3 ⟨l, hl, hlt, eD, hp3, k3⟩
    refine ⟨D1, _, rfl, .inl ⟨SqL.of eD, fun b hb => ?_⟩⟩
    have s4 := same_upd (o := .tup ((natI l).map V.int)) hb
    have eb : upd H3 b (.tup ((natI l).map V.int)) b = some (.tup ((natI l).map V.int)) := upd_same
    have k24 : Kept d H2 (upd H3 b (.tup ((natI l).map V.int))) := k3.trans (Kept.same s4)
    generalize upd H3 b (.tup ((natI l).map V.int)) = H4 at s4 eb k24 ⊢
    refine hqB D H4 v0 v2 v5 _ v8 v9 v10 v11 v12 d cc a b ff l (n + 1 + m) (hp3.same s4) (by omega) (hT2.pen hp2 k24) of (act_of_len hl m1 (by omega) hlt) (k24 _ _ ha2 nad) eb fun w8 w9 w10 w12 H' p' T' => done _ w8 w9 w10 w12 H' (p'.mono (by omega)) T'
  · refine ⟨_, rfl, ?_⟩
    exact hqB D H2 v0 v2 v5 _ v8 v9 v10 v11 v12 d cc a a ff ff (n + 1) hp2 (by omega) hT2 of of ha2 ha2 fun w8 w9 w10 w12 H' p' T' => done _ w8 w9 w10 w12 H' (p'.mono (by omega)) T'
theorem ok_law (F : Fs P w K mg base C cs T) {f c pT : Addr} {fd : FuncData} (FL : FunC K "law" "law" sLaw f fd c) (TB : TabB base mg c pT) (mem : (pT, qLaw) ∈ T) (uni : ∀ p ∈ T, p.1 = pT → p.2 = qLaw) : FnOk P w K mg base CX0 10 f fd ["_law_script"] (spLaw K T) := by
  have F0 := F
  obtain ⟨T3, hrp, M, ⟨fE, fdE, DE⟩, ⟨fD, fdD, DD⟩, _, _, _, _, _, _, _, _, _, _, _, _, _, hL, EE⟩ := F
  have T1 : Bt mg := T3.toBt
  have GD : FnOk P w K mg base CX0 1 fD fdD pDraw spDraw := ok_draw DD.F T1
  have GE : FnOk P w K mg base CX0 1 fE fdE ["_law_script"] (spPen K) := ok_pen DE T1
  refine FL.okG scLaw (fun vs H Q E h => ?_) (fun g A outer s H vs Q E hg hr h => ?_)
  · obtain ⟨a, ns, rfl, _⟩ := h
    rfl
  · obtain ⟨a0, ns, rfl, ha0, hns, hT, k⟩ := h
    have hr1 : Room 1 _ := hr.mono (by decide)
    obtain ⟨tA, htA, hqA⟩ := partA F0 TB mem uni (outer := outer) (s := s) (H := H) (E := E) hg hr
    have hnI : ∀ l : List Nat, (natI l).length = l.length := fun l => List.length_map _
    refine ⟨_, pss_cons (ps_set (i := 1) scLaw.nd rfl (Or.inr rfl) (pe_call GE hr1 rfl DE.g DE.F.kp DE.b .nil pass0 (pa_cons (pv 0) pa_nil)))
      (pss_cons (ps_for PassesOwn.never rfl (pi_range1 rfl T1.range (pa_cons (pe_op op_add pe_int (pe_callB (call_min2 rfl) (by rfl) T3.min PyProof.Rows.boot_min (pa_cons pe_int (pa_cons (pe_callB call_len (by rfl) T1.len PySem.boot_len (pa_cons (pv 0) pa_nil)) pa_nil)))) pa_nil)) (pg_name (i := 2) scLaw.nd rfl (Or.inl rfl))
        (pss_cons (ps_set (i := 3) scLaw.nd rfl (Or.inr rfl) (pe_op op_add pe_int (pe_call GD hr1 rfl DD.g DD.F.kp DD.b .nil pass0 (pa_cons (pv 1) (pa_cons pe_int pa_nil)))))
        (pss_cons (ps_set (i := 4) scLaw.nd rfl (Or.inl rfl) (pe_callTy (r := rTuA K) call_tuple_of (by rfl) T1.tuple PyProof.Rows.boot_tuple (pa_cons (pe_lc (own := [("_law_k", 5)]) (g := gName 5) (by rfl) scLaw.nd (pi_range1 rfl T1.range (pa_cons (pv 3) pa_nil))
            (blkOk_by (own := [("_law_k", 5)]) (N := nLaw) (sc := defScope sLaw) (by decide +kernel)) (fun _ _ _ _ _ => pg_name (i := 5) scLaw.nd rfl (Or.inl rfl)) (fun _ _ _ _ _ => pts_nil)
            (fun _ _ _ _ _ => pe_call GD hr1 rfl DD.g DD.F.kp DD.b .nil pass0 (pa_cons (pv 1) (pa_cons (pv 3) pa_nil)))) pa_nil)))
        (pss_cons (ps_set (i := 6) scLaw.nd rfl (Or.inr rfl) (pe_ifExp (pt_cmpR op_gt (pe_call GD hr1 rfl DD.g DD.F.kp DD.b .nil pass0 (pa_cons (pv 1) (pa_cons pe_int pa_nil))) pe_int (nomark _)) (pv 3) (pe_op op_add pe_int (pe_call GD hr1 rfl DD.g DD.F.kp DD.b .nil pass0 (pa_cons (pv 1) (pa_cons pe_int pa_nil))))))
          htA))))
      (pss_one (ps_ret pe_bl))), ?_⟩
    refine ⟨_, rfl, a0, ns, rfl, ha0, hns, fun d cc Hs hd0 hc0 hpen0 sm0 => ?_⟩
    refine ⟨_, rfl, _, ns.length, rfl, .inl ⟨_, sm0.seq ha0, (List.length_map _).symm⟩, _, _, rfl, _, _, rfl, rfl, ?_⟩
    obtain ⟨J, eJ, hJ⟩ : ∃ J : Nat, (5 + (if (ns.length : Int) < 5 then (ns.length : Int) else 5)) = (J : Int) ∧ J ≤ 10 := by
      by_cases h : (ns.length : Int) < 5
      · rw [if_pos h]; exact ⟨5 + ns.length, by omega, by omega⟩
      · rw [if_neg h]; exact ⟨10, by omega, by omega⟩
    refine ⟨(J : Int), by rw [← eJ], by omega, by omega, ?_⟩
    rw [Int.toNat_natCast]
    refine for_range (lo := 0) (n := J) (fun i σ H' => ∃ (v2 v3 v4 v5 v6 v7 v8 v9 v10 v11 v12 : Option V) (n : Nat), σ = [some (.ref a0), some (.ref d), v2, v3, v4, v5, v6, v7, v8, v9, v10, v11, v12] ∧ PenAt H' d cc n ∧ n ≤ 100 * i ∧ Tabs T H') ?_ ?_ ?_
    · exact ⟨_, _, _, _, _, _, _, _, _, _, _, 0, rfl, hpen0, Nat.le_refl _, hT.same sm0⟩
    · rintro i σ H1 hi ⟨v2, v3, v4, v5, v6, v7, v8, v9, v10, v11, v12, n, rfl, hp1, hn, hT1⟩
      refine ⟨_, rfl, d, cc, n, 8, rfl, hp1, by omega, by decide, by decide, fun r0 H2 r00 r01 hp2 k2 => ⟨_, _, rfl, rfl, ?_⟩⟩
      obtain ⟨m, em, m1, m8⟩ : ∃ m : Nat, 1 + r0 = (m : Int) ∧ 1 ≤ m ∧ m ≤ 8 := ⟨(1 + r0).toNat, by omega, by omega, by omega⟩
      show gName 3 (V.int (1 + r0)) _ _ _
      rw [em]
      have hT2 := hT1.pen hp1 k2
      refine ⟨_, rfl, (m : Int), rfl, by omega, by omega, fun D1 hD1 => ?_⟩
      rw [Int.toNat_natCast]
      obtain ⟨nDd, nDc⟩ := hp2.ne hD1
      refine lc_range (lo := 0) (n := m) (fun i H' => ∃ l : List Nat, l.length = i ∧ (∀ x ∈ l, x < m) ∧ H' D1 = some (.lst ((natI l).map V.int)) ∧ PenAt H' d cc (n + 1 + i) ∧ Kept d H2 H') ?_ ?_ ?_
      · exact ⟨[], rfl, fun x h => absurd h List.not_mem_nil, upd_same, hp2.upd nDd nDc, (Kept.refl d H2).upd hD1⟩
      · rintro i H3 hi ⟨l, hl, hlt, eD, hp3, k3⟩
        refine ⟨rfl, _, rfl, _, rfl, d, cc, _, (m : Int), rfl, hp3, by omega, by omega, by omega, fun r H4 r0 r1 hp4 k4 => ?_⟩
        obtain ⟨q, rfl⟩ : ∃ q : Nat, r = (q : Int) := ⟨r.toNat, by omega⟩
        refine ⟨_, k4 _ _ eD nDd, by rw [List.length_map, hnI, hl, sizeLine_eq]; omega, l ++ [q], by simp [hl], fun x hx => ?_, ?_, (hp4.upd nDd nDc), (k3.trans k4).upd hD1⟩
        · rcases List.mem_append.mp hx with h | h
          · exact hlt x h
          · rw [List.mem_singleton.mp h]; omega
        · rw [upd_same]; unfold natI; rw [List.map_append, List.map_append]; rfl
      rintro H3 ⟨ff, hl, hlt, eD, hp3, k3⟩
      refine ⟨D1, _, rfl, .inl ⟨SqL.of eD, fun a ha => ?_⟩⟩
      have s4 := same_upd (o := .tup ((natI ff).map V.int)) ha
      have ea : upd H3 a (.tup ((natI ff).map V.int)) a = some (.tup ((natI ff).map V.int)) := upd_same
      have k24 : Kept d H2 (upd H3 a (.tup ((natI ff).map V.int))) := k3.trans (Kept.same s4)
      generalize upd H3 a (.tup ((natI ff).map V.int)) = H4 at s4 ea k24 ⊢
      have of := act_of_len hl m1 (by omega) hlt
      have hp4 := hp3.same s4
      have hT4 := hT2.pen hp2 k24
      obtain ⟨kv4, hd4⟩ := hp4.dk
      have nad : a ≠ d := ne_of ea hd4 (by intro z; cases z)
      subst hl
      refine ⟨_, rfl, d, cc, _, 4, rfl, hp4, by omega, by decide, by decide, fun r1 H5 r10 r11 hp5 k5 => ⟨_, _, rfl, rfl, _, rfl, ?_⟩⟩
      have hT5 := hT4.pen hp4 k5
      have ea5 := k5 _ _ ea nad
      refine ite2 (fun _ => ?_) (fun _ => ?_)
      · refine ⟨_, rfl, ?_⟩
        exact hqA _ H5 _ _ _ _ _ _ _ _ _ d cc a ff.length ff _ hp5 (by omega) hT5 of ea5 m1 m8 fun w7 w8 w9 w10 w12 H' p' T' => ⟨_, _, _, _, _, _, _, _, _, _, _, _, rfl, p', by omega, T'⟩
      · refine ⟨_, rfl, d, cc, _, 8, rfl, hp5, by omega, by decide, by decide, fun r2 H6 r20 r21 hp6 k6 => ⟨_, _, rfl, rfl, ?_⟩⟩
        obtain ⟨m', em', m1', m8'⟩ : ∃ m : Nat, 1 + r2 = (m : Int) ∧ 1 ≤ m ∧ m ≤ 8 := ⟨(1 + r2).toNat, by omega, by omega, by omega⟩
        show gName 6 (V.int (1 + r2)) _ _ _
        rw [em']
        exact hqA _ H6 _ _ _ _ _ _ _ _ _ d cc a m' ff _ hp6 (by omega) (hT5.pen hp5 k6) of (k6 _ _ ea5 nad) m1' m8' fun w7 w8 w9 w10 w12 H' p' T' => ⟨_, _, _, _, _, _, _, _, _, _, _, _, rfl, p', by omega, T'⟩
    · rintro σ H1 _
      exact k H1
end
end K1
set_option Elab.async false
set_option linter.all false
set_option maxRecDepth 100000
namespace K1
open PySem PyProof.Rows L2 LamX
set_option maxHeartbeats 0 in
theorem all_mk {l : PySem.W.OpenLaw} {q : Program} {w : World} {K : PySem.W.Frag} {h : Heap} {mg : Str → Option Value}
    {E0 f1 f2 f3 f4 f5 f6 f7 f8 cc8 pt8 f9 f10 f11 f12 f13 f14 C f15 f16 f17 f18 f19 f20 f21 EA NA f22 ES NS f23 EN NN f24 EU NU f25 fa : Addr}
    {od1 an1 od2 an2 od3 an3 od4 an4 od5 an5 od6 an6 od7 an7 dd8c od8 an8 od9 an9 od10 an10 od11 an11 od12 an12 od13 an13 od14 an14 od15 an15 od16 an16 od17 an17 od18 an18 od19 an19 od20 an20 od21 an21 ddA od22 an22 ddS od23 an23 ddN od24 an24 ddU od25 an25 : Option Addr}
    {sl1 sl2 sl3 sl4 sl5 sl6 sl7 slc8 sl8 sl9 sl10 sl11 sl12 sl13 sl14 sl15 sl16 sl17 sl18 sl19 sl20 sl21 sl22 sl23 sl24 sl25 : Array (Option Value)}
    {oc1 kV1 dc1 pm1 ct1 cd1 oc2 kV2 dc2 pm2 ct2 cd2 oc3 kV3 dc3 pm3 ct3 cd3 oc4 kV4 dc4 pm4 ct4 cd4 oc5 kV5 dc5 pm5 ct5 cd5 oc6 kV6 dc6 pm6 ct6 cd6 oc7 kV7 dc7 pm7 ct7 cd7 ec8 oc8 kV8 dc8 pm8 ct8 oc9 kV9 dc9 pm9 ct9 cd9 oc10 kV10 dc10 pm10 ct10 cd10 oc11 kV11 dc11 pm11 ct11 cd11 oc12 kV12 dc12 pm12 ct12 cd12 oc13 kV13 dc13 pm13 ct13 cd13 oc14 kV14 dc14 pm14 ct14 cd14 oc15 kV15 dc15 pm15 ct15 cd15 oc16 kV16 dc16 pm16 ct16 cd16 oc17 kV17 dc17 pm17 ct17 cd17 oc18 kV18 dc18 pm18 ct18 cd18 oc19 kV19 dc19 pm19 ct19 cd19 oc20 kV20 dc20 pm20 ct20 cd20 oc21 kV21 dc21 pm21 ct21 cd21 oc22 kV22 dc22 pm22 ct22 cd22 oc23 kV23 dc23 pm23 ct23 cd23 oc24 kV24 dc24 pm24 ct24 cd24 oc25 kV25 dc25 pm25 ct25 cd25 : Value}
    {m0A m1A m2A m3A m5A m0S m1S m2S m3S m5S m0N m1N m2N m3N m5N m0U m1U m2U m3U m5U : Option Value}
    {tc0 : Tok}
    {nmA qnA nmS qnS nmN qnN nmU qnU : Str}
    {bsA subA bsS subS bsN subN bsU subU : List Value}
    {snA snS snN snU : List Str}
    {abA abS abN abU : Bool}
    {colA colS colN colU : Option Bool}
    {vs8 : Array Value}
    (X : K.In h) (G : h.Ns mainGlobals mg) (hfa : mg "law" = some (.ref fa)) (O : OwnTabs q mg h)
    (a1 : PySem.W.nsIn K mainGlobals "_law_pen" = some (some (.ref f1)))
    (l1 : K.lookup f1 = some ⟨oc1, od1, .func (PySem.W.fnOf "_law_pen" "_law_pen" (defArgs sPen) (defBody sPen) (defScope sPen) .none kV1 dc1 pm1 an1 cd1 ct1), sl1⟩)
    (c1 : PySem.W.codeIn K (cd1) "_law_pen" = true)
    (k1 : PySem.W.keepIn K (.ref f1) = true)
    (a2 : PySem.W.nsIn K mainGlobals "_law_draw" = some (some (.ref f2)))
    (l2 : K.lookup f2 = some ⟨oc2, od2, .func (PySem.W.fnOf "_law_draw" "_law_draw" (defArgs sDraw) (defBody sDraw) (defScope sDraw) .none kV2 dc2 pm2 an2 cd2 ct2), sl2⟩)
    (c2 : PySem.W.codeIn K (cd2) "_law_draw" = true)
    (k2 : PySem.W.keepIn K (.ref f2) = true)
    (a3 : PySem.W.nsIn K mainGlobals "_law_pick" = some (some (.ref f3)))
    (l3 : K.lookup f3 = some ⟨oc3, od3, .func (PySem.W.fnOf "_law_pick" "_law_pick" (defArgs sPick) (defBody sPick) (defScope sPick) .none kV3 dc3 pm3 an3 cd3 ct3), sl3⟩)
    (c3 : PySem.W.codeIn K (cd3) "_law_pick" = true)
    (k3 : PySem.W.keepIn K (.ref f3) = true)
    (a4 : PySem.W.nsIn K mainGlobals "_law_refused" = some (some (.ref f4)))
    (l4 : K.lookup f4 = some ⟨oc4, od4, .func (PySem.W.fnOf "_law_refused" "_law_refused" (defArgs sRefX) (defBody sRefX) (defScope sRefX) .none kV4 dc4 pm4 an4 cd4 ct4), sl4⟩)
    (c4 : PySem.W.codeIn K (cd4) "_law_refused" = true)
    (k4 : PySem.W.keepIn K (.ref f4) = true)
    (a5 : PySem.W.nsIn K mainGlobals "_law_powers" = some (some (.ref f5)))
    (l5 : K.lookup f5 = some ⟨oc5, od5, .func (PySem.W.fnOf "_law_powers" "_law_powers" (defArgs sPow) (defBody sPow) (defScope sPow) .none kV5 dc5 pm5 an5 cd5 ct5), sl5⟩)
    (c5 : PySem.W.codeIn K (cd5) "_law_powers" = true)
    (k5 : PySem.W.keepIn K (.ref f5) = true)
    (a6 : PySem.W.nsIn K mainGlobals "_law_is_act" = some (some (.ref f6)))
    (l6 : K.lookup f6 = some ⟨oc6, od6, .func (PySem.W.fnOf "_law_is_act" "_law_is_act" (defArgs sIcA) (defBody sIcA) (defScope sIcA) .none kV6 dc6 pm6 an6 cd6 ct6), sl6⟩)
    (c6 : PySem.W.codeIn K (cd6) "_law_is_act" = true)
    (k6 : PySem.W.keepIn K (.ref f6) = true)
    (a7 : PySem.W.nsIn K mainGlobals "_law_is_compared" = some (some (.ref f7)))
    (l7 : K.lookup f7 = some ⟨oc7, od7, .func (PySem.W.fnOf "_law_is_compared" "_law_is_compared" (defArgs sIpA) (defBody sIpA) (defScope sIpA) .none kV7 dc7 pm7 an7 cd7 ct7), sl7⟩)
    (c7 : PySem.W.codeIn K (cd7) "_law_is_compared" = true)
    (k7 : PySem.W.keepIn K (.ref f7) = true)
    (a8 : PySem.W.nsIn K mainGlobals "law" = some (some (.ref f8)))
    (l8 : K.lookup f8 = some ⟨oc8, od8, .func (PySem.W.fnOf "law" "law" (defArgs sLaw) (defBody sLaw) (defScope sLaw) .none kV8 dc8 pm8 an8 (.ref cc8) ct8), sl8⟩)
    (c8 : PySem.W.codeIn K ((.ref cc8)) "law" = true)
    (k8 : PySem.W.keepIn K (.ref f8) = true)
    (lc8 : K.lookup cc8 = some ⟨ec8, dd8c, .fields vs8, slc8⟩)
    (h8 : vs8[11]? = some (.ref pt8))
    (np8 : K.lookup pt8 = none)
    (mr8 : ((recsOf q).any fun e => e.name == ("law" : Str)) = true)
    (a9 : PySem.W.nsIn K mainGlobals "is_integer" = some (some (.ref f9)))
    (l9 : K.lookup f9 = some ⟨oc9, od9, .func (PySem.W.fnOf "is_integer" "is_integer" (defArgs sIsInt) (defBody sIsInt) (defScope sIsInt) .none kV9 dc9 pm9 an9 cd9 ct9), sl9⟩)
    (c9 : PySem.W.codeIn K (cd9) "is_integer" = true)
    (k9 : PySem.W.keepIn K (.ref f9) = true)
    (a10 : PySem.W.nsIn K mainGlobals "is_index" = some (some (.ref f10)))
    (l10 : K.lookup f10 = some ⟨oc10, od10, .func (PySem.W.fnOf "is_index" "is_index" (defArgs sIsIndex) (defBody sIsIndex) (defScope sIsIndex) .none kV10 dc10 pm10 an10 cd10 ct10), sl10⟩)
    (c10 : PySem.W.codeIn K (cd10) "is_index" = true)
    (k10 : PySem.W.keepIn K (.ref f10) = true)
    (a11 : PySem.W.nsIn K mainGlobals "is_act" = some (some (.ref f11)))
    (l11 : K.lookup f11 = some ⟨oc11, od11, .func (PySem.W.fnOf "is_act" "is_act" (defArgs sIsAct) (defBody sIsAct) (defScope sIsAct) .none kV11 dc11 pm11 an11 cd11 ct11), sl11⟩)
    (c11 : PySem.W.codeIn K (cd11) "is_act" = true)
    (k11 : PySem.W.keepIn K (.ref f11) = true)
    (a12 : PySem.W.nsIn K mainGlobals "followed" = some (some (.ref f12)))
    (l12 : K.lookup f12 = some ⟨oc12, od12, .func (PySem.W.fnOf "followed" "followed" (defArgs sFollow) (defBody sFollow) (defScope sFollow) .none kV12 dc12 pm12 an12 cd12 ct12), sl12⟩)
    (c12 : PySem.W.codeIn K (cd12) "followed" = true)
    (k12 : PySem.W.keepIn K (.ref f12) = true)
    (a13 : PySem.W.nsIn K mainGlobals "cycle_of" = some (some (.ref f13)))
    (l13 : K.lookup f13 = some ⟨oc13, od13, .func (PySem.W.fnOf "cycle_of" "cycle_of" (defArgs sCycle) (defBody sCycle) (defScope sCycle) .none kV13 dc13 pm13 an13 cd13 ct13), sl13⟩)
    (c13 : PySem.W.codeIn K (cd13) "cycle_of" = true)
    (k13 : PySem.W.keepIn K (.ref f13) = true)
    (a14 : PySem.W.nsIn K mainGlobals "ring_length" = some (some (.ref f14)))
    (l14 : K.lookup f14 = some ⟨oc14, od14, .func (PySem.W.fnOf "ring_length" "ring_length" (defArgs sRingL) (defBody sRingL) (defScope sRingL) .none kV14 dc14 pm14 an14 cd14 ct14), sl14⟩)
    (c14 : PySem.W.codeIn K (cd14) "ring_length" = true)
    (k14 : PySem.W.keepIn K (.ref f14) = true)
    (aC : PySem.W.nsIn K mainGlobals "Act" = some (some (.ref C)))
    (pgC : PySem.W.plainGet K C Str.empty = true)
    (hdC : PySem.W.hasDictIn K C = true)
    (poC : PySem.W.plainOver K C = true)
    (saC : PySem.W.findIn K (.ref C) "__setattr__" = some (some (.builtin "object.__setattr__")))
    (mkC : PySem.W.makesIn K C = true)
    (kcC : PySem.W.keepIn K (.ref C) = true)
    (nC_states : PySem.W.findIn K (.ref C) "states" = some none)
    (nC_image : PySem.W.findIn K (.ref C) "image" = some none)
    (nC_rank : PySem.W.findIn K (.ref C) "rank" = some none)
    (nC_is_swap : PySem.W.findIn K (.ref C) "is_swap" = some none)
    (nC_cycle : PySem.W.findIn K (.ref C) "cycle" = some none)
    (ca_C : PySem.W.findIn K (.ref C) "__class__" = some (some (.builtin "object.__class__")))
    (cs_C : PySem.W.specialIn K (.builtin "object.__class__") "__get__" = some (some (.builtin "getset_descriptor.__get__")))
    (ct_C : PySem.W.takesIn K (.builtin "object.__class__") = some true)
    (cm_C : PySem.W.mroIn K C (.type "object") = some true)
    (ci_C : PySem.W.isClsIn K C = true)
    (ty_C : PySem.W.typeIn K (.ref C) = some (.type "type"))
    (a15 : PySem.W.findIn K (.ref C) "__init__" = some (some (.ref f15)))
    (i15 : PySem.W.isFn K (.ref f15) = true)
    (l15 : K.lookup f15 = some ⟨oc15, od15, .func (PySem.W.fnOf "__init__" "Act.__init__" (defArgs sAInit) (defBody sAInit) (defScope sAInit) .none kV15 dc15 pm15 an15 cd15 ct15), sl15⟩)
    (c15 : PySem.W.codeIn K (cd15) "Act.__init__" = true)
    (k15 : PySem.W.keepIn K (.ref f15) = true)
    (a16 : PySem.W.findIn K (.ref C) "__eq__" = some (some (.ref f16)))
    (i16 : PySem.W.isFn K (.ref f16) = true)
    (l16 : K.lookup f16 = some ⟨oc16, od16, .func (PySem.W.fnOf "__eq__" "Act.__eq__" (defArgs sAEq) (defBody sAEq) (defScope sAEq) .none kV16 dc16 pm16 an16 cd16 ct16), sl16⟩)
    (c16 : PySem.W.codeIn K (cd16) "Act.__eq__" = true)
    (k16 : PySem.W.keepIn K (.ref f16) = true)
    (a17 : PySem.W.findIn K (.ref C) "__lt__" = some (some (.ref f17)))
    (i17 : PySem.W.isFn K (.ref f17) = true)
    (l17 : K.lookup f17 = some ⟨oc17, od17, .func (PySem.W.fnOf "__lt__" "Act.__lt__" (defArgs sALt) (defBody sALt) (defScope sALt) .none kV17 dc17 pm17 an17 cd17 ct17), sl17⟩)
    (c17 : PySem.W.codeIn K (cd17) "Act.__lt__" = true)
    (k17 : PySem.W.keepIn K (.ref f17) = true)
    (a18 : PySem.W.findIn K (.ref C) "__le__" = some (some (.ref f18)))
    (i18 : PySem.W.isFn K (.ref f18) = true)
    (l18 : K.lookup f18 = some ⟨oc18, od18, .func (PySem.W.fnOf "__le__" "Act.__le__" (defArgs sALe) (defBody sALe) (defScope sALe) .none kV18 dc18 pm18 an18 cd18 ct18), sl18⟩)
    (c18 : PySem.W.codeIn K (cd18) "Act.__le__" = true)
    (k18 : PySem.W.keepIn K (.ref f18) = true)
    (a19 : PySem.W.findIn K (.ref C) "__mul__" = some (some (.ref f19)))
    (i19 : PySem.W.isFn K (.ref f19) = true)
    (l19 : K.lookup f19 = some ⟨oc19, od19, .func (PySem.W.fnOf "__mul__" "Act.__mul__" (defArgs sAMul) (defBody sAMul) (defScope sAMul) .none kV19 dc19 pm19 an19 cd19 ct19), sl19⟩)
    (c19 : PySem.W.codeIn K (cd19) "Act.__mul__" = true)
    (k19 : PySem.W.keepIn K (.ref f19) = true)
    (a20 : PySem.W.findIn K (.ref C) "__getitem__" = some (some (.ref f20)))
    (i20 : PySem.W.isFn K (.ref f20) = true)
    (l20 : K.lookup f20 = some ⟨oc20, od20, .func (PySem.W.fnOf "__getitem__" "Act.__getitem__" (defArgs sAGet) (defBody sAGet) (defScope sAGet) .none kV20 dc20 pm20 an20 cd20 ct20), sl20⟩)
    (c20 : PySem.W.codeIn K (cd20) "Act.__getitem__" = true)
    (k20 : PySem.W.keepIn K (.ref f20) = true)
    (a21 : PySem.W.findIn K (.ref C) "times" = some (some (.ref f21)))
    (i21 : PySem.W.isFn K (.ref f21) = true)
    (l21 : K.lookup f21 = some ⟨oc21, od21, .func (PySem.W.fnOf "times" "Act.times" (defArgs sATimes) (defBody sATimes) (defScope sATimes) .none kV21 dc21 pm21 an21 cd21 ct21), sl21⟩)
    (c21 : PySem.W.codeIn K (cd21) "Act.times" = true)
    (k21 : PySem.W.keepIn K (.ref f21) = true)
    (fiG : PySem.W.fnIn K f20 = true)
    (sfC : PySem.W.selfFirst K C = true)
    (one : PySem.W.findIn K (.ref C) "__ne__" = some (some (.builtin "object.__ne__")))
    (ogt : PySem.W.findIn K (.ref C) "__gt__" = some (some (.builtin "object.__gt__")))
    (oge : PySem.W.findIn K (.ref C) "__ge__" = some (some (.builtin "object.__ge__")))
    (mtC : PySem.W.mroIn K C (.type "tuple") = some false)
    (mlC : PySem.W.mroIn K C (.type "list") = some false)
    (a00 : PySem.W.nsIn K mainGlobals "LooksError" = some (some (.ref E0)))
    (aA : PySem.W.nsIn K mainGlobals "BadAct" = some (some (.ref EA)))
    (xA : K.lookup EA = some (excClassObj nmA qnA EA NA bsA [.ref E0, .type "ValueError", .type "Exception", .type "BaseException", .type "object"] true snA subA abA colA ddA m0A m1A m2A m3A m5A "ValueError.__new__"))
    (saA : PySem.W.findIn K (.ref EA) "__setattr__" = some (some (.builtin "object.__setattr__")))
    (gaA : PySem.W.findIn K (.ref EA) "__getattribute__" = some (some (.builtin "BaseException.__getattribute__")))
    (ggA : PySem.W.findIn K (.ref EA) "__getattr__" = some none)
    (eA : PySem.W.subIn K (.ref EA) (.type "BaseException") = some true)
    (tA : PySem.W.typeIn K (.ref EA) = some (.type "type"))
    (kkA : PySem.W.keepIn K (.ref EA) = true)
    (hA : PySem.W.hasDictIn K EA = true)
    (iA : PySem.W.isClsIn K EA = true)
    (noA_states : PySem.W.findIn K (.ref EA) "states" = some none)
    (a22 : PySem.W.findIn K (.ref EA) "__init__" = some (some (.ref f22)))
    (t22 : PySem.W.typeIn K (.ref f22) = some (.type "function"))
    (l22 : K.lookup f22 = some ⟨oc22, od22, .func (PySem.W.fnOf "__init__" "BadAct.__init__" (defArgs sBadAct) (defBody sBadAct) (defScope sBadAct) .none kV22 dc22 pm22 an22 cd22 ct22), sl22⟩)
    (c22 : PySem.W.codeIn K (cd22) "BadAct.__init__" = true)
    (k22 : PySem.W.keepIn K (.ref f22) = true)
    (aS : PySem.W.nsIn K mainGlobals "BadState" = some (some (.ref ES)))
    (xS : K.lookup ES = some (excClassObj nmS qnS ES NS bsS [.ref E0, .type "ValueError", .type "Exception", .type "BaseException", .type "object"] true snS subS abS colS ddS m0S m1S m2S m3S m5S "ValueError.__new__"))
    (saS : PySem.W.findIn K (.ref ES) "__setattr__" = some (some (.builtin "object.__setattr__")))
    (gaS : PySem.W.findIn K (.ref ES) "__getattribute__" = some (some (.builtin "BaseException.__getattribute__")))
    (ggS : PySem.W.findIn K (.ref ES) "__getattr__" = some none)
    (eS : PySem.W.subIn K (.ref ES) (.type "BaseException") = some true)
    (tS : PySem.W.typeIn K (.ref ES) = some (.type "type"))
    (kkS : PySem.W.keepIn K (.ref ES) = true)
    (hS : PySem.W.hasDictIn K ES = true)
    (iS : PySem.W.isClsIn K ES = true)
    (noS_state : PySem.W.findIn K (.ref ES) "state" = some none)
    (a23 : PySem.W.findIn K (.ref ES) "__init__" = some (some (.ref f23)))
    (t23 : PySem.W.typeIn K (.ref f23) = some (.type "function"))
    (l23 : K.lookup f23 = some ⟨oc23, od23, .func (PySem.W.fnOf "__init__" "BadState.__init__" (defArgs sBadState) (defBody sBadState) (defScope sBadState) .none kV23 dc23 pm23 an23 cd23 ct23), sl23⟩)
    (c23 : PySem.W.codeIn K (cd23) "BadState.__init__" = true)
    (k23 : PySem.W.keepIn K (.ref f23) = true)
    (aN : PySem.W.nsIn K mainGlobals "BadNumber" = some (some (.ref EN)))
    (xN : K.lookup EN = some (excClassObj nmN qnN EN NN bsN [.ref E0, .type "ValueError", .type "Exception", .type "BaseException", .type "object"] true snN subN abN colN ddN m0N m1N m2N m3N m5N "ValueError.__new__"))
    (saN : PySem.W.findIn K (.ref EN) "__setattr__" = some (some (.builtin "object.__setattr__")))
    (gaN : PySem.W.findIn K (.ref EN) "__getattribute__" = some (some (.builtin "BaseException.__getattribute__")))
    (ggN : PySem.W.findIn K (.ref EN) "__getattr__" = some none)
    (eN : PySem.W.subIn K (.ref EN) (.type "BaseException") = some true)
    (tN : PySem.W.typeIn K (.ref EN) = some (.type "type"))
    (kkN : PySem.W.keepIn K (.ref EN) = true)
    (hN : PySem.W.hasDictIn K EN = true)
    (iN : PySem.W.isClsIn K EN = true)
    (noN_number : PySem.W.findIn K (.ref EN) "number" = some none)
    (a24 : PySem.W.findIn K (.ref EN) "__init__" = some (some (.ref f24)))
    (t24 : PySem.W.typeIn K (.ref f24) = some (.type "function"))
    (l24 : K.lookup f24 = some ⟨oc24, od24, .func (PySem.W.fnOf "__init__" "BadNumber.__init__" (defArgs sBadNumber) (defBody sBadNumber) (defScope sBadNumber) .none kV24 dc24 pm24 an24 cd24 ct24), sl24⟩)
    (c24 : PySem.W.codeIn K (cd24) "BadNumber.__init__" = true)
    (k24 : PySem.W.keepIn K (.ref f24) = true)
    (aU : PySem.W.nsIn K mainGlobals "Uneven" = some (some (.ref EU)))
    (xU : K.lookup EU = some (excClassObj nmU qnU EU NU bsU [.ref E0, .type "ValueError", .type "Exception", .type "BaseException", .type "object"] true snU subU abU colU ddU m0U m1U m2U m3U m5U "ValueError.__new__"))
    (saU : PySem.W.findIn K (.ref EU) "__setattr__" = some (some (.builtin "object.__setattr__")))
    (gaU : PySem.W.findIn K (.ref EU) "__getattribute__" = some (some (.builtin "BaseException.__getattribute__")))
    (ggU : PySem.W.findIn K (.ref EU) "__getattr__" = some none)
    (eU : PySem.W.subIn K (.ref EU) (.type "BaseException") = some true)
    (tU : PySem.W.typeIn K (.ref EU) = some (.type "type"))
    (kkU : PySem.W.keepIn K (.ref EU) = true)
    (hU : PySem.W.hasDictIn K EU = true)
    (iU : PySem.W.isClsIn K EU = true)
    (noU_many : PySem.W.findIn K (.ref EU) "many" = some none)
    (noU_most : PySem.W.findIn K (.ref EU) "most" = some none)
    (a25 : PySem.W.findIn K (.ref EU) "__init__" = some (some (.ref f25)))
    (t25 : PySem.W.typeIn K (.ref f25) = some (.type "function"))
    (l25 : K.lookup f25 = some ⟨oc25, od25, .func (PySem.W.fnOf "__init__" "Uneven.__init__" (defArgs sUneven) (defBody sUneven) (defScope sUneven) .none kV25 dc25 pm25 an25 cd25 ct25), sl25⟩)
    (c25 : PySem.W.codeIn K (cd25) "Uneven.__init__" = true)
    (k25 : PySem.W.keepIn K (.ref f25) = true)
    (sAA : PySem.W.subIn K (.ref EA) (.ref EA) = some true)
    (sSA : PySem.W.subIn K (.ref ES) (.ref EA) = some false)
    (sSS : PySem.W.subIn K (.ref ES) (.ref ES) = some true)
    (sNA : PySem.W.subIn K (.ref EN) (.ref EA) = some false)
    (sNS : PySem.W.subIn K (.ref EN) (.ref ES) = some false)
    (sNN : PySem.W.subIn K (.ref EN) (.ref EN) = some true)
    (sUA : PySem.W.subIn K (.ref EU) (.ref EA) = some false)
    (sUS : PySem.W.subIn K (.ref EU) (.ref ES) = some false)
    (sUN : PySem.W.subIn K (.ref EU) (.ref EN) = some false)
    (sUU : PySem.W.subIn K (.ref EU) (.ref EU) = some true)
    (co_MOST_TIMES : PySem.W.nsIn K mainGlobals "MOST_TIMES" = some (some (.int 1000000000000000000000000000000 tc0)))
    (lcmF : PySem.W.nsIn K mainGlobals "lcm" = some (some (.builtin "math.lcm")))
    (z_int : PySem.W.nsIn K mainGlobals "int" = some none)
    (z_len : PySem.W.nsIn K mainGlobals "len" = some none)
    (z_list : PySem.W.nsIn K mainGlobals "list" = some none)
    (z_range : PySem.W.nsIn K mainGlobals "range" = some none)
    (z_tuple : PySem.W.nsIn K mainGlobals "tuple" = some none)
    (z_isinstance : PySem.W.nsIn K mainGlobals "isinstance" = some none)
    (z_bool : PySem.W.nsIn K mainGlobals "bool" = some none)
    (z_str : PySem.W.nsIn K mainGlobals "str" = some none)
    (z_all : PySem.W.nsIn K mainGlobals "all" = some none)
    (z_enumerate : PySem.W.nsIn K mainGlobals "enumerate" = some none)
    (z_min : PySem.W.nsIn K mainGlobals "min" = some none)
    (z_set : PySem.W.nsIn K mainGlobals "set" = some none)
    (z_sorted : PySem.W.nsIn K mainGlobals "sorted" = some none)
    (z_repr : PySem.W.nsIn K mainGlobals "repr" = some none)
    (z_NotImplemented : PySem.W.nsIn K mainGlobals "NotImplemented" = some none) :
    LawAtS l w K L2.CX0 10 63 "_law_script" mg fa h := by
  have e := (PySem.W.mg_of X G a8).symm.trans hfa
  cases e
  have D1 : Df K mg "_law_pen" sPen ["_law_script"] f1 _ := ⟨fun_mk (st := sPen) l1 c1 k1, PySem.W.mg_of X G a1, (fun_mk (st := sPen) l1 c1 k1).binds (ps := ["_law_script"]) fun _ _ _ _ _ _ us hl => match us, hl with | [_], _ => rfl⟩
  have D2 : Df K mg "_law_draw" sDraw ["_law_pen_here", "_law_many"] f2 _ := ⟨fun_mk (st := sDraw) l2 c2 k2, PySem.W.mg_of X G a2, (fun_mk (st := sDraw) l2 c2 k2).binds (ps := ["_law_pen_here", "_law_many"]) fun _ _ _ _ _ _ us hl => match us, hl with | [_, _], _ => rfl⟩
  have D3 : Df K mg "_law_pick" sPick ["_law_pen_here", "_law_some"] f3 _ := ⟨fun_mk (st := sPick) l3 c3 k3, PySem.W.mg_of X G a3, (fun_mk (st := sPick) l3 c3 k3).binds (ps := ["_law_pen_here", "_law_some"]) fun _ _ _ _ _ _ us hl => match us, hl with | [_, _], _ => rfl⟩
  have D4 : Df K mg "_law_refused" sRefX ["_law_call"] f4 _ := ⟨fun_mk (st := sRefX) l4 c4 k4, PySem.W.mg_of X G a4, (fun_mk (st := sRefX) l4 c4 k4).binds (ps := ["_law_call"]) fun _ _ _ _ _ _ us hl => match us, hl with | [_], _ => rfl⟩
  have D5 : Df K mg "_law_powers" sPow ["_law_a", "_law_many"] f5 _ := ⟨fun_mk (st := sPow) l5 c5 k5, PySem.W.mg_of X G a5, (fun_mk (st := sPow) l5 c5 k5).binds (ps := ["_law_a", "_law_many"]) fun _ _ _ _ _ _ us hl => match us, hl with | [_, _], _ => rfl⟩
  have D6 : Df K mg "_law_is_act" sIcA ["_law_act", "_law_a"] f6 _ := ⟨fun_mk (st := sIcA) l6 c6 k6, PySem.W.mg_of X G a6, (fun_mk (st := sIcA) l6 c6 k6).binds (ps := ["_law_act", "_law_a"]) fun _ _ _ _ _ _ us hl => match us, hl with | [_, _], _ => rfl⟩
  have D7 : Df K mg "_law_is_compared" sIpA ["_law_one", "_law_other", "_law_a", "_law_b"] f7 _ := ⟨fun_mk (st := sIpA) l7 c7 k7, PySem.W.mg_of X G a7, (fun_mk (st := sIpA) l7 c7 k7).binds (ps := ["_law_one", "_law_other", "_law_a", "_law_b"]) fun _ _ _ _ _ _ us hl => match us, hl with | [_, _, _, _], _ => rfl⟩
  have FC8 : FunC K "law" "law" sLaw f8 _ cc8 := ⟨⟨_, _, _, _, _, _, _, _, rfl, l8, c8⟩, k8⟩
  have TA8 := tab_at (q := q) X O mr8 (PySem.W.mg_of X G a8) l8 rfl lc8 h8
  have D8 : Df K mg "law" sLaw ["_law_script"] f8 _ := ⟨FC8.toFun, PySem.W.mg_of X G a8, FC8.toFun.binds (ps := ["_law_script"]) fun _ _ _ _ _ _ us hl => match us, hl with | [_], _ => rfl⟩
  have D9 : Df K mg "is_integer" sIsInt ["value"] f9 _ := ⟨fun_mk (st := sIsInt) l9 c9 k9, PySem.W.mg_of X G a9, (fun_mk (st := sIsInt) l9 c9 k9).binds (ps := ["value"]) fun _ _ _ _ _ _ us hl => match us, hl with | [_], _ => rfl⟩
  have D10 : Df K mg "is_index" sIsIndex ["value", "many"] f10 _ := ⟨fun_mk (st := sIsIndex) l10 c10 k10, PySem.W.mg_of X G a10, (fun_mk (st := sIsIndex) l10 c10 k10).binds (ps := ["value", "many"]) fun _ _ _ _ _ _ us hl => match us, hl with | [_, _], _ => rfl⟩
  have D11 : Df K mg "is_act" sIsAct ["states"] f11 _ := ⟨fun_mk (st := sIsAct) l11 c11 k11, PySem.W.mg_of X G a11, (fun_mk (st := sIsAct) l11 c11 k11).binds (ps := ["states"]) fun _ _ _ _ _ _ us hl => match us, hl with | [_], _ => rfl⟩
  have D12 : Df K mg "followed" sFollow ["states", "others"] f12 _ := ⟨fun_mk (st := sFollow) l12 c12 k12, PySem.W.mg_of X G a12, (fun_mk (st := sFollow) l12 c12 k12).binds (ps := ["states", "others"]) fun _ _ _ _ _ _ us hl => match us, hl with | [_, _], _ => rfl⟩
  have D13 : Df K mg "cycle_of" sCycle ["states"] f13 _ := ⟨fun_mk (st := sCycle) l13 c13 k13, PySem.W.mg_of X G a13, (fun_mk (st := sCycle) l13 c13 k13).binds (ps := ["states"]) fun _ _ _ _ _ _ us hl => match us, hl with | [_], _ => rfl⟩
  have D14 : Df K mg "ring_length" sRingL ["states", "ways"] f14 _ := ⟨fun_mk (st := sRingL) l14 c14 k14, PySem.W.mg_of X G a14, (fun_mk (st := sRingL) l14 c14 k14).binds (ps := ["states", "ways"]) fun _ _ _ _ _ _ us hl => match us, hl with | [_, _], _ => rfl⟩
  have F15 := fun_mk (st := sAInit) l15 c15 k15
  have b15 : Binds K _ ["self", "states"] [] := F15.binds (ps := ["self", "states"]) fun _ _ _ _ _ _ us hl => match us, hl with | [_, _], _ => rfl
  have Mk15 : Mk K C f15 := ⟨mkC, a15, i15, kcC⟩
  have F16 := fun_mk (st := sAEq) l16 c16 k16
  have b16 : Binds K _ ["self", "other"] [] := F16.binds (ps := ["self", "other"]) fun _ _ _ _ _ _ us hl => match us, hl with | [_, _], _ => rfl
  have F17 := fun_mk (st := sALt) l17 c17 k17
  have b17 : Binds K _ ["self", "other"] [] := F17.binds (ps := ["self", "other"]) fun _ _ _ _ _ _ us hl => match us, hl with | [_, _], _ => rfl
  have F18 := fun_mk (st := sALe) l18 c18 k18
  have b18 : Binds K _ ["self", "other"] [] := F18.binds (ps := ["self", "other"]) fun _ _ _ _ _ _ us hl => match us, hl with | [_, _], _ => rfl
  have F19 := fun_mk (st := sAMul) l19 c19 k19
  have b19 : Binds K _ ["self", "other"] [] := F19.binds (ps := ["self", "other"]) fun _ _ _ _ _ _ us hl => match us, hl with | [_, _], _ => rfl
  have F20 := fun_mk (st := sAGet) l20 c20 k20
  have b20 : Binds K _ ["self", "at"] [] := F20.binds (ps := ["self", "at"]) fun _ _ _ _ _ _ us hl => match us, hl with | [_, _], _ => rfl
  have F21 := fun_mk (st := sATimes) l21 c21 k21
  have b21 : Binds K _ ["self", "number"] [] := F21.binds (ps := ["self", "number"]) fun _ _ _ _ _ _ us hl => match us, hl with | [_, _], _ => rfl
  have MT21 : Meth K C "times" f21 := ⟨a21, i21, k21⟩
  have FEA := fun_mk (st := sBadAct) l22 c22 k22
  have OA : OBadAct K mg EA f22 _ := ⟨⟨⟨nmA, qnA, NA, bsA, _, snA, subA, abA, colA, ddA, m0A, m1A, m2A, m3A, m5A, xA, rfl⟩, saA, eA, tA, kkA⟩, ⟨gaA, ggA, eA, hA⟩, PySem.W.mg_of X G aA, a22, t22, (fun f hf => by
      simp only [List.mem_cons, List.not_mem_nil, or_false] at hf
      rcases hf with rfl
      · exact noA_states), FEA, FEA.binds (ps := ["self", "states"]) fun _ _ _ _ _ _ us hl => match us, hl with | [_, _], _ => rfl⟩
  have FES := fun_mk (st := sBadState) l23 c23 k23
  have OS : OBadState K mg ES f23 _ := ⟨⟨⟨nmS, qnS, NS, bsS, _, snS, subS, abS, colS, ddS, m0S, m1S, m2S, m3S, m5S, xS, rfl⟩, saS, eS, tS, kkS⟩, ⟨gaS, ggS, eS, hS⟩, PySem.W.mg_of X G aS, a23, t23, (fun f hf => by
      simp only [List.mem_cons, List.not_mem_nil, or_false] at hf
      rcases hf with rfl
      · exact noS_state), FES, FES.binds (ps := ["self", "state"]) fun _ _ _ _ _ _ us hl => match us, hl with | [_, _], _ => rfl⟩
  have FEN := fun_mk (st := sBadNumber) l24 c24 k24
  have ON : OBadNumber K mg EN f24 _ := ⟨⟨⟨nmN, qnN, NN, bsN, _, snN, subN, abN, colN, ddN, m0N, m1N, m2N, m3N, m5N, xN, rfl⟩, saN, eN, tN, kkN⟩, ⟨gaN, ggN, eN, hN⟩, PySem.W.mg_of X G aN, a24, t24, (fun f hf => by
      simp only [List.mem_cons, List.not_mem_nil, or_false] at hf
      rcases hf with rfl
      · exact noN_number), FEN, FEN.binds (ps := ["self", "number"]) fun _ _ _ _ _ _ us hl => match us, hl with | [_, _], _ => rfl⟩
  have FEU := fun_mk (st := sUneven) l25 c25 k25
  have OU : OUneven K mg EU f25 _ := ⟨⟨⟨nmU, qnU, NU, bsU, _, snU, subU, abU, colU, ddU, m0U, m1U, m2U, m3U, m5U, xU, rfl⟩, saU, eU, tU, kkU⟩, ⟨gaU, ggU, eU, hU⟩, PySem.W.mg_of X G aU, a25, t25, (fun f hf => by
      simp only [List.mem_cons, List.not_mem_nil, or_false] at hf
      rcases hf with rfl | rfl
      · exact noU_many
      · exact noU_most), FEU, FEU.binds (ps := ["self", "many", "most"]) fun _ _ _ _ _ _ us hl => match us, hl with | [_, _, _], _ => rfl⟩
  refine ⟨PySem.W.fnOf "law" "law" (defArgs sLaw) (defBody sLaw) (defScope sLaw) .none kV8 dc8 pm8 an8 (.ref cc8) ct8, [(cc8, pt8)], spLaw K [(pt8, qLaw)], ?_, ?_, ?_, fun s v => .of_eq rfl, ?_, fun base _ _ TB => ?_⟩
  · intro p hp
    simp only [List.mem_cons, List.not_mem_nil, or_false] at hp
    rcases hp with rfl
    exact TA8.2
  · intro p hp
    simp only [List.mem_cons, List.not_mem_nil, or_false] at hp
    rcases hp with rfl
    exact np8
  · intro p hp
    simp only [List.mem_cons, List.not_mem_nil, or_false] at hp
    rcases hp with rfl
    exact TA8.1
  · intro H a ns hns _ hT hS
    refine ⟨a, ns, rfl, hS, hns, fun p hp => ?_, fun _ => rfl⟩
    simp only [List.mem_cons, List.not_mem_nil, or_false] at hp
    rcases hp with rfl
    exact TabS.nil (hT (cc8, pt8) (by simp))
  · have BT : Bt3 mg := ⟨⟨PySem.W.mg_none_of X G z_int, PySem.W.mg_none_of X G z_len, PySem.W.mg_none_of X G z_list, PySem.W.mg_none_of X G z_range, PySem.W.mg_none_of X G z_tuple⟩, PySem.W.mg_none_of X G z_isinstance, PySem.W.mg_none_of X G z_bool, PySem.W.mg_none_of X G z_str, PySem.W.mg_none_of X G z_all, PySem.W.mg_none_of X G z_enumerate, PySem.W.mg_none_of X G z_min⟩
    have MT : Tac K mg C := ⟨⟨pgC, hdC, poC, saC⟩, nC_states, nC_image, nC_rank, nC_is_swap, nC_cycle, PySem.W.mg_of X G aC⟩
    have IC : Tic K C := ⟨⟨ca_C, cs_C, ct_C, cm_C⟩, ci_C, ty_C⟩
    have EE : Ee K ⟨EA, ES, EN, EU, E0⟩ := ⟨exm_of eA iA tA sAA, exm_of eA iA tA sSA, exm_of eS iS tS sSS, exm_of eA iA tA sNA, exm_of eS iS tS sNS, exm_of eN iN tN sNN, exm_of eA iA tA sUA, exm_of eS iS tS sUS, exm_of eN iN tN sUN, exm_of eU iU tU sUU⟩
    have hMT : ∃ t, mg "MOST_TIMES" = some (.int (10 ^ 30) t) := by
      obtain ⟨t, ht⟩ : ∃ t, mg "MOST_TIMES" = some (.int 1000000000000000000000000000000 t) := ⟨_, PySem.W.mg_of X G co_MOST_TIMES⟩
      exact ⟨t, by rw [ht]; rfl⟩
    have GI : FnOk l.prog w K mg base (L2.CX l.prog w) 4 f15 _ pAInit (spAInit K C EA) := ok_ainit F15 MT BT (PySem.W.mg_none_of X G z_set) (PySem.W.mg_none_of X G z_sorted) (PySem.W.mg_of X G lcmF) D11 D10 D9 D13 D14 OA
    have GU : FnOk l.prog w K mg base (L2.CX l.prog w) 6 f19 _ pAMul (spAMul K C EU) := ok_amul F19 MT IC.toTia BT D12 OU Mk15 b15 GI
    have GT : FnOk l.prog w K mg base (L2.CX l.prog w) 6 f21 _ pATimes (spATimes K C EN) := ok_atimes F21 MT BT D9 D12 ON BT.range hMT Mk15 b15 GI
    have GG : FnOk l.prog w K mg base (L2.CX l.prog w) 6 f20 _ pAGet (spAGet K C ES) := ok_aget F20 MT BT D9 D10 OS
    have CF : CmpF l.prog w K mg base C f16 f17 f18 _ _ _ := ⟨⟨a16, i16, one, cm_C⟩, b16, ok_aeq F16 MT IC.toTia BT, ok_ani F16 MT IC BT (PySem.W.mg_none_of X G z_NotImplemented), mtC, mlC, a17, i17, b17, ok_alt F17 MT IC.toTia BT, a18, i18, b18, ok_ale F18 MT IC.toTia BT, ogt, oge⟩
    have eM : PySem.dunder Operator.Mult.info.2 = ("__mul__" : Str) := by decide +kernel
    have kI : KBn K (PySem.W.fnOf "__init__" "Act.__init__" (defArgs sAInit) (defBody sAInit) (defScope sAInit) .none kV15 dc15 pm15 an15 cd15 ct15) pAInit 1 ["states"] (fun us ws => us ++ ws) (fun vs zs => vs ++ zs) := ⟨fun s us ws X l1 l2 => match us, ws, l1, l2 with | [_], [_], _, _ => .of_eq rfl, fun r1 r2 => r1.append r2⟩
    have tbL := TB (cc8, pt8) (by simp)
    have FF : Fs l.prog w K mg base C ⟨EA, ES, EN, EU, E0⟩ [(pt8, qLaw)] := ⟨BT, PySem.W.mg_none_of X G z_repr, MT,
      ⟨_, _, D1⟩, ⟨_, _, D2⟩, ⟨_, _, D3⟩,
      ⟨_, _, D6.g, D6.F.kp, D6.b, ok_ica D6 MT BT BT.range BT.list a20 fiG i20 b20 GG⟩,
      ⟨_, _, D7.g, D7.F.kp, D7.b, ok_ipa D7 BT.list CF⟩,
      ⟨_, _, D5.g, D5.F.kp, D5.b, ok_pow D5 BT BT.range⟩,
      ⟨_, _, D4⟩,
      ⟨_, _, Mk15, b15, kI, GI⟩,
      ⟨_, _, ⟨sfC, by rw [eM]; exact a19, i19⟩, b19, GU⟩,
      ⟨_, _, a20, fiG, i20, b20, GG⟩,
      ⟨_, _, MT21, b21, GT⟩,
      ⟨_, _, OA⟩, ⟨_, _, OS⟩, ⟨_, _, ON⟩, ⟨_, _, OU⟩, PySem.W.mg_of X G a00, EE⟩
    exact ok_law FF FC8 tbL (by simp) (by intro p hp e; simp only [List.mem_cons, List.not_mem_nil, or_false] at hp; rcases hp with rfl; rfl)

theorem walk {l : PySem.W.OpenLaw} {q : Program} {loose : List Str} {XP : (Str → Option Value) → Heap → Prop} {YP : World → Heap → Prop} {d : DefRec} {K : Params → PySem.W.Frag} (hn : l.most = some 63) (hdf : d.params.defaults = [])
    (hY : ∀ (w : World) (h : Heap), YP w h → (K w.params).In h)
    (F : ∀ (w : World) (mg : Str → Option Value) (fa : Addr) (h : Heap), (K w.params).In h → h.Ns mainGlobals mg → mg d.name = some (.ref fa) → OwnTabs q mg h → LawAtS l w (K w.params) L2.CX0 10 63 "_law_script" mg fa h) :
    PySem.W.WalkO q loose XP YP l.row.toRowW d [] (fun f vs => PySem.call f vs) :=
  walk_tabs (n := 63) (k := 10) (x := "_law_script") (CX := fun _ => L2.CX0) hn (by decide) hdf ⟨rfl, by decide, by decide⟩ hY (fun w mg fa h _ => F w mg fa h) fun _ _ _ _ _ z => z
end K1
open PySem PySem.W PyProof.Rows in
set_option maxRecDepth 100000 in
set_option maxHeartbeats 0 in
theorem PySem.Challenge.cw_betweenlooks_k09_acts_and_their_operator_holds : PySem.Challenge.rw_betweenlooks_k09_acts_and_their_operator.Holds := by
  w_on; o_law; k_head; (case hw => w_witness2)
  k_fill
  refine K1.walk (l := PySem.Challenge.rw_betweenlooks_k09_acts_and_their_operator) rfl rfl (fun w h Y => PySem.W.km_in_of Y) ?F
  case F =>
    intro w mg fa h KX G hmg OT
    refine' K1.all_mk KX G hmg OT ?a1 ?l1 ?c1 ?k1 ?a2 ?l2 ?c2 ?k2 ?a3 ?l3 ?c3 ?k3 ?a4 ?l4 ?c4 ?k4 ?a5 ?l5 ?c5 ?k5 ?a6 ?l6 ?c6 ?k6 ?a7 ?l7 ?c7 ?k7 ?a8 ?l8 ?c8 ?k8 ?lc8 ?h8 ?np8 ?mr8 ?a9 ?l9 ?c9 ?k9 ?a10 ?l10 ?c10 ?k10 ?a11 ?l11 ?c11 ?k11 ?a12 ?l12 ?c12 ?k12 ?a13 ?l13 ?c13 ?k13 ?a14 ?l14 ?c14 ?k14 ?aC ?pgC ?hdC ?poC ?saC ?mkC ?kcC ?nC_states ?nC_image ?nC_rank ?nC_is_swap ?nC_cycle ?ca_C ?cs_C ?ct_C ?cm_C ?ci_C ?ty_C ?a15 ?i15 ?l15 ?c15 ?k15 ?a16 ?i16 ?l16 ?c16 ?k16 ?a17 ?i17 ?l17 ?c17 ?k17 ?a18 ?i18 ?l18 ?c18 ?k18 ?a19 ?i19 ?l19 ?c19 ?k19 ?a20 ?i20 ?l20 ?c20 ?k20 ?a21 ?i21 ?l21 ?c21 ?k21 ?fiG ?sfC ?one ?ogt ?oge ?mtC ?mlC ?a00 ?aA ?xA ?saA ?gaA ?ggA ?eA ?tA ?kkA ?hA ?iA ?noA_states ?a22 ?t22 ?l22 ?c22 ?k22 ?aS ?xS ?saS ?gaS ?ggS ?eS ?tS ?kkS ?hS ?iS ?noS_state ?a23 ?t23 ?l23 ?c23 ?k23 ?aN ?xN ?saN ?gaN ?ggN ?eN ?tN ?kkN ?hN ?iN ?noN_number ?a24 ?t24 ?l24 ?c24 ?k24 ?aU ?xU ?saU ?gaU ?ggU ?eU ?tU ?kkU ?hU ?iU ?noU_many ?noU_most ?a25 ?t25 ?l25 ?c25 ?k25 ?sAA ?sSA ?sSS ?sNA ?sNS ?sNN ?sUA ?sUS ?sUN ?sUU ?co_MOST_TIMES ?lcmF ?z_int ?z_len ?z_list ?z_range ?z_tuple ?z_isinstance ?z_bool ?z_str ?z_all ?z_enumerate ?z_min ?z_set ?z_sorted ?z_repr ?z_NotImplemented
    (case a1 => k_is)
    (case l1 => k_is)
    (case c1 => k_is)
    (case k1 => k_is)
    (case a2 => k_is)
    (case l2 => k_is)
    (case c2 => k_is)
    (case k2 => k_is)
    (case a3 => k_is)
    (case l3 => k_is)
    (case c3 => k_is)
    (case k3 => k_is)
    (case a4 => k_is)
    (case l4 => k_is)
    (case c4 => k_is)
    (case k4 => k_is)
    (case a5 => k_is)
    (case l5 => k_is)
    (case c5 => k_is)
    (case k5 => k_is)
    (case a6 => k_is)
    (case l6 => k_is)
    (case c6 => k_is)
    (case k6 => k_is)
    (case a7 => k_is)
    (case l7 => k_is)
    (case c7 => k_is)
    (case k7 => k_is)
    (case a8 => k_is)
    (case l8 => k_is)
    (case c8 => k_is)
    (case k8 => k_is)
    (case lc8 => k_is)
    (case h8 => rfl)
    (case np8 => first | rfl | decide +kernel)
    (case mr8 => first | rfl | decide +kernel)
    (case a9 => k_is)
    (case l9 => k_is)
    (case c9 => k_is)
    (case k9 => k_is)
    (case a10 => k_is)
    (case l10 => k_is)
    (case c10 => k_is)
    (case k10 => k_is)
    (case a11 => k_is)
    (case l11 => k_is)
    (case c11 => k_is)
    (case k11 => k_is)
    (case a12 => k_is)
    (case l12 => k_is)
    (case c12 => k_is)
    (case k12 => k_is)
    (case a13 => k_is)
    (case l13 => k_is)
    (case c13 => k_is)
    (case k13 => k_is)
    (case a14 => k_is)
    (case l14 => k_is)
    (case c14 => k_is)
    (case k14 => k_is)
    (case aC => k_is)
    (case pgC => k_is)
    (case hdC => k_is)
    (case poC => k_is)
    (case saC => k_is)
    (case mkC => k_is)
    (case kcC => k_is)
    (case nC_states => k_is)
    (case nC_image => k_is)
    (case nC_rank => k_is)
    (case nC_is_swap => k_is)
    (case nC_cycle => k_is)
    (case ca_C => k_is)
    (case cs_C => k_is)
    (case ct_C => k_is)
    (case cm_C => k_is)
    (case ci_C => k_is)
    (case ty_C => k_is)
    (case a15 => k_is)
    (case i15 => k_is)
    (case l15 => k_is)
    (case c15 => k_is)
    (case k15 => k_is)
    (case a16 => k_is)
    (case i16 => k_is)
    (case l16 => k_is)
    (case c16 => k_is)
    (case k16 => k_is)
    (case a17 => k_is)
    (case i17 => k_is)
    (case l17 => k_is)
    (case c17 => k_is)
    (case k17 => k_is)
    (case a18 => k_is)
    (case i18 => k_is)
    (case l18 => k_is)
    (case c18 => k_is)
    (case k18 => k_is)
    (case a19 => k_is)
    (case i19 => k_is)
    (case l19 => k_is)
    (case c19 => k_is)
    (case k19 => k_is)
    (case a20 => k_is)
    (case i20 => k_is)
    (case l20 => k_is)
    (case c20 => k_is)
    (case k20 => k_is)
    (case a21 => k_is)
    (case i21 => k_is)
    (case l21 => k_is)
    (case c21 => k_is)
    (case k21 => k_is)
    (case fiG => k_is)
    (case sfC => k_is)
    (case one => k_is)
    (case ogt => k_is)
    (case oge => k_is)
    (case mtC => k_is)
    (case mlC => k_is)
    (case a00 => k_is)
    (case aA => k_is)
    (case xA => k_is)
    (case saA => k_is)
    (case gaA => k_is)
    (case ggA => k_is)
    (case eA => k_is)
    (case tA => k_is)
    (case kkA => k_is)
    (case hA => k_is)
    (case iA => k_is)
    (case noA_states => k_is)
    (case a22 => k_is)
    (case t22 => k_is)
    (case l22 => k_is)
    (case c22 => k_is)
    (case k22 => k_is)
    (case aS => k_is)
    (case xS => k_is)
    (case saS => k_is)
    (case gaS => k_is)
    (case ggS => k_is)
    (case eS => k_is)
    (case tS => k_is)
    (case kkS => k_is)
    (case hS => k_is)
    (case iS => k_is)
    (case noS_state => k_is)
    (case a23 => k_is)
    (case t23 => k_is)
    (case l23 => k_is)
    (case c23 => k_is)
    (case k23 => k_is)
    (case aN => k_is)
    (case xN => k_is)
    (case saN => k_is)
    (case gaN => k_is)
    (case ggN => k_is)
    (case eN => k_is)
    (case tN => k_is)
    (case kkN => k_is)
    (case hN => k_is)
    (case iN => k_is)
    (case noN_number => k_is)
    (case a24 => k_is)
    (case t24 => k_is)
    (case l24 => k_is)
    (case c24 => k_is)
    (case k24 => k_is)
    (case aU => k_is)
    (case xU => k_is)
    (case saU => k_is)
    (case gaU => k_is)
    (case ggU => k_is)
    (case eU => k_is)
    (case tU => k_is)
    (case kkU => k_is)
    (case hU => k_is)
    (case iU => k_is)
    (case noU_many => k_is)
    (case noU_most => k_is)
    (case a25 => k_is)
    (case t25 => k_is)
    (case l25 => k_is)
    (case c25 => k_is)
    (case k25 => k_is)
    (case sAA => k_is)
    (case sSA => k_is)
    (case sSS => k_is)
    (case sNA => k_is)
    (case sNS => k_is)
    (case sNN => k_is)
    (case sUA => k_is)
    (case sUS => k_is)
    (case sUN => k_is)
    (case sUU => k_is)
    (case co_MOST_TIMES => k_is)
    (case lcmF => k_is)
    (case z_int => k_is)
    (case z_len => k_is)
    (case z_list => k_is)
    (case z_range => k_is)
    (case z_tuple => k_is)
    (case z_isinstance => k_is)
    (case z_bool => k_is)
    (case z_str => k_is)
    (case z_all => k_is)
    (case z_enumerate => k_is)
    (case z_min => k_is)
    (case z_set => k_is)
    (case z_sorted => k_is)
    (case z_repr => k_is)
    (case z_NotImplemented => k_is)
