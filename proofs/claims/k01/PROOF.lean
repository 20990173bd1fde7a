import PyProof.Rows.All
import Wide.All
import OpenK.AllK
import Wide.FinOn
import HandS.ForMost
import HandS.Wide
import HandS.Codes
import PySem.Challenge.RW_trueagain_k01_errors_made
import HandS.Exc
import HandS.ExcInit
import KE.KExcIs
import HandS.IsInst
import HandS.Defaults
import HandS.MakeKw
import KE.KExcMake
import PyProof.ReprRoads
import HandS.Lambda
import KE.KLam
import KE.KNest
import HandS.EndTab
import KE.DataFind
import PyProof.StrLawsRepr
import HandS.Head0
import HandS.Head1
import HandS.Head2
import HandS.HeadEnd
import HandS.HeadHook1
import HandS.HeadHook2
import HandS.HeadHook3
import HandS.HeadHook4
set_option Elab.async false
set_option linter.all false
set_option maxRecDepth 100000
set_option maxHeartbeats 3900000
namespace K1
open PySem PySem.Spec PyProof.Rows L2
open C8 (pss_cut tCut)
def top (i : Nat) : Stmt := PySem.Challenge.pw_trueagain_k01_errors_made.main.body.getD i (.Pass ⟨0, 0, 0, 0⟩)
abbrev sDraw : Stmt := top 24
/-! the stream: its list of what is left, the number that is being used up, the count of draws, the mixed number -/
def SV (H : Hp) (st l : Addr) (ns : List Int) (a c m : Int) : Prop := H st = some (.lst [.ref l, .int a, .int c, .int m]) ∧ H l = some (.lst (ns.map V.int))
theorem SV.ne {H : Hp} {st l : Addr} {ns : List Int} {a c m : Int} (S : SV H st l ns a c m) : st ≠ l := by
  refine ne_of S.1 S.2 fun z => ?_
  have z2 : [V.ref l, V.int a, V.int c, V.int m] = ns.map V.int := HO.lst.inj z
  cases ns with
  | nil => cases z2
  | cons n r =>
    rw [List.map_cons] at z2
    have := (List.cons.inj z2).1
    cases this
def Good (H : Hp) (st l : Addr) (c : Int) : Prop := ∃ (ns : List Int) (a m : Int), SV H st l ns a c m ∧ ns.length ≤ 63 ∧ 0 ≤ a ∧ 0 ≤ m ∧ m < 2147483647
structure Strm (H : Hp) (st l : Addr) (c : Nat) : Prop where
  ex : Good H st l (c : Int)
theorem Strm.ne {H : Hp} {st l : Addr} {c : Nat} (S : Strm H st l c) : st ≠ l := by
  obtain ⟨ns, a, m, h, _⟩ := S.ex
  exact h.ne
/-- all but the stream is as it was -/
def But (st l : Addr) (H H' : Hp) : Prop := ∀ b o, H b = some o → b ≠ st → b ≠ l → H' b = some o
theorem But.refl {st l : Addr} {H : Hp} : But st l H H := fun _ _ e _ _ => e
theorem But.st {st l : Addr} {H H' : Hp} {o : HO} (B : But st l H H') : But st l H (upd H' st o) := fun b u e h1 h2 => by
  rw [upd_ne h1]
  exact B b u e h1 h2
theorem But.li {st l : Addr} {H H' : Hp} {o : HO} (B : But st l H H') : But st l H (upd H' l o) := fun b u e h1 h2 => by
  rw [upd_ne h2]
  exact B b u e h1 h2
theorem But.new {st l p : Addr} {H H' : Hp} {o : HO} (B : But st l H H') (h : H' p = none) : But st l H (upd H' p o) := fun b u e h1 h2 => by
  have q := B b u e h1 h2
  rw [upd_ne (ne_of_none q h)]
  exact q
theorem SV.st {H : Hp} {st l : Addr} {ns : List Int} {a c m a' c' m' : Int} {xs : List V} (S : SV H st l ns a c m) (e : xs = [.ref l, .int a', .int c', .int m']) : SV (upd H st (.lst xs)) st l ns a' c' m' := by
  subst e
  refine ⟨upd_same, ?_⟩
  rw [upd_ne S.ne.symm]
  exact S.2
theorem SV.new {H : Hp} {st l p : Addr} {ns : List Int} {a c m : Int} {o : HO} (S : SV H st l ns a c m) (h : H p = none) : SV (upd H p o) st l ns a c m := by
  refine ⟨?_, ?_⟩
  · rw [upd_ne (ne_of_none S.1 h)]
    exact S.1
  · rw [upd_ne (ne_of_none S.2 h)]
    exact S.2
theorem SV.li {H : Hp} {st l : Addr} {ns ns' : List Int} {a c m : Int} {xs : List V} (S : SV H st l ns a c m) (e : xs = ns'.map V.int) : SV (upd H l (.lst xs)) st l ns' a c m := by
  subst e
  refine ⟨?_, upd_same⟩
  rw [upd_ne S.ne]
  exact S.1
def spDraw : Sp := fun vs H Q _ => ∃ (st l : Addr) (c : Nat) (many : Int), vs = [.ref st, .int many] ∧ Strm H st l c ∧ c ≤ 1000000 ∧ 0 < many ∧ many < 1000000 ∧
  ∀ (d : Int) (H' : Hp), 0 ≤ d → d < many → But st l H H' → Strm H' st l (c + 1) → Q (.int d) H'
structure TDraw (mg : Str → Option Value) : Prop where
  int : mg "int" = none
section
variable {P : Program} {w : World} {K : PySem.W.Frag} {mg : Str → Option Value} {base : Heap}
theorem dp_ints {H : Hp} : ∀ ns : List Int, DpAll K H (ns.map V.int) (ns.map PyData.int)
  | [] => .nil
  | n :: r => .cons (.int n) (dp_ints r)
theorem scD : FnScope ["_law_stream", "_law_many", "_law_digit", "_law_mixed"] ["_law_stream", "_law_many"] (defScope sDraw) := ⟨rfl, rfl, rfl, by decide +kernel, rfl, by decide +kernel, by decide +kernel⟩
theorem ok_draw {f : Addr} {fd : FuncData} (F : Fun K "_law_draw" "_law_draw" sDraw f fd) (T : TDraw mg) : FnOk P w K mg base CX0 1 f fd ["_law_stream", "_law_many"] spDraw := by
  refine F.ok scD (fun vs H Q E h => ?_) (fun cdv A outer s H vs Q E hr h => ?_)
  · obtain ⟨st, l, c, many, rfl, _⟩ := h
    rfl
  · obtain ⟨st, l, c, many, rfl, S, hc, hm0, hm1, k⟩ := h
    have hu := hr.units
    refine ⟨_, pss_cut (ps_asg (pe_op op_add (pe_ix ix_list (pv 0) pe_int (fun _ _ => rfl)) pe_int) (pg_sub (pv 0) pe_int set_list))
      (pss_cut (ps_if (PW.pt (pw_and (pt_cmpR op_eq (pe_ix ix_list (pv 0) pe_int (fun _ _ => rfl)) pe_int (nomark _)) (pw_and1 (pt_cmpR (op_neD hu) (pe_ix ix_list (pv 0) pe_int (fun _ _ => rfl)) (pe_lst pa_nil) (nomark _)))))
        (pss_cut (ps_asg (pe_bm PySem.F.plainAttrs_list PySem.F.slot_list_pop PySem.F.type_list_pop mt_popAt (pe_ix ix_list (pv 0) pe_int (fun _ _ => rfl)) (pa_cons pe_int pa_nil)) (pg_sub (pv 0) pe_int set_list))
          (pss_one (ps_if (pt_cmpR op_lt (pe_ix ix_list (pv 0) pe_int (fun _ _ => rfl)) (pe_op op_pow pe_int pe_int) (nomark _))
            (pss_cut (ps_asg (pe_op op_mod (pe_callTy call_int1 (by rfl) T.int (by decide +kernel) (pa_cons (pe_op op_add (pe_op op_add (pe_op op_mul (pe_ix ix_list (pv 0) pe_int (fun _ _ => rfl)) pe_int) (pe_ix ix_list (pv 0) pe_int (fun _ _ => rfl))) pe_int) pa_nil)) pe_int) (pg_sub (pv 0) pe_int set_list))
              (pss_one (ps_asg pe_int (pg_sub (pv 0) pe_int set_list)))) pss_nil)))
        pss_nil)
      (pss_cut (ps_if (pt_cmpR op_gt (pe_ix ix_list (pv 0) pe_int (fun _ _ => rfl)) pe_int (nomark _))
        (pss_cons (ps_set (i := 2) scD.nd rfl (Or.inl rfl) (pe_op op_mod (pe_callTy call_int1 (by rfl) T.int (by decide +kernel) (pa_cons (pe_ix ix_list (pv 0) pe_int (fun _ _ => rfl)) pa_nil)) (pv 1)))
          (pss_cons (ps_asg (pe_op op_fdivW (pe_ix ix_list (pv 0) pe_int (fun _ _ => rfl)) (pv 1)) (pg_sub (pv 0) pe_int set_list))
            (pss_one (ps_ret (pv 2))))) pss_nil)
      (pss_cons (ps_set (i := 3) scD.nd rfl (Or.inl rfl) (pe_op op_mod (pe_op op_pow (pe_op op_add (pe_op op_add (pe_ix ix_list (pv 0) pe_int (fun _ _ => rfl)) (pe_op op_mul pe_int (pe_ix ix_list (pv 0) pe_int (fun _ _ => rfl)))) pe_int) pe_int) pe_int))
        (pss_one (ps_ret (pe_op op_mod (pe_op op_mod (pe_op op_pow (pe_op op_add (pe_op op_add (pe_op op_mul (pv 3) pe_int)
            (pe_op op_mul (pe_op op_mul pe_int (pe_ix ix_list (pv 0) pe_int (fun _ _ => rfl))) (pe_ix ix_list (pv 0) pe_int (fun _ _ => rfl)))) pe_int) pe_int) pe_int) (pv 1))))))), ?_⟩
    obtain ⟨ns, a, m, hS, hns, ha, hm, hm2⟩ := S.ex
    -- stream[2] = stream[2] + 1
    refine ⟨fun σ H' => σ = [some (.ref st), some (.int many), none, none] ∧ But st l H H' ∧ SV H' st l ns a ((c + 1 : Nat) : Int) m,
      ⟨_, rfl, st, _, _, _, rfl, rfl, SqL.of hS.1, rfl, _, _, rfl, rfl, _, rfl, st, _, 2, 2, rfl, rfl, hS.1, rfl, rfl, But.refl.st, hS.st rfl⟩, ?_⟩
    rintro _ H1 ⟨rfl, B1, S1⟩
    -- if stream[1] == 0 and stream[0] != []: ..
    refine ⟨fun σ H' => σ = [some (.ref st), some (.int many), none, none] ∧ But st l H H' ∧ Good H' st l ((c + 1 : Nat) : Int),
      ⟨_, rfl, st, _, _, _, rfl, rfl, SqL.of S1.1, rfl, rfl, _, rfl, ?_⟩, ?_⟩
    · refine ite2 (fun ea => ?_) (fun _ => iteF ⟨rfl, B1, ns, a, m, S1, hns, ha, hm, hm2⟩)
      refine ⟨_, rfl, st, _, _, _, rfl, rfl, SqL.of S1.1, rfl, Nat.zero_le _, fun p hp => ?_⟩
      have S2 := S1.new (o := .lst []) hp
      have B2 := B1.new (o := .lst []) hp
      refine ⟨.list (ns.map .int), .list [], .lst (SqL.of S2.2) ?_, .lst (SqL.of upd_same) .nil, ?_, rfl, _, rfl, ?_⟩
      · exact dp_ints ns
      · exact PySem.W.shaped_ints ns
      · cases ns with
        | nil => exact iteF ⟨rfl, B2, [], a, m, S2, hns, ha, hm, hm2⟩
        | cons n r =>
          refine iteT ?_
          have hns' : r.length ≤ 63 := by
            rw [List.length_cons] at hns
            omega
          have e0 : seqIndex? 0 (((n :: r).map V.int).length) = some 0 := by
            rw [List.length_map, List.length_cons]
            simp [seqIndex?]
          -- stream[1] = stream[0].pop(0)
          refine ⟨fun σ H' => σ = [some (.ref st), some (.int many), none, none] ∧ But st l H H' ∧ SV H' st l r n ((c + 1 : Nat) : Int) m,
            ⟨_, rfl, st, _, _, _, rfl, rfl, SqL.of S2.1, rfl, .inl ⟨rfl, _, SqL.of S2.2⟩, l, _, 0, 0, _, rfl, rfl, S2.2, by decide, by decide, e0, rfl, _, rfl, st, _, 1, 1, rfl, rfl, (S2.li (ns' := r) rfl).1, rfl, rfl, B2.li.st, (S2.li (ns' := r) rfl).st rfl⟩, ?_⟩
          rintro _ H3 ⟨rfl, B3, S3⟩
          -- if stream[1] < 10 ** 18: ..
          refine ⟨_, rfl, st, _, _, _, rfl, rfl, SqL.of S3.1, rfl, _, _, rfl, rfl, ⟨by decide, by decide, by decide⟩, _, _, rfl, rfl, _, rfl, ?_⟩
          refine ite2 (fun lt => ?_) (fun ge => ?_)
          · refine ⟨fun σ H' => σ = [some (.ref st), some (.int many), none, none] ∧ But st l H H' ∧ ∃ m' : Int, SV H' st l r n ((c + 1 : Nat) : Int) m' ∧ 0 ≤ m' ∧ m' < 2147483647,
              ⟨_, rfl, st, _, _, _, rfl, rfl, SqL.of S3.1, rfl, _, _, rfl, rfl, .inr ⟨by decide, by decide⟩, _, rfl, st, _, _, _, rfl, rfl, SqL.of S3.1, rfl, _, _, rfl, rfl, _, _, rfl, rfl, .inl ⟨_, rfl, _, _, rfl, rfl, (by show (0 : Int) < 2147483647; decide),
                _, rfl, st, _, 3, 3, rfl, rfl, S3.1, rfl, rfl, B3.st, _, S3.st rfl, Int.emod_nonneg _ (by decide), Int.emod_lt_of_pos _ (by decide)⟩⟩, ?_⟩
            rintro _ H4 ⟨rfl, B4, m', S4, h1, h2⟩
            exact ⟨_, rfl, st, _, 1, 1, rfl, rfl, S4.1, rfl, rfl, B4.st, r, 0, m', S4.st rfl, hns', by decide, h1, h2⟩
          · have ge' : ¬ n < (10 : Int) ^ (18 : Int).toNat := fun z => ge (decide_eq_true z)
            have e : (10 : Int) ^ (18 : Int).toNat = 1000000000000000000 := by decide
            rw [e] at ge'
            exact ⟨rfl, B3, r, n, m, S3, hns', by omega, hm, hm2⟩
    · rintro _ H3 ⟨rfl, B3, ns3, a3, m3, S3, hns3, ha3, hm3, hm33⟩
      have ml : many.natAbs.log2 < 9000 := by
        have := PySem.Flt.log2_lt_of (k := 20) (by decide) (show many.natAbs < 2 ^ 20 by omega)
        omega
      -- if stream[1] > 0: ..
      refine ⟨fun σ H' => σ = [some (.ref st), some (.int many), none, none] ∧ But st l H H' ∧ Good H' st l ((c + 1 : Nat) : Int),
        ⟨_, rfl, st, _, _, _, rfl, rfl, SqL.of S3.1, rfl, _, _, rfl, rfl, _, rfl, ?_⟩, ?_⟩
      · refine ite2 (fun _ => ?_) (fun _ => ⟨rfl, B3, ns3, a3, m3, S3, hns3, ha3, hm3, hm33⟩)
        refine ⟨_, rfl, st, _, _, _, rfl, rfl, SqL.of S3.1, rfl, .inl ⟨_, rfl, _, rfl, _, _, rfl, rfl, hm0, ?_⟩⟩
        refine ⟨_, rfl, st, _, _, _, rfl, rfl, SqL.of S3.1, rfl, _, rfl, _, _, rfl, rfl, ⟨hm0, ml⟩, _, rfl, st, _, 1, 1, rfl, rfl, S3.1, rfl, _, rfl, ?_⟩
        exact k _ _ (Int.emod_nonneg _ (by omega)) (Int.emod_lt_of_pos _ hm0) B3.st ⟨ns3, a3 / many, m3, S3.st rfl, hns3, Int.ediv_nonneg ha3 (by omega), hm3, hm33⟩
      · rintro _ H4 ⟨rfl, B4, ns4, a4, m4, S4, hns4, ha4, hm4, hm44⟩
        refine ⟨_, rfl, st, _, _, _, rfl, rfl, SqL.of S4.1, rfl, _, rfl, st, _, _, _, rfl, rfl, SqL.of S4.1, rfl, _, _, rfl, rfl, .inl ⟨by decide, by decide⟩, _, _, rfl, rfl, _, _, rfl, rfl, _, _, rfl, rfl, ⟨by decide, by decide, by omega⟩, _, _, rfl, rfl, (by show (0 : Int) < 2147483629; decide), ?_⟩
        generalize hx : (m4 + 104729 * ((c + 1 : Nat) : Int) + 17) ^ (5 : Int).toNat % 2147483629 = x
        have x0 : 0 ≤ x := by
          rw [← hx]
          exact Int.emod_nonneg _ (by decide)
        have x1 : x < 2147483629 := by
          rw [← hx]
          exact Int.emod_lt_of_pos _ (by decide)
        have cc : 40503 * ((c + 1 : Nat) : Int) * ((c + 1 : Nat) : Int) ≤ 40503 * 1000001 * 1000001 := Int.mul_le_mul (by omega) (by omega) (by omega) (by decide)
        have c0 : 0 ≤ 40503 * ((c + 1 : Nat) : Int) * ((c + 1 : Nat) : Int) := Int.mul_nonneg (by omega) (by omega)
        refine ⟨_, rfl, _, _, rfl, rfl, .inr ⟨by decide, by decide⟩, _, rfl, st, _, _, _, rfl, rfl, SqL.of S4.1, rfl, _, _, rfl, rfl, .inl ⟨by decide, by decide⟩, _, rfl, st, _, _, _, rfl, rfl, SqL.of S4.1, rfl, _, _, rfl, rfl, .inr ⟨by omega, by omega⟩,
          _, _, rfl, rfl, _, _, rfl, rfl, _, _, rfl, rfl, ⟨by decide, by decide, by omega⟩, _, _, rfl, rfl, (by show (0 : Int) < 1000000007; decide), _, rfl, _, _, rfl, rfl, hm0, ?_⟩
        exact k _ _ (Int.emod_nonneg _ (by omega)) (Int.emod_lt_of_pos _ hm0) B4 ⟨ns4, a4, m4, S4, hns4, ha4, hm4, hm44⟩
end
end K1

set_option maxHeartbeats 3900000
/-! An own exception class over ValueError, called with any arguments, keywords too. -/
namespace EVK
open PySem PySem.W PySem.Calls PySem.HandSPX
open Builtin Builtin.ObjectAttr
abbrev nw : String := "ValueError.__new__"
section
variable {nm q : Str} {c ns : Addr} {bs bm : List Value} {sl : List Str} {sb : List Value} {ab hd : Bool} {co : Option Bool} {od : Option Addr}
variable {m0 m1 m2 m3 m5 : Option Value} {kw : List (Str × Value)} {vs : List Value} {hp : Heap} {gs : Array GenState} {dr : Drawn} {n : Nat} {os : OsState}
variable {P : Program} {w : World} {A : Around} {E : Value → Shared → Prop} {R : Result → Shared → Prop}
/-- the class's own record -/
abbrev Rec (hp : Heap) (c : Addr) (nm q : Str) (ns : Addr) (bs bm : List Value) (hd : Bool) (sl : List Str) (sb : List Value) (ab : Bool) (co : Option Bool) (od : Option Addr) (m0 m1 m2 m3 m5 : Option Value) : Prop :=
  hp.get? c = some (excClassObj nm q c ns bs bm hd sl sb ab co od m0 m1 m2 m3 m5 nw)
theorem has (hb : refsVE bm = true) (T : String) : (Value.ref c :: bm).contains (.type T) = veTail.contains (.type T) := by
  rw [List.contains_cons, refsVE_contains T bm hb]
  rfl
theorem chk (r : Rec hp c nm q ns bs bm hd sl sb ab co od m0 m1 m2 m3 m5) (hb : refsVE bm = true) {Q : Unit → Shared → Prop} (y : Q () ⟨hp, gs, dr, n, os⟩) :
    wpAny (model P w) A (checkBuiltinCall nw ⟨.ref c :: vs, kw⟩) Q E ⟨hp, gs, dr, n, os⟩ := by
  have z1 : (Value.ref c :: bm).contains (.type "ValueError") = true := (has hb _).trans F.excBase_ValueError.hasB
  have z2 := F.excBase_ValueError.noStar
  simp only [checkBuiltinCall, F.excBase_ValueError.newKind, F.excBase_ValueError.newSplit, F.excBase_ValueError.newRow]
  repeat
    first
      | refine wpAny_loadPart_at r ?_
      | (refine wpAny_isSubtype_exc r ?_
         rw [z1])
      | refine wpAny_staticBase_exc r ?_
      | refine wpAny_madeBy_exc r ?_
      | simp only [bne_self_eq_false, Bool.false_eq_true, if_false]
      | wp_step
  exact y
theorem born (r : Rec hp c nm q ns bs bm hd sl sb ab co od m0 m1 m2 m3 m5) (hb : refsVE bm = true) (z4 : vs.length ≤ sizeLine)
    (y : R (.ok (.ret (.ref (hp.objs.size + 1)))) ⟨(hp.push (W.kdv_tup vs)).push (excO c hp.objs.size), gs, dr, n, os⟩) :
    codeAny (model P w) A (.builtin nw ⟨.ref c :: vs, kw⟩) R ⟨hp, gs, dr, n, os⟩ := by
  have z0 := F.excBase_ValueError.ends
  have z1 : (Value.ref c :: bm).contains (.type "ValueError") = true := (has hb _).trans F.excBase_ValueError.hasB
  have z2 : (Value.ref c :: bm).contains (.type "AttributeError") = false := (has hb _).trans F.excBase_ValueError.noAttr
  have z3 : (Value.ref c :: bm).contains (.type "NameError") = false := (has hb _).trans F.excBase_ValueError.noName
  refine codeAny_builtinAt F.excBase_ValueError.entry ?_
  unfold Builtin.«BaseException.__new__»
  refine wpAt_bind ?_
  show wpAt _ _ _ (stack >>= _) _ _ _
  refine wpAt_bind (wpAt_stack fun _ _ => wpAt_of_wpAny ?_)
  wp_walk
  refine wpAt_of_wpAny ?_
  rw [F.excBase_ValueError.owner]
  repeat
    first
      | with_reducible refine wpAny_madeHere_exc F.excBase_ValueError.canon r ?_
      | with_reducible refine wpAny_loadPart_at r ?_
      | (with_reducible refine wpAny_isSubtype_exc r ?_
         first
           | rw [z1]
           | rw [z2]
           | rw [z3])
      | wp_step
  show R _ _
  rw [Heap.size_push]
  exact y
theorem made {fI : Addr} (r : Rec hp c nm q ns bs bm hd sl sb ab co od m0 m1 m2 m3 m5) (hb : refsVE bm = true) (z4 : vs.length ≤ sizeLine) (li : W.Looks (model P w) hp (typeLookup (.ref c) "__init__") (some (.ref fI)))
    (lb : ∀ o, W.Looks (model P w) hp (bindSpecial (.ref fI) o) (.ref fI, [o])) {Q : PySem.Fin → Shared → Prop}
    (y : codeAny (model P w) A (.call (.ref fI) ⟨.ref (hp.objs.size + 1) :: vs, kw⟩)
      (fun x s' => match x with
        | .ok (.ret v) => v = .none ∧ Q (.done (.ret (.ref (hp.objs.size + 1)))) s'
        | .ok _ => False
        | .error e => E e s') ⟨(hp.push (W.kdv_tup vs)).push (excO c hp.objs.size), gs, dr, n, os⟩) :
    wpAny (model P w) A (Builtin.«type.__call__» ⟨.ref c :: vs, kw⟩) Q E ⟨hp, gs, dr, n, os⟩ := by
  repeat
    first
      | with_reducible refine wpAny_loadPart_at r ?_
      | with_reducible refine wpAny_madeBy_exc r ?_
      | wp_step
  refine codeAny_call_builtin_code (Code.quiet_builtin _ F.excBase_ValueError.quiet) (chk r hb (born r hb z4 ?_))
  show wpAny _ _ _ _ _ _
  have up : ∀ b o, hp.get? b = some o → ((hp.push (W.kdv_tup vs)).push (excO c hp.objs.size)).get? b = some o := fun _ _ z => Heap.get?_push_of_some _ (Heap.get?_push_of_some _ z)
  have r2 := up _ _ r
  have it : ((hp.push (W.kdv_tup vs)).push (excO c hp.objs.size)).get? (hp.objs.size + 1) = some (excO c hp.objs.size) := by heap_get
  have me : (Value.ref c :: bm).contains (.ref c) = true := by simp
  unfold isInstance
  repeat
    first
      | with_reducible refine wpAny_loadPart_at it ?_
      | (with_reducible refine wpAny_isSubtype_exc r2 ?_
         rw [me])
      | wp_step
  show wpAny _ _ (typeLookup (.ref c) _) _ _ _
  refine (li.keeps up).at (wpAny_holding (wpAny_bind (((lb _).keeps up).at (wpAny_bind (wpAny_call (codeAny_mono y fun x s' z => ?_))))))
  rcases x with x | (v | _ | _ | _) <;> first | exact z | exact z.elim | skip
  obtain ⟨rfl, z⟩ := z
  first
    | exact wpAny_pure (wpAny_pure z)
    | (wp_walk; exact z)
theorem called {fI : Addr} (r : Rec hp c nm q ns bs bm hd sl sb ab co od m0 m1 m2 m3 m5) (hb : refsVE bm = true) (z4 : vs.length ≤ sizeLine) (li : W.Looks (model P w) hp (typeLookup (.ref c) "__init__") (some (.ref fI)))
    (lb : ∀ o, W.Looks (model P w) hp (bindSpecial (.ref fI) o) (.ref fI, [o]))
    (y : codeAny (model P w) (A.under (.builtin "type.__call__" ⟨.ref c :: vs, kw⟩)) (.call (.ref fI) ⟨.ref (hp.objs.size + 1) :: vs, kw⟩) (W.InitBack (hp.objs.size + 1) R) ⟨(hp.push (W.kdv_tup vs)).push (excO c hp.objs.size), gs, dr, n, os⟩) :
    codeAny (model P w) A (.call (.ref c) ⟨vs, kw⟩) R ⟨hp, gs, dr, n, os⟩ := by
  have k1 := tc_lookup
  have k2 := tc_bind (.ref c)
  have k3 : (⟨hp, gs, dr, n, os⟩ : Shared).TypeIs (.ref c) "type" := ⟨_, r, rfl⟩
  refine codeAny_of_tree ?_
  show wpAny _ _ (callAny (.ref c) _) _ _ _
  repeat
    any_goals
      first
        | assumption
        | with_reducible refine wpAny_loadPart_at r ?_
        | wp_step
  refine ⟨rfl, codeAny_call_builtin_at (Code.quiet_builtin _ (by decide +kernel)) entry_typeCall (wpAny_check_type_call_sub r (made r hb z4 li lb (codeAny_mono y fun x s' z => ?_)))⟩
  rcases x with x | (v | _ | _ | _) <;> exact z
end
end EVK

set_option maxHeartbeats 3900000
namespace EV
open PySem PySem.Spec PyProof.Rows L2
/-! own exception classes held as values -/
structure ECls (K : PySem.W.Frag) (C : Addr) : Prop where
  ox : OexC K C
  ga : PySem.W.findIn K (.ref C) "__getattribute__" = some (some (.builtin "BaseException.__getattribute__"))
  gt : PySem.W.findIn K (.ref C) "__getattr__" = some none
  hd : PySem.W.hasDictIn K C = true
  ca : PySem.W.findIn K (.ref C) "__class__" = some (some (.builtin "object.__class__"))
  mo : PySem.W.mroIn K C (.type "object") = some true
structure EAll (K : PySem.W.Frag) : Prop where
  gn : PySem.W.specialIn K (.builtin "object.__class__") "__get__" = some (some (.builtin "getset_descriptor.__get__"))
  tk : PySem.W.takesIn K (.builtin "object.__class__") = some true
theorem ECls.isSome {K : PySem.W.Frag} {C : Addr} (E : ECls K C) : (PySem.W.clsIn K C).isSome = true := by
  obtain ⟨nm, q, N, bs, bm, sn, sub, ab, col, dd, k0, k1, k2, k3, k5, hC, hbm⟩ := E.ox.cls
  unfold PySem.W.clsIn
  rw [hC]
  rfl
/-- an exception of the class at C stands at a: without fields yet, or with its dict -/
def ExAt (H : Hp) (a C : Addr) : Prop := H a = some (exo a C none) ∨ ∃ (d : Addr) (fs : List (Str × V)), H a = some (exo a C (some d)) ∧ H d = some (exd d fs)
section
variable {X : Cx} {pins : List (Addr × Obj)} {σ : L2.St} {H : Hp} {s : Shared} {a C : Addr}
theorem ExAt.inst (I : Inv X pins σ H s) (x : ExAt H a C) : ∃ ox od, PySem.W.InstAt s.heap a ox C od := by
  rcases x with x | ⟨d, fs, x, y⟩
  · obtain ⟨t, h⟩ := exo_at I.hok x
    exact ⟨_, none, h, rfl, rfl, trivial⟩
  · obtain ⟨t, h⟩ := exo_at I.hok x
    obtain ⟨mA, hns, rel⟩ := exd_at I.hok y
    obtain ⟨o, es, ep, ho, _⟩ := hns
    exact ⟨_, some o, h, rfl, rfl, ho⟩
/-- isinstance(e, c), e such an exception -/
def rIsX (K : PySem.W.Frag) : List V → Hp → VK → Prop := fun xs H Q => ∃ (a C : Addr) (c : V) (u : Value) (b : Bool), xs = [.ref a, c] ∧ ClsV c u ∧ ECls K C ∧ EAll K ∧ ExAt H a C ∧ PySem.W.kitOne K (.ref C) u = some b ∧ Q (.bl b) H
theorem call_isX : CallR X (.builtin "isinstance") (rIsX X.K) := by
  intro pins s σ H xs us Q I r h
  obtain ⟨a, C, c, u, b, rfl, k, E, EA, x, e, q⟩ := h
  obtain ⟨u1, u2, rfl, r1, r2⟩ := vals2 r
  have e2 := k.eq r2
  subst e2
  cases (show u1 = Value.ref a from r1)
  obtain ⟨ox, od, J⟩ := x.inst I
  exact PySem.W.kia_one (PySem.W.kitx_exc E.isSome E.ga E.gt E.ox.exC E.ca EA.gn EA.tk E.mo) I.kIn J e (fun z => nomatch z) fun tk => ⟨.bl b, H, I.tok tk, rfl, q⟩
/-- e.f -/
def tFldX (K : PySem.W.Frag) (f : Str) (te : TE) : TE := fun σ H Q => te σ H fun x H1 => ∃ (a C d : Addr) (fs : List (Str × V)) (v : V), x = .ref a ∧ ECls K C ∧ PySem.W.findIn K (.ref C) f = some none ∧ H1 a = some (exo a C (some d)) ∧ H1 d = some (exd d fs) ∧ fs.lookup f = some v ∧ Q v H1
theorem pe_fldX {e : Expr} {f : Str} {te : TE} {pos : Pos} (he : PE X e te) (hb : attributeBase e f X.env (eval e X.env) = eval e X.env := by rfl) : PE X (.Attribute e f pos) (tFldX X.K f te) := by
  refine ⟨fun pins s σ H Q I h => ?_⟩
  refine attr_of hb (thn (he.run pins s σ H _ I h) fun u s1 hh => ?_)
  obtain ⟨x, H1, I1, rx, a, C, d, fs, v, ex, E, noN, ea, ed, hl, q⟩ := hh
  subst ex
  obtain rfl : u = Value.ref a := rx
  obtain ⟨t, h⟩ := exo_at I1.hok ea
  obtain ⟨mA, hns, hr⟩ := exd_at I1.hok ed
  obtain ⟨od, ho, hlk⟩ := lookIn_ns hns
  obtain ⟨u, hu, ru⟩ := RelO.some_of (v := v) (o := mA f) (by rw [← hl]; exact hr f)
  have J : PySem.W.InstAt s1.heap a _ C (some od) := ⟨h, rfl, rfl, ho⟩
  exact HandSPX.exc_get I1.kIn J E.ga E.gt E.ox.exC (PySem.W.findObj_own E.hd noN rfl (by rw [hlk, hu])) (handed_of ru) ⟨v, H1, I1.tok _, ru, q⟩
end
/-- C(e, ..), C's own __init__ keeping sp: a value -/
def tMkV (C : Addr) (sp : Sp) (ta : TA) : TE := fun σ H Q => ta σ H fun vs H1 => vs.length ≤ 1000 ∧ ∀ a, H1 a = none → sp (.ref a :: vs) (upd H1 a (exo a C none)) (fun v H2 => v = .non ∧ Q (.ref a) H2) (fun _ _ _ => False)
/-- C(f = e, ..), keywords alone -/
def tMkK (C : Addr) (m : Nat) (sp : Sp) (gV : List V → List V → List V) (tk : TA) : TE := fun σ H Q => tk σ H fun zs H1 => zs.length = m ∧ ∀ a, H1 a = none → sp (gV [.ref a] zs) (upd H1 a (exo a C none)) (fun v H2 => v = .non ∧ Q (.ref a) H2) (fun _ _ _ => False)
section
variable {X : Cx} {CX : CXT} {x : Str} {C fI : Addr} {k : Nat} {fd : FuncData} {ps : List Str} {sp : Sp} {p pos : Pos} {e : Expr} {es : List Expr} {ta : TA}
/-- a new error stands; its __init__ runs on it -/
theorem run_made {pins : List (Addr × Obj)} {σ : L2.St} {H : Hp} {t : Shared} {Q : VK} {us : List Value} {kw : List (Str × Value)} {all : Addr → List Value} {allV : Addr → List V} (T : OexC X.K C)
    (iC : PySem.W.findIn X.K (.ref C) "__init__" = some (some (.ref fI))) (tI : PySem.W.typeIn X.K (.ref fI) = some (.type "function")) (F1 : FnOk X.prog X.w X.K X.mg X.base CX k fI fd ps sp) (hr : Room (k + 1) X.A) (hx : Passes CX X (fun _ _ _ => False))
    (J : Inv X pins σ H t) (few : us.length ≤ 1000) (bind : ∀ (t' : Shared) (a : Addr), X.K.In t'.heap → (allV a).length = ps.length → BindsTo t' fd ⟨.ref a :: us, kw⟩ (ps.zip (all a))) (rel : ∀ a, Vals (allV a) (all a))
    (ask : ∀ a, H a = none → sp (allV a) (upd H a (exo a C none)) (fun v H2 => v = .non ∧ Q (.ref a) H2) (fun _ _ _ => False)) : wpAny (model X.prog X.w) X.A (call (.ref C) us kw) (EP X pins σ Q) X.xe t := by
  obtain ⟨c1, c2, c3, c4, mro, c6, c7, c8, c9, c10, c11, c12, c13, c14, c15, rec, own⟩ := T.cls
  obtain ⟨hp, gs, dn, tn, os⟩ := t
  have ge : hp.objs.size ≤ hp.objs.size + 1 := Nat.le_succ _
  have at_ : ((hp.push (PySem.W.kdv_tup us)).push (PySem.HandSPX.excO C hp.objs.size)).get? (hp.objs.size + 1) = some (PySem.HandSPX.excO C hp.objs.size) := by
    heap_get
  have J2 := J.laid (t' := tn) (a := hp.objs.size + 1) (fun _ _ z => Heap.get?_push_of_some (PySem.HandSPX.excO C hp.objs.size) (Heap.get?_push_of_some (PySem.W.kdv_tup us) z)) ge (exo_ok (C := C) (d := none) at_)
  have q := ask _ (J.hok.fresh ge)
  have line : us.length ≤ sizeLine := Nat.le_trans few (by decide)
  refine wpAny_call (EVK.called (J.kIn _ _ rec) own line (PySem.W.looks_findIn J.kIn iC) (fun o => PySem.W.bind_fn J.kIn o tI) ?_)
  refine codeAny_mono (F1.run _ X.stack _ _ _ _ _ _ (fun _ _ _ => False) (hr.make C us kw) (J2.env0.make C us kw) (bind _ _ J2.kIn (F1.len _ _ _ _ q)) (rel _) q) fun r t' z => ?_
  match r, z with
  | .error er, z => exact hx pins σ _ _ er t' J2 z
  | .ok (.ret u), z =>
    obtain ⟨v, H', J3, rv, ev, fin⟩ := J2.after z
    rw [ev] at rv
    exact ⟨rv, .ref (hp.objs.size + 1), H', J3, rfl, fin⟩
theorem pe_exV (T : OexC X.K C) (iC : PySem.W.findIn X.K (.ref C) "__init__" = some (some (.ref fI))) (tI : PySem.W.typeIn X.K (.ref fI) = some (.type "function"))
    (F1 : FnOk X.prog X.w X.K X.mg X.base CX k fI fd ps sp) (hr : Room (k + 1) X.A) (hb : Binds X.K fd ps []) (hx : Passes CX X (fun _ _ _ => False)) (hg : Gl X x) (hm : X.mg x = some (.ref C)) (ha : PA X (e :: es) ta)
    (hdb : (x == ("__debug__" : Str)) = false := by decide) (he : starEach (e :: es) X.env = (false, eval e X.env) :: starEach es X.env := by rfl) (hpl : (backTo pos (starEach es X.env)).any (·.1) = false := by rfl) :
    PE X (.Call (.Name x p) (e :: es) [] pos) (tMkV C sp ta) := by
  constructor
  intro pins s σ H Q I h
  refine wpAny_Call_Name_kw (ld_glob I hg hm (PySem.W.callWith_K (h₀ := X.base) I.ok.mod.kin T.kC (thn (ha.run pos pins s σ H _ I h) fun us t ⟨vs, H1, J, rv, few, ask⟩ => ⟨J.kIn, ?_⟩) he hpl) hdb)
  refine run_made (all := fun a => .ref a :: us) (allV := fun a => .ref a :: vs) T iC tI F1 hr hx J (by show us.length ≤ 1000; rw [← rv.length]; exact few) (fun t' a kt hl => ?_) (fun a => .cons rfl rv) ask
  have z := hb t' (.ref a :: us) kt (by rw [List.append_nil, ← hl, List.length_cons, List.length_cons, rv.length])
  rw [List.append_nil] at z
  exact z
theorem pe_exK {ks : List Str} {kws : List Keyword} {tk : TA} {g : List Value → List Value → List Value} {gV : List V → List V → List V} (T : OexC X.K C) (iC : PySem.W.findIn X.K (.ref C) "__init__" = some (some (.ref fI))) (tI : PySem.W.typeIn X.K (.ref fI) = some (.type "function"))
    (F1 : FnOk X.prog X.w X.K X.mg X.base CX k fI fd ps sp) (hr : Room (k + 1) X.A) (hb : KBn X.K fd ps 1 ks g gV) (hx : Passes CX X (fun _ _ _ => False)) (hg : Gl X x) (hm : X.mg x = some (.ref C)) (hkw : PK X kws tk)
    (hall : (backToKw pos (keywordEach kws X.env)).all (·.1.isSome) = true := by rfl) (hks : (backToKw pos (keywordEach kws X.env)).filterMap (·.1) = ks := by rfl) (hdb : (x == ("__debug__" : Str)) = false := by decide)
    (hpl : ((backTo pos (starEach [] X.env)).any (·.1) || (backToKw pos (keywordEach kws X.env)).any (·.1.isNone)) = false := by rfl) :
    PE X (.Call (.Name x p) [] kws pos) (tMkK C ks.length sp gV tk) := by
  constructor
  intro pins s σ H Q I h
  refine wpAny_Call_Name_kw (ld_glob I hg hm (PySem.W.callWith_KW0 (h₀ := X.base) I.ok.mod.kin T.kC hall (thn (hkw.run pos pins s σ H _ I h) fun ws t ⟨zs, H1, J, rz, lz, ask⟩ => ⟨J.kIn, ?_⟩) hpl) hdb)
  rw [hks]
  exact run_made (us := []) (all := fun a => g [.ref a] ws) (allV := fun a => gV [.ref a] zs) T iC tI F1 hr hx J (Nat.zero_le _) (fun t' a kt _ => hb.to t' [.ref a] ws kt rfl (rz.length.symm.trans lz)) (fun a => hb.rel (.cons rfl .nil) rz) ask
/-- C(), C without an __init__ of its own -/
def tMk0 (C : Addr) : TE := fun _ H Q => ∀ a, H a = none → Q (.ref a) (upd H a (exo a C none))
theorem pe_ex0 (T : OexC X.K C) (iC : PySem.W.findIn X.K (.ref C) "__init__" = some (some (.builtin "ValueError.__init__"))) (hg : Gl X x) (hm : X.mg x = some (.ref C)) (hdb : (x == ("__debug__" : Str)) = false := by decide) :
    PE X (.Call (.Name x p) [] [] pos) (tMk0 C) := by
  refine ⟨fun pins s σ H Q I h => ?_⟩
  obtain ⟨nm, q, N, bs, bm, sn, sub, ab, col, dd, k0, k1, k2, k3, k5, hC, hbm⟩ := T.cls
  refine wpAny_Call_Name_kw (ld_glob I hg hm ?_ hdb)
  refine PySem.W.callWith_K0 I.kIn T.kC ?_
  obtain ⟨hp, g0, dr, tk0, os⟩ := s
  have hsz : hp.objs.size ≤ hp.objs.size + 1 := Nat.le_succ _
  exact PySem.W.call_B F.excBase_ValueError (fun Y => PySem.HandSPX.refsVE_contains Y bm hbm) (I.kIn _ _ hC) (PySem.W.looks_findIn I.kIn iC) (Nat.zero_le _) fun h' kp ho _ =>
    ⟨.ref (hp.objs.size + 1), _, I.laid (t' := tk0) (a := hp.objs.size + 1) (o := exo (hp.objs.size + 1) C none) kp hsz (exo_ok ho), rfl, h _ (I.hok.fresh hsz)⟩
end
end EV

set_option maxHeartbeats 3900000
/-! repr of data; defs that are called where no repr is under way. -/
namespace RP
open PySem PySem.Spec PyProof.Rows L2
/-- a key as data -/
def kD : Key → PyData
  | .inl i => .int i
  | .inr x => .str x
mutual
/-- what the value v is, read off the tracked heap -/
inductive Dq (K : PySem.W.Frag) (H : Hp) : V → PyData → Prop
  | non : Dq K H .non .none
  | bl (b : Bool) : Dq K H (.bl b) (.bool b)
  | int (i : Int) : Dq K H (.int i) (.int i)
  | str (x : Str) : Dq K H (.str x) (.str x)
  | lst {a : Addr} {xs : List V} {ds : List PyData} : H a = some (.lst xs) → DqAll K H xs ds → Dq K H (.ref a) (.list ds)
  | tup {a : Addr} {xs : List V} {ds : List PyData} : H a = some (.tup xs) → DqAll K H xs ds → Dq K H (.ref a) (.tuple ds)
  | dct {a : Addr} {kvs : List (Key × V)} {ds : List PyData} : H a = some (.dK kvs) → DqAll K H (kvs.map (·.2)) ds → Dq K H (.ref a) (.dict ((kvs.map fun p => kD p.1).zip ds))
inductive DqAll (K : PySem.W.Frag) (H : Hp) : List V → List PyData → Prop
  | nil : DqAll K H [] []
  | cons {v : V} {vs : List V} {d : PyData} {ds : List PyData} : Dq K H v d → DqAll K H vs ds → DqAll K H (v :: vs) (d :: ds)
end
mutual
theorem Dq.up {K : PySem.W.Frag} {H H' : Hp} (e : ∀ a o, H a = some o → H' a = some o) : ∀ {v : V} {d : PyData}, Dq K H v d → Dq K H' v d
  | _, _, .non => .non
  | _, _, .bl b => .bl b
  | _, _, .int i => .int i
  | _, _, .str x => .str x
  | _, _, .lst h t => .lst (e _ _ h) (DqAll.up e t)
  | _, _, .tup h t => .tup (e _ _ h) (DqAll.up e t)
  | _, _, .dct h t => .dct (e _ _ h) (DqAll.up e t)
theorem DqAll.up {K : PySem.W.Frag} {H H' : Hp} (e : ∀ a o, H a = some o → H' a = some o) : ∀ {vs : List V} {ds : List PyData}, DqAll K H vs ds → DqAll K H' vs ds
  | _, _, .nil => .nil
  | _, _, .cons h t => .cons (Dq.up e h) (DqAll.up e t)
end
theorem DqAll.length {K : PySem.W.Frag} {H : Hp} : ∀ {vs : List V} {ds : List PyData}, DqAll K H vs ds → vs.length = ds.length
  | _, _, .nil => rfl
  | _, _, .cons _ t => congrArg Nat.succ t.length
section
variable {X : Cx} {pins : List (Addr × Obj)} {σ : L2.St} {H : Hp} {s : Shared}
/-- sys.modules is no tracked object -/
theorem not_sys (I : Inv X pins σ H s) (SM : (X.base.get? sysModules).isSome = true) {a : Addr} {o : HO} (h : H a = some o) : a ≠ sysModules := fun z => by
  obtain ⟨u, hu⟩ := Option.isSome_iff_exists.mp SM
  have := (I.bs _ _ hu).2
  rw [← z, h] at this
  cases this
theorem keys_read {P : Program} {w : World} {h : Heap} : ∀ {es : List DictEntry} {kvs : List (Key × V)} {vs : List (Key × Value)}, Pairs (mixKind P w) es vs → KV kvs vs → ReadsAll h (es.map (·.key)) (kvs.map fun p => kD p.1) []
  | _, _, _, .nil, .nil => .nil
  | _, _, _, .cons (e := e) (kv := kv) k1 _ t, .cons r q => by
    have ih := keys_read (h := h) t q
    obtain ⟨e1, _⟩ := r
    rw [List.map_cons, List.map_cons, e1]
    have k1' : keyIs kv.1 e.key = true := k1
    rcases keyIs_shape k1' with ⟨i, t, hk, hv⟩ | ⟨x, t, hk, hv⟩
    · rw [hk, hv]
      exact .cons (.int i t) ih
    · rw [hk, hv]
      exact .cons (.str x t) ih
theorem vals_read {P : Program} {w : World} : ∀ {es : List DictEntry} {kvs : List (Key × V)} {vs : List (Key × Value)}, Pairs (mixKind P w) es vs → KV kvs vs → Vals (kvs.map (·.2)) (es.map (·.val))
  | _, _, _, .nil, .nil => .nil
  | _, _, _, .cons _ k2 t, .cons r q => by
    have ih := vals_read t q
    obtain ⟨_, e2⟩ := r
    rw [List.map_cons, List.map_cons, k2]
    exact .cons e2 ih
mutual
theorem Dq.reads (I : Inv X pins σ H s) (SM : (X.base.get? sysModules).isSome = true) : ∀ {v : V} {d : PyData} {u : Value}, Dq X.K H v d → RelV v u → ∃ as, Reads s.heap u d as ∧ sysModules ∉ as
  | _, _, _, .non, r => by
    cases r
    exact ⟨_, Reads.none, by simp⟩
  | _, _, _, .bl b, r => by
    cases r
    exact ⟨_, Reads.bool b, by simp⟩
  | _, _, _, .int i, r => by
    obtain ⟨t, rfl⟩ := r
    exact ⟨_, Reads.int i t, by simp⟩
  | _, _, _, .str x, r => by
    obtain ⟨t, rfl⟩ := r
    exact ⟨_, Reads.str x t, by simp⟩
  | _, _, _, .lst (a := a) h ha, r => by
    cases r
    obtain ⟨_, its, n, rv, ho⟩ := (show ObjOk X.prog X.w H s.heap a (.lst _) from I.hok a _ h)
    obtain ⟨as, hr, hn⟩ := DqAll.reads I SM ha rv
    exact ⟨_, Reads.list ho rfl rfl hr, by
      intro z
      rcases List.mem_cons.mp z with z | z
      · exact not_sys I SM h z.symm
      · exact hn z⟩
  | _, _, _, .tup (a := a) h ha, r => by
    cases r
    obtain ⟨_, its, rv, o, ho, hc, n, hd⟩ := (show ObjOk X.prog X.w H s.heap a (.tup _) from I.hok a _ h)
    obtain ⟨as, hr, hn⟩ := DqAll.reads I SM ha rv
    exact ⟨_, Reads.tuple ho hc hd hr, hn⟩
  | _, _, _, .dct (a := a) (kvs := kvs) (ds := ds) h ha, r => by
    cases r
    obtain ⟨_, _, vs, rel, o, es, ep, ho, ex, hd, _, pr, _⟩ := (show ObjOk X.prog X.w H s.heap a (.dK kvs) from I.hok a _ h)
    obtain ⟨bs, hr, hn⟩ := DqAll.reads I SM ha (vals_read pr rel)
    have le : (kvs.map fun p => kD p.1).length = ds.length := by
      have := ha.length
      rw [List.length_map] at this ⊢
      exact this
    refine ⟨_, Reads.dict ho ex.1 hd (as := []) (bs := bs) ?_ ?_, ?_⟩
    · rw [List.map_fst_zip (by omega)]
      exact keys_read pr rel
    · rw [List.map_snd_zip (by omega)]
      exact hr
    · intro z
      rcases List.mem_cons.mp z with z | z
      · exact not_sys I SM h z.symm
      · exact hn z
theorem DqAll.reads (I : Inv X pins σ H s) (SM : (X.base.get? sysModules).isSome = true) : ∀ {vs : List V} {ds : List PyData} {us : List Value}, DqAll X.K H vs ds → Vals vs us → ∃ as, ReadsAll s.heap us ds as ∧ sysModules ∉ as
  | _, _, _, .nil, r => by
    cases r
    exact ⟨_, ReadsAll.nil, by simp⟩
  | _, _, _, .cons h t, r => by
    cases r with
    | cons r1 r2 =>
      obtain ⟨as, q1, n1⟩ := Dq.reads I SM h r1
      obtain ⟨bs, q2, n2⟩ := DqAll.reads I SM t r2
      exact ⟨_, ReadsAll.cons q1 q2, by
        intro z
        rcases List.mem_append.mp z with z | z
        · exact n1 z
        · exact n2 z⟩
end
/-- repr(x) -/
def rRep (K : PySem.W.Frag) : List V → Hp → VK → Prop := fun xs H Q => ∃ (v : V) (d : PyData), xs = [v] ∧ Dq K H v d ∧ d.showable = true ∧ d.depth ≤ 20 ∧ d.shown.length ≤ sizeLine ∧ Q (.str d.shown) H
theorem call_repr (SM : (X.base.get? sysModules).isSome = true) (hg : X.A.guards = some []) (hu : X.A.units + 64 < cLine) : CallR X (.builtin "repr") (rRep X.K) := by
  intro pins s σ H xs us Q I r h
  obtain ⟨v, d, rfl, hd, sh, dp, sz, q⟩ := h
  cases r with
  | cons rx rr =>
    cases rr
    obtain ⟨as, hr, hn⟩ := hd.reads I SM rx
    have fin : ∀ h' u tk, (∀ b o, s.heap.get? b = some o → h'.get? b = some o) → EP X pins σ Q (.str d.shown u) { s with heap := h', toks := tk } := fun h' u tk k => ⟨.str d.shown, H, I.kept (t' := tk) k, ⟨u, rfl⟩, q⟩
    cases hd with
    | non =>
      cases rx
      exact PySem.P.repr_of_none (fin s.heap _ _ fun _ _ e => e)
    | bl b =>
      cases rx
      exact PySem.P.repr_of_bool (fin s.heap _ _ fun _ _ e => e)
    | int i =>
      obtain ⟨t, rfl⟩ := rx
      exact PySem.P.repr_of_int (of_decide_eq_true sh) (fin s.heap _ _ fun _ _ e => e)
    | str x =>
      obtain ⟨t, rfl⟩ := rx
      exact PySem.P.repr_of_str (fin s.heap _ _ fun _ _ e => e) sz
    | lst h1 h2 =>
      cases rx
      exact PySem.repr_of_reads' hr sh (fun _ => hn) hg (by omega) (fun _ _ e => e) fin sz
    | tup h1 h2 =>
      cases rx
      exact PySem.repr_of_reads' hr sh (fun _ => hn) hg (by omega) (fun _ _ e => e) fin sz
    | dct h1 h2 =>
      cases rx
      exact PySem.repr_of_reads' hr sh (fun _ => hn) hg (by omega) (fun _ _ e => e) fin sz
end
/-! ### defs that are called where no repr is under way -/
structure FnG (P : Program) (w : World) (K : PySem.W.Frag) (mg : Str → Option Value) (base : Heap) (CX : CXT) (k : Nat) (f : Addr) (fd : FuncData) (ps : List Str) (sp : Sp) : Prop where
  len : ∀ vs H Q E, sp vs H Q E → vs.length = ps.length
  run : ∀ (A : Around) (outer : List Env) (s : Shared) (H : Hp) (args : Args) (us : List Value) (vs : List V) (Q : VK) (E : XK), A.guards = some [] → Room k A → Env0 P w K mg base A outer s H → BindsTo s fd args (ps.zip us) → Vals vs us → sp vs H Q E →
    codeAny (model P w) A (.call (.ref f) args) (CR CX outer P w H s Q E) s
theorem FnG.of {P : Program} {w : World} {K : PySem.W.Frag} {mg : Str → Option Value} {base : Heap} {CX : CXT} {k : Nat} {f : Addr} {fd : FuncData} {ps : List Str} {sp : Sp} (F : FnOk P w K mg base CX k f fd ps sp) : FnG P w K mg base CX k f fd ps sp :=
  ⟨F.len, fun A outer s H args us vs Q E _ hr e0 hb rv q => F.run A outer s H args us vs Q E hr e0 hb rv q⟩
theorem okG {P : Program} {w : World} {K : PySem.W.Frag} {mg : Str → Option Value} {base : Heap} {x qual : Str} {st : Stmt} {f : Addr} {fd : FuncData} {N ps : List Str} {k : Nat} {sp : Sp} (F : Fun K x qual st f fd) (S : FnScope N ps (defScope st))
    (len : ∀ vs H Q E, sp vs H Q E → vs.length = ps.length)
    (body : ∀ (cdv : Value) (A : Around) (outer : List Env) (s : Shared) (H : Hp) (vs : List V) (Q : VK) (E : XK), A.guards = some [] → Room k (A.deeper (envOfC qual (defScope st) s.heap.objs.size f cdv)) → sp vs H Q E →
      ∃ t, PSs (cxOf CX0 P w K mg base N qual (defScope st) f cdv A outer s H E).nox (defBody st) t ∧ t { nx := fun _ H' => Q .non H', rt := Q } (start N vs) H) : FnG P w K mg base CX0 (k + 1) f fd ps sp := by
  obtain ⟨oc, od, kV, doc, pm, an, cdv, ct, osl, rfl, lk, hcd⟩ := F.ex
  refine ⟨len, fun A outer s H args us vs Q E hg hr e0 hb rv q => ?_⟩
  refine LamX.run_ofS lk hcd S hr e0 hb rv (len _ _ _ _ q) fun hr' => ?_
  obtain ⟨t, h1, h2⟩ := body cdv A outer s H vs Q E hg hr' q
  exact ⟨t, h1.nox, h2⟩
section
variable {X : Cx} {CX : CXT} {k : Nat} {f : Addr} {fd : FuncData} {ps : List Str} {sp : Sp} {E : XK} {x : Str} {p pos : Pos} {e : Expr} {es : List Expr} {t : TA}
theorem pe_callG (F : FnG X.prog X.w X.K X.mg X.base CX k f fd ps sp) (hG : X.A.guards = some []) (hr : Room k X.A) (hg : Gl X x) (hm : X.mg x = some (.ref f)) (hk : PySem.W.keepIn X.K (.ref f) = true) (hb : Binds X.K fd ps []) (hx : Passes CX X E)
    (ha : PA X (e :: es) t) (hdb : (x == ("__debug__" : Str)) = false := by decide) (he : starEach (e :: es) X.env = (false, eval e X.env) :: starEach es X.env := by rfl) (hpl : (backTo pos (starEach es X.env)).any (·.1) = false := by rfl) :
    PE X (.Call (.Name x p) (e :: es) [] pos) (tCall sp [] E t) := by
  refine ⟨fun pins s σ H Q I h => ?_⟩
  refine wpAny_Call_Name_kw (ld_glob I hg hm ?_ hdb)
  refine PySem.W.callWith_K (h₀ := X.base) I.ok.mod.kin hk (thn (ha.run pos pins s σ H _ I h) fun us s1 ⟨vs, H1, I1, r, q⟩ => ⟨I1.kIn, ?_⟩) he hpl
  have q : sp vs H1 Q E := by
    have z : sp (vs ++ []) H1 Q E := q
    rw [List.append_nil] at z
    exact z
  have hl : us.length = ps.length := r.length.symm.trans (F.len _ _ _ _ q)
  have hbt := hb s1 us I1.kIn (by rw [List.append_nil]; exact hl)
  rw [List.append_nil] at hbt
  refine wpAny_call (codeAny_mono (F.run X.A X.stack s1 H1 ⟨us, []⟩ us vs Q E hG hr I1.env0 hbt r q) fun r s' hq => ?_)
  cases r with
  | error e => exact hx pins σ H1 s1 e s' I1 hq
  | ok fl =>
    cases fl with
    | ret u => exact I1.after hq
    | next => exact False.elim hq
    | brk => exact False.elim hq
    | cont => exact False.elim hq
end
end RP

set_option maxHeartbeats 3900000
/-! lambdas of one parameter and no captured name, kept as values and called later. -/
namespace LV
open PySem PySem.Spec PyProof.Rows L2 LamX
/-- at f: the lambda with this parameter y, this body and this scope, its code object at c' -/
def LamO (f c' : Addr) (q : Str) (ar : Arguments) (body : Expr) (sc : Scope) : HO := .ext fun h => ∃ pm ctv, h.get? f = some (PySem.W.kla_obj "<lambda>" q ar body sc [] pm c' ctv)
theorem lamO_ne {f c' : Addr} {q : Str} {ar : Arguments} {body : Expr} {sc : Scope} (ps : Array Value) : LamO f c' q ar body sc ≠ .tbl ps := fun z => by
  unfold LamO at z
  cases z
section
variable {X : Cx} {pins : List (Addr × Obj)} {σ : L2.St} {H : Hp} {s : Shared}
theorem lamO_ok {P : Program} {w : World} {h : Heap} {f c' : Addr} {q : Str} {ar : Arguments} {body : Expr} {sc : Scope} {pm ctv : Value} (e : h.get? f = some (PySem.W.kla_obj "<lambda>" q ar body sc [] pm c' ctv)) : ObjOk P w H h f (LamO f c' q ar body sc) :=
  ⟨⟨pm, ctv, e⟩, ⟨_, e⟩, fun _ _ ⟨p, t, z⟩ k => ⟨p, t, k _ z⟩⟩
/-- the making -/
def tLamM (P : Addr) (q : Str) (ar : Arguments) (body : Expr) (sc : Scope) : TE := fun _ H Q => TabS H P q ∧ ∀ (f c' : Addr) (H1 : Hp), ExtN H H1 → TabS H1 P q → H1 f = none → H1 c' = some (CodeO c' q) → Q (.ref f) (upd H1 f (LamO f c' q ar body sc))
theorem clo_nil {env : Env} {sc : Scope} (hs : ∀ y ∈ sc.names, y.2 ≠ .free) : cloFrom env.cells sc.names [] = [] := by
  have key : ∀ (l : List (Str × NameKind)) (acc : List (Str × Addr)), (∀ y ∈ l, y.2 ≠ .free) → cloFrom env.cells l acc = acc := by
    intro l
    induction l with
    | nil =>
      intro acc _
      rfl
    | cons y r ih =>
      intro acc hl
      obtain ⟨n, k⟩ := y
      have h1 : k ≠ .free := hl (n, k) List.mem_cons_self
      have h2 := ih acc fun z hz => hl z (List.mem_cons_of_mem _ hz)
      cases k <;> first | exact absurd rfl h1 | exact h2
  exact key _ _ hs
/-- a further row of the table: the code object at n is new -/
theorem tab_grows {Tb n : Addr} {q : Str} {row : Array Value} {at_ : Pos} {hh : Heap} {tk : Nat} (J : Inv X pins σ H s) (h : H Tb = some (.tbl row)) (ok : TriplesOk row.toList) (all : ∀ (p : Pos) (v : Value), codeAmong p row.toList = some v → ∃ m, v = .ref m ∧ H m = some (CodeO m q))
    (up : ∀ b o, b ≠ Tb → s.heap.get? b = some o → hh.get? b = some o) (new : hh.get? Tb = some { cls := .none, data := .fields (row ++ #[rawInt at_.line, rawInt at_.col, .ref n]) }) (big : s.heap.objs.size ≤ n)
    (co : ∃ (o : Obj) (fs : Array Value) (t : Tok), hh.get? n = some o ∧ o.data = .fields fs ∧ fs[1]? = some (.str q t)) :
    ∃ H1, Inv X pins σ H1 { s with heap := hh, toks := tk } ∧ ExtN H H1 ∧ TabS H1 Tb q ∧ H1 n = some (CodeO n q) := by
  have fresh : H n = none := J.hok.fresh big
  have dist : Tb ≠ n := ne_of_none h fresh
  have stay : ExtN H (upd (upd H Tb (.tbl (row ++ #[rawInt at_.line, rawInt at_.col, .ref n]))) n (CodeO n q)) := by
    intro b o e no
    have b1 : b ≠ n := ne_of_none e fresh
    have b2 : b ≠ Tb := by
      rintro rfl
      exact no row (Option.some.inj (e.symm.trans h))
    rw [upd_ne b1, upd_ne b2]
    exact e
  have lst : (row ++ #[rawInt at_.line, rawInt at_.col, Value.ref n]).toList = row.toList ++ [rawInt at_.line, rawInt at_.col, .ref n] := by
    simp
  refine ⟨_, inv_table (t' := tk) J h up new big co, stay, ⟨_, (upd_ne dist).trans upd_same, ?_, ?_⟩, upd_same⟩
  · rw [lst]
    exact PySem.TriplesOk_snoc _ _ _ _ ok
  · intro p v hv
    rw [lst] at hv
    cases among_app _ ok hv with
    | inl z =>
      obtain ⟨m, rfl, hm⟩ := all p v z
      exact ⟨m, rfl, stay _ _ hm codeO_ne⟩
    | inr z => exact ⟨n, z, upd_same⟩
/-- the function object itself, laid last -/
theorem lam_last {P : Program} {w : World} {H1 : Hp} {g : Heap} {c' : Addr} {q : Str} {ar : Arguments} {body : Expr} {sc : Scope} {pm ctv : Value} :
    ObjOk P w H1 (g.push (PySem.W.kla_obj "<lambda>" q ar body sc [] pm c' ctv)) g.objs.size (LamO g.objs.size c' q ar body sc) := lamO_ok (Heap.get?_push_size g rfl)
theorem pe_lam {c Tb : Addr} {ar : Arguments} {body : Expr} {sc : Scope} {pos : Pos} (TB : TabB X.base X.mg c Tb) (hcode : X.env.code = .ref c) (hs : ∀ y ∈ sc.names, y.2 ≠ .free) (hdef : defaultsOf ar X.env = ([], [])) :
    PE X (.Lambda ar body sc pos) (tLamM Tb (X.env.qual ++ "<lambda>") ar body sc) := by
  constructor
  rintro pins s σ H Q J ⟨⟨row, h, ok, all⟩, k⟩
  have none_free : closureFor sc X.env = pure [] := by
    rw [← clo_nil (env := X.env) hs]
    exact closure_ok fun y hy e => absurd e (hs y hy)
  have obj : s.heap.get? Tb = some { cls := .none, data := .fields row } := J.hok Tb _ h
  have gl := J.mod.glob.keeps J.bk
  have hd := TB.code.keeps J.bk
  have bl := TB.bm.keeps J.bk
  apply PySem.W.kla_eval hdef
  cases found : codeAmong pos row.toList with
  | none =>
    apply PySem.W.kla_makeFunction none_free J.ok.glob gl hcode hd obj ok found TB.gP bl
    rintro c' ctv g tk up ge lt ⟨c2, o, fs, t, e2, ho, hd2, hv⟩ tb
    cases e2
    obtain ⟨H1, J1, E, T, hc⟩ := tab_grows (tk := tk) J h ok all up tb ge ⟨o, fs, t, ho, hd2, hv⟩
    have J2 := J1.laid (t' := tk) (a := g.objs.size) (o := LamO g.objs.size c' (X.env.qual ++ "<lambda>") ar body sc) (fun b o z => Heap.get?_push_of_some (PySem.W.kla_obj "<lambda>" (X.env.qual ++ "<lambda>") ar body sc [] ((X.mg "__name__").getD .none) c' ctv) z) (Nat.le_refl _) lam_last
    exact ⟨.ref g.objs.size, _, J2, rfl, k _ c' H1 E T (J1.hok.fresh (Nat.le_refl _)) hc⟩
  | some cv =>
    obtain ⟨c', rfl, hc⟩ := all pos cv found
    apply PySem.W.kla_makeFunctionHit none_free J.ok.glob gl hcode hd obj ok found bl
    intro ctv g tk up ge
    have J2 := J.laid (t' := tk) (a := g.objs.size) (o := LamO g.objs.size c' (X.env.qual ++ "<lambda>") ar body sc) (fun b o z => Heap.get?_push_of_some (PySem.W.kla_obj "<lambda>" (X.env.qual ++ "<lambda>") ar body sc [] ((X.mg "__name__").getD .none) c' ctv) (up b o z)) ge lam_last
    exact ⟨.ref g.objs.size, _, J2, rfl, k _ c' H (ExtN.refl H) ⟨row, h, ok, all⟩ (J.hok.fresh ge) hc⟩
abbrev arOf (y : Str) (p : Pos) : Arguments := { posonlyargs := [], args := [{ arg := y, annotation := none, pos := p }], vararg := none, kwonlyargs := [], kw_defaults := [], kwarg := none, defaults := [] }
abbrev scOf (y : Str) : Scope := { kind := .function, names := [(y, .local)], isGenerator := false, isCoroutine := false, more := [] }
theorem scOf_ok (y : Str) : FnScope [y] [y] (scOf y) := ⟨rfl, rfl, rfl, by simp, rfl, fun x hx => by
  obtain rfl := List.mem_singleton.mp hx
  exact .inl (by simp [List.lookup]), fun z hz => by
  obtain rfl := List.mem_singleton.mp hz
  simp⟩
/-- at f: a lambda y: y.fld -/
def IsFld (H : Hp) (q : Str) (f : Addr) (y fld : Str) : Prop := ∃ (c' : Addr) (p1 p2 p3 : Pos), H f = some (LamO f c' q (arOf y p1) (.Attribute (.Name y p2) fld p3) (scOf y)) ∧ H c' = some (CodeO c' q)
theorem IsFld.up {H H' : Hp} {q : Str} {f : Addr} {y fld : Str} (x : IsFld H q f y fld) (e : ExtN H H') : IsFld H' q f y fld := by
  obtain ⟨c', p1, p2, p3, h1, h2⟩ := x
  exact ⟨c', p1, p2, p3, e _ _ h1 lamO_ne, e _ _ h2 codeO_ne⟩
theorem isFld_new {H : Hp} {q : Str} {f c' : Addr} {y fld : Str} {p1 p2 p3 : Pos} (hf : H f = none) (h : H c' = some (CodeO c' q)) : IsFld (upd H f (LamO f c' q (arOf y p1) (.Attribute (.Name y p2) fld p3) (scOf y))) q f y fld :=
  ⟨c', p1, p2, p3, upd_same, by rw [upd_ne (ne_of_none h hf)]; exact h⟩
/-- its call, it stands in slot i -/
def tLamC (K : PySem.W.Frag) (q y : Str) (i : Nat) (te : TE) : TE := fun σ H Q => ∃ (f : Addr) (fld : Str), σ[i]? = some (some (.ref f)) ∧ IsFld H q f y fld ∧ te σ H fun v H1 => IsFld H1 q f y fld ∧ EV.tFldX K fld (tC v) [] H1 Q
theorem fnAt_of (I : Inv X pins σ H s) {q : Str} {f : Addr} {y fld : Str} (x : IsFld H q f y fld) : PySem.W.FnAt f s.heap := by
  obtain ⟨c', p1, p2, p3, h1, h2⟩ := x
  obtain ⟨⟨pm, ctv, e⟩, _⟩ := I.hok f _ h1
  exact ⟨_, _, _, _, e⟩
theorem pe_lamC {q y x : Str} {i k : Nat} {e : Expr} {te : TE} {p pos : Pos} (hr : Room (k + 1) X.A) (hbind : ∀ (p1 p2 p3 : Pos) (fld : Str) (pm cv ctv u : Value), bindArgs (PySem.W.kla_fn "<lambda>" q (arOf y p1) (.Attribute (.Name y p2) fld p3) (scOf y) [] pm cv ctv) ⟨[u], []⟩ = pure [(y, u)]) (he : PE X e te) (hN : X.N[i]? = some x) (hv : Vis X.env.scope x) (hy : (y == ("__debug__" : Str)) = false := by decide) (hy2 : (y == ("__classdict__" : Str)) = false := by decide) (hd : (x == ("__debug__" : Str)) = false := by decide)
    (hcd : (x == ("__classdict__" : Str)) = false := by decide) (hst : starEach [e] X.env = (false, eval e X.env) :: starEach [] X.env := by rfl) : PE X (.Call (.Name x p) [e] [] pos) (tLamC X.K q y i te) := by
  refine ⟨fun pins s σ H Q I h => ?_⟩
  obtain ⟨f, fld, h1, h2, h3⟩ := h
  refine wpAny_Call_Name_kw (thn ((pe_var (pos := p) (i := i) hN hv hd hcd).run pins s σ H (fun v H1 => v = .ref f ∧ H1 = H) I ⟨.ref f, h1, rfl, rfl⟩) fun u s1 ⟨v, H1, I1, r1, q1⟩ => ?_)
  obtain ⟨ev, eH⟩ := q1
  subst ev
  rw [eH] at I1
  obtain rfl : u = Value.ref f := r1
  refine PySem.W.callWith_F (fnAt_of I1 h2) ?_ hst (by rfl)
  rw [hst]
  show wpAny _ _ (spliced ((false, eval e X.env) :: backTo pos (starEach [] X.env))) _ _ s1
  refine Calls.spliced_cons (thn (he.run pins s1 σ H _ I1 h3) fun u2 s2 ⟨v, H2, I2, r2, q2, q3⟩ => Calls.spliced_nil ⟨fnAt_of I2 q2, ?_⟩)
  obtain ⟨c', p1, p2, p3, hf, hc⟩ := q2
  obtain ⟨⟨pm, ctv, ef⟩, _⟩ := I2.hok f _ hf
  obtain ⟨⟨oc, vs, t, hoc, hdc, hvc⟩, _⟩ := I2.hok c' _ hc
  have rc : codeAny (model X.prog X.w) X.A (.call (.ref f) ⟨[u2], []⟩) (CR CX0 X.stack X.prog X.w H2 s2 Q E0) s2 := by
    refine PySem.W.kla_callFunE hr.depth ef rfl rfl rfl rfl ⟨c', oc, vs, t, rfl, hoc, hdc, hvc⟩ ?_
    refine wpAny_of_eq (a := [(y, u2)]) (hbind p1 p2 p3 fld pm (.ref c') ctv u2) ?_
    refine wpAny_newFunctionEnv_cells rfl (fun z hz => ?_) fun env he s3 x => ?_
    · obtain rfl := List.mem_singleton.mp hz
      exact .inl (by simp [List.lookup])
    subst he
    refine ⟨I2.nolimit.keeps x.toInCall.keep, ?_⟩
    have I3 : Inv (cxOf CX0 X.prog X.w X.K X.mg X.base [y] q (scOf y) f (.ref c') X.A X.stack s2 H2 E0) [] (start [y] [v]) H2 s3 := inv_start (scOf_ok y) hr.hd I2.env0 rfl (.cons r2 .nil) x
    refine PySem.W.kla_codeExpr (wpAny_mono ((EV.pe_fldX (X := cxOf CX0 X.prog X.w X.K X.mg X.base [y] q (scOf y) f (.ref c') X.A X.stack s2 H2 E0) (te := tVar 0) (pv 0 (X := cxOf CX0 X.prog X.w X.K X.mg X.base [y] q (scOf y) f (.ref c') X.A X.stack s2 H2 E0) rfl (.inl (by simp [cxOf, envOfC, List.lookup])) hy hy2)).run [] s3 _ H2 Q I3 ?_) (fun w' s' hq => ?_) fun e' s' hq => hq)
    · exact ⟨v, rfl, q3⟩
    · obtain ⟨w2, H', J', rv, z⟩ := hq
      exact ⟨w2, H', J'.os, J'.bare, J'.base, J'.hok, rv, z⟩
  refine wpAny_call (codeAny_mono rc fun r s' hq => ?_)
  cases r with
  | error e => exact (show False from hq).elim
  | ok fl =>
    cases fl with
    | ret u => exact I2.after hq
    | next => exact False.elim hq
    | brk => exact False.elim hq
    | cont => exact False.elim hq
end
end LV

set_option maxHeartbeats 3900000
/-! The end of a law whose defs are called where no repr is under way; tables of code objects. -/
namespace EG
open PySem PySem.Spec PyProof.Rows L2 LamX RP
section
variable {P : Program} {w : World} {K : PySem.W.Frag} {tabs : List Addr} {a : Addr} {ob : Obj} {xs : List V}
/-- tracked at the start: the empty tables, and the script where the written part does not hold it -/
def track (K : PySem.W.Frag) (tabs : List Addr) (a : Addr) (ob : Obj) (xs : List V) : Hp := fun b =>
  if b ∈ tabs then some (.tbl #[]) else if b = a ∧ K.lookup a = none then some (.frz ob (.lst xs)) else none
theorem track_cases (b : Addr) : (b ∈ tabs ∧ track K tabs a ob xs b = some (.tbl #[])) ∨ (b ∉ tabs ∧ b = a ∧ K.lookup a = none ∧ track K tabs a ob xs b = some (.frz ob (.lst xs))) ∨
    (b ∉ tabs ∧ (b = a → K.lookup a ≠ none) ∧ track K tabs a ob xs b = none) := by
  unfold track
  by_cases h1 : b ∈ tabs
  · exact .inl ⟨h1, if_pos h1⟩
  · by_cases h2 : b = a ∧ K.lookup a = none
    · exact .inr (.inl ⟨h1, h2.1, h2.2, by rw [if_neg h1, if_pos h2]⟩)
    · exact .inr (.inr ⟨h1, fun e z => h2 ⟨e, z⟩, by rw [if_neg h1, if_neg h2]⟩)
end
theorem end_call {P : Program} {w : World} {K : PySem.W.Frag} {mg mb : Str → Option Value} {k : Nat} {fa a : Addr} {cs : List (Addr × Addr)} {fd : FuncData} {x : Str} {sp : Sp} {s : Shared} {us : List Value} {ns : List Int}
    (kin : K.In s.heap) (gn : s.heap.Ns mainGlobals mg) (bn : s.heap.Ns builtinsNs mb) (bb : ∀ y : Str, y ≠ "__name__" → mb y = bootBuiltins y) (nl : s.heap.NoLimit) (ng : s.gens = #[])
    (tE : ∀ p ∈ cs, s.heap.get? p.2 = some { cls := .none, data := .fields #[] }) (tK : ∀ p ∈ cs, K.lookup p.2 = none) (tC : ∀ p ∈ cs, PySem.W.CodeHd s.heap p.1 p.2)
    (sys : ∃ (o : Obj) (es : Array DictEntry) (n : Nat), s.heap.get? sysModules = some o ∧ o.data = .dict es n)
    (mod : ∃ (m : Addr) (o : Obj), mg "__builtins__" = some (.ref m) ∧ m ≠ builtinsNs ∧ s.heap.get? m = some o ∧ o.cls = .type "module" ∧ o.dict = some builtinsNs ∧ o.data = .plain)
    (ia : s.heap.get? a = some { cls := .type "list", data := .seq us.toArray }) (ii : IntsAre us ns) (il : ns.length ≤ sizeLine) (room : Room k callerA)
    (F : ∀ base : Heap, K.In base → base.Ns mainGlobals mg → (∀ p ∈ cs, TabB base mg p.1 p.2) → (base.get? sysModules).isSome = true → FnG P w K mg base CX0 k fa fd [x] sp) (hb : ∀ (t : Shared) (u : Value), BindsTo t fd ⟨[u], []⟩ [(x, u)])
    (hsp : ∀ H : Hp, (∀ p ∈ cs, H p.2 = some (.tbl #[])) → SqL K H a (ns.map V.int) → sp [.ref a] H (fun v _ => v = .bl true) fun _ _ _ => False) :
    codeAny (model P w) callerA (.call (.ref fa) ⟨[.ref a], []⟩) (fun r t => r = .ok (.ret (.bool true)) ∧ OldK s.heap t.heap ∧ t.os = s.os ∧ AllBare t.gens) s := by
  have rv := vals_ints ii
  have tE' : ∀ b ∈ cs.map (·.2), s.heap.get? b = some { cls := .none, data := .fields #[] } := fun b hb => by
    obtain ⟨p, hp, rfl⟩ := List.mem_map.mp hb
    exact tE p hp
  generalize hob : ({ cls := .type "list", data := .seq us.toArray } : Obj) = ob at ia
  have na : a ∉ cs.map (·.2) := fun z => by
    have q := (tE' a z).symm.trans ia
    rw [← hob] at q
    cases q
  generalize hH : track K (cs.map (·.2)) a ob (ns.map V.int) = H
  have tc := fun b => track_cases (K := K) (tabs := cs.map (·.2)) (a := a) (ob := ob) (xs := ns.map V.int) b
  rw [hH] at tc
  -- what the heap holds is as tracked
  have ok : HOk P w H s.heap := fun b o e => by
    rcases tc b with ⟨h1, h2⟩ | ⟨h1, h2, h3, h4⟩ | ⟨_, _, h4⟩
    · rw [h2] at e
      cases e
      exact tE' b h1
    · rw [h4] at e
      cases e
      subst h2
      exact ⟨ia, by rw [List.length_map]; exact il, us, _, rv, ia.trans (congrArg some hob.symm)⟩
    · rw [h4] at e
      cases e
  -- other objects are not tracked
  have free : ∀ {b : Addr} {o : Obj}, s.heap.get? b = some o → o ≠ ob → o.data ≠ .fields #[] → H b = none := fun {b o} e d1 d2 => by
    rcases tc b with ⟨h1, _⟩ | ⟨_, h2, _, _⟩ | ⟨_, _, h4⟩
    · rw [tE' b h1] at e
      cases e
      exact (d2 rfl).elim
    · rw [h2, ia] at e
      exact (d1 (Option.some.inj e).symm).elim
    · exact h4
  have down : ∀ {b : Addr} {o : Obj}, s.heap.get? b = some o → o ≠ ob → o.data ≠ .fields #[] → (hidT s.heap H).get? b = some o := fun e d1 d2 => hidT_get e (free e d1 d2)
  have dict : ∀ {b : Addr} {m : Str → Option Value}, s.heap.Ns b m → (hidT s.heap H).Ns b m := fun {b m} ⟨o, es, ep, e, d, r⟩ =>
    ⟨o, es, ep, down e (fun z => by rw [z, ← hob] at d; cases d) (fun z => by rw [d] at z; cases z), d, r⟩
  have kB : K.In (hidT s.heap H) := fun b o e => hidT_get (kin b o e) (by
    rcases tc b with ⟨h1, _⟩ | ⟨_, h2, h3, _⟩ | ⟨_, _, h4⟩
    · obtain ⟨p, hp, rfl⟩ := List.mem_map.mp h1
      rw [tK p hp] at e
      cases e
    · rw [h2, h3] at e
      cases e
    · exact h4)
  have tabB : ∀ p ∈ cs, TabB (hidT s.heap H) mg p.1 p.2 := fun p hp => by
    obtain ⟨m, o, m1, m2, m3, m4, m5, m6⟩ := mod
    have dm : m ≠ mainGlobals := fun z => by
      obtain ⟨o', es, ep, e, d, _⟩ := gn
      rw [z, e] at m3
      cases m3
      rw [d] at m6
      cases m6
    have dp : m ≠ p.2 := fun z => by
      rw [z, tE p hp] at m3
      cases m3
      cases m6
    obtain ⟨oc, vs, file, tf, fl, tg, inF, tx, tt, c1, c2, c3, c4, cr⟩ := tC p hp
    have cne : oc ≠ ob := fun z => by
      rw [z, ← hob] at c3
      cases c3
    have cnf : oc.data ≠ .fields #[] := fun z => by
      rw [c3] at z
      cases z
      simp at c4
    have mne : o ≠ ob := fun z => by
      rw [z, ← hob] at m6
      cases m6
    have mnf : o.data ≠ .fields #[] := fun z => by
      rw [m6] at z
      cases z
    refine ⟨⟨oc, vs, file, tf, fl, tg, inF, tx, tt, down c1 cne cnf, c2, c3, c4, cr⟩, ⟨m, o, m1, m2, dm, dp, down m3 mne mnf, m4, m5, m6⟩, fun z => ?_⟩
    obtain ⟨o', es, ep, e, d, _⟩ := gn
    rw [z, tE p hp] at e
    cases e
    cases d
  have sysB : ((hidT s.heap H).get? sysModules).isSome = true := by
    obtain ⟨o, es, n, h1, h2⟩ := sys
    have q := down h1 (fun z => by rw [z, ← hob] at h2; cases h2) (fun z => by rw [h2] at z; cases z)
    rw [q]
    rfl
  have e0 : Env0 P w K mg (hidT s.heap H) callerA [] s H :=
    ⟨rfl, ⟨kB, dict gn, ⟨mb, dict bn, bb⟩, let ⟨mc, l1, l2⟩ := nl; ⟨mc, dict l1, l2⟩⟩, fun b o e => of_hidT e, Nat.le_of_eq (hidT_size _ _), trivial, fun b z => absurd (show b ∈ ([] : List Addr) from z) (by simp), ok, .of_eq ng⟩
  have seq : SqL K H a (ns.map V.int) := by
    rcases tc a with ⟨h1, _⟩ | ⟨_, _, _, h4⟩ | ⟨_, h3, _⟩
    · exact (na h1).elim
    · exact .inl (.inr ⟨ob, h4⟩)
    · cases q : K.lookup a with
      | none => exact (h3 rfl q).elim
      | some o =>
        have z := kin a o q
        rw [ia] at z
        cases z
        rw [← hob] at q
        exact .inr ⟨_, us.toArray, _, q, rfl, rfl, rfl, by rw [List.size_toArray, ii.length]; exact il, by simpa using rv⟩
  have tabs : ∀ p ∈ cs, H p.2 = some (.tbl #[]) := fun p hp => by
    have hm : p.2 ∈ cs.map (·.2) := List.mem_map.mpr ⟨p, hp, rfl⟩
    rcases tc p.2 with ⟨_, h2⟩ | ⟨h1, _⟩ | ⟨h1, _⟩
    · exact h2
    · exact (h1 hm).elim
    · exact (h1 hm).elim
  refine codeAny_mono ((F _ kB (dict gn) tabB sysB).run callerA [] s H ⟨[.ref a], []⟩ [.ref a] [.ref a] _ _ rfl room e0 (hb s (.ref a)) (.cons rfl .nil) (hsp H tabs seq)) fun r t h => ?_
  cases r with
  | error e => exact (show False from h).elim
  | ok fl =>
    cases fl with
    | next => exact False.elim h
    | brk => exact False.elim h
    | cont => exact False.elim h
    | ret u =>
      obtain ⟨v, H', os, bare, un, ok', r', q⟩ := h
      have q' : v = .bl true := q
      subst q'
      obtain rfl : u = Value.bool true := r'
      have old : ∀ b o, b ∉ cs.map (·.2) → s.heap.get? b = some o → t.heap.get? b = some o := fun b o nb e => by
        rcases tc b with ⟨h1, _⟩ | ⟨_, h2, h3, h4⟩ | ⟨_, _, h4⟩
        · exact (nb h1).elim
        · have z := un.frzs b _ _ h4
          obtain ⟨e2, _⟩ := ok' b _ z
          rw [h2, ia] at e
          cases e
          exact e2
        · exact un.keep b o e h4 (fun z => absurd (show b ∈ ([] : List Addr) from z) (by simp)) (by simp)
      have more : ∀ p ∈ cs, ∃ m : Array Value, t.heap.get? p.2 = some { cls := .none, data := .fields m } := fun p hp => by
        obtain ⟨m, z⟩ := un.tbls p.2 #[] (tabs p hp)
        exact ⟨_, ok' p.2 _ z⟩
      refine ⟨rfl, ⟨fun b o e => ?_, fun b o e => ?_⟩, os, bare⟩
      · by_cases z : b ∈ cs.map (·.2)
        · obtain ⟨p, hp, rfl⟩ := List.mem_map.mp z
          obtain ⟨m, hm⟩ := more p hp
          rw [tE p hp] at e
          cases e
          exact .inr (.inl ⟨((tC p hp).tab (tE p hp)).isCodeTable, rfl, #[], m, rfl, by rw [Array.empty_append]; exact hm⟩)
        · exact .inl (old b o z e)
      · by_cases z : b ∈ cs.map (·.2)
        · obtain ⟨p, hp, rfl⟩ := List.mem_map.mp z
          obtain ⟨m, hm⟩ := more p hp
          exact ⟨_, hm⟩
        · exact ⟨o, old b o z e⟩
/-- a law: F gives the written part, the tables, the function object, the promise over every base -/
theorem walkG {l : PySem.W.OpenLaw} {n k : Nat} {q : Program} {loose : List Str} {XP : (Str → Option Value) → Heap → Prop} {YP : World → Heap → Prop} {d : DefRec} {x : Str}
    (hn : l.most = some n) (hn2 : n ≤ sizeLine) (hdf : d.params.defaults = []) (room : Room k callerA)
    (F : ∀ (w : World) (mg : Str → Option Value) (fa : Addr) (h : Heap), YP w h → h.Ns mainGlobals mg → mg d.name = some (.ref fa) →
      ∃ (K : PySem.W.Frag) (cs : List (Addr × Addr)) (fd : FuncData) (sp : Sp), K.In h ∧ (∀ p ∈ cs, h.get? p.2 = some { cls := .none, data := .fields #[] }) ∧ (∀ p ∈ cs, K.lookup p.2 = none) ∧ (∀ p ∈ cs, PySem.W.CodeHd h p.1 p.2) ∧ (∃ (o : Obj) (es : Array DictEntry) (n : Nat), h.get? sysModules = some o ∧ o.data = .dict es n) ∧
        (∀ (s : Shared) (u : Value), BindsTo s fd ⟨[u], []⟩ [(x, u)]) ∧
        (∀ (H : Hp) (a : Addr) (ns : List Int), ns.length ≤ n → (∀ z ∈ ns, Builtin.Int.intBits z ≤ 1048576) → (∀ p ∈ cs, H p.2 = some (.tbl #[])) → SqL K H a (ns.map V.int) → sp [.ref a] H (fun v _ => v = .bl true) fun _ _ _ => False) ∧
        ∀ base : Heap, K.In base → base.Ns mainGlobals mg → (∀ p ∈ cs, TabB base mg p.1 p.2) → (base.get? sysModules).isSome = true → FnG l.prog w K mg base CX0 k fa fd [x] sp) :
    PySem.W.WalkO q loose XP YP l.row.toRowW d [] (fun f vs => PySem.call f vs) := by
  refine Att.attach_callB hn hdf fun w s₀ s mg mb fa o pm cd doc a vs ns G Y ho hd hcd hmg hobj hints hlen hbits hg => ?_
  obtain ⟨K, cs, fd, sp, KX, h1, h2, h3, h4, hb, hsp, hF⟩ := F w mg fa _ Y G.T.g hmg
  exact end_call KX G.T.g G.T.b G.T.builtins G.T.nolimit hg h1 h2 h3 h4 G.T.bmain hobj hints (Nat.le_trans hlen hn2) room hF hb fun H => hsp H a ns hlen hbits
end EG

set_option maxHeartbeats 3900000
namespace K1
open PySem PySem.Spec PyProof.Rows L2 EV RP LV LamX
open C8 (pss_cut tCut)
abbrev sPick : Stmt := top 25
abbrev sSame : Stmt := top 26
abbrev sThing : Stmt := top 27
/-! what is drawn -/
inductive Thing (H : Hp) : V → PyData → Prop
  | int (i : Int) (h : i = 0 ∨ i = -1 ∨ i = 9 ∨ i = 100000000000000000000000000000) : Thing H (.int i) (.int i)
  | tru : Thing H (.bl true) (.bool true)
  | str (z : Str) (h : (reprText z).length ≤ 52) : Thing H (.str z) (.str z)
  | non : Thing H .non .none
  | tup {p : Addr} : H p = some (.tup [.int 1, .str "a"]) → Thing H (.ref p) (.tuple [.int 1, .str "a"])
  | lst {p q : Addr} : H p = some (.lst [.str "x", .ref q]) → H q = some (.tup []) → Thing H (.ref p) (.list [.str "x", .tuple []])
  | dct {p : Addr} : H p = some (.dK [(.inr "a", .non)]) → Thing H (.ref p) (.dict [(.str "a", .none)])
theorem Thing.up {H H' : Hp} {v : V} {d : PyData} (x : Thing H v d) (e : ExtN H H') : Thing H' v d := by
  cases x with
  | int i h => exact .int i h
  | tru => exact .tru
  | str z h => exact .str z h
  | non => exact .non
  | tup h => exact .tup (e _ _ h fun _ z => by cases z)
  | lst h h2 => exact .lst (e _ _ h fun _ z => by cases z) (e _ _ h2 fun _ z => by cases z)
  | dct h => exact .dct (e _ _ h fun _ z => by cases z)
theorem Thing.dq {K : PySem.W.Frag} {H : Hp} {v : V} {d : PyData} (x : Thing H v d) : Dq K H v d := by
  cases x with
  | int i h => exact .int i
  | tru => exact .bl true
  | str z h => exact .str z
  | non => exact .non
  | tup h => exact .tup h (.cons (.int 1) (.cons (.str "a") .nil))
  | lst h h2 => exact .lst h (.cons (.str "x") (.cons (.tup h2 .nil) .nil))
  | dct h => exact .dct h (.cons .non .nil)
/-- fit to be shown -/
def Fit (d : PyData) : Prop := d.showable = true ∧ d.depth ≤ 5 ∧ d.shown.length ≤ 200
theorem Thing.fit {H : Hp} {v : V} {d : PyData} (x : Thing H v d) : Fit d := by
  cases x with
  | int i h =>
    rcases h with rfl | rfl | rfl | rfl
    · exact ⟨by decide +kernel, by decide +kernel, by decide +kernel⟩
    · exact ⟨by decide +kernel, by decide +kernel, by decide +kernel⟩
    · exact ⟨by decide +kernel, by decide +kernel, by decide +kernel⟩
    · exact ⟨by decide +kernel, by decide +kernel, by decide +kernel⟩
  | tru => exact ⟨rfl, by decide +kernel, by decide +kernel⟩
  | str z h => exact ⟨rfl, by show (0 : Nat) ≤ 5; decide, by show (reprText z).length ≤ 200; omega⟩
  | non => exact ⟨rfl, by decide +kernel, by decide +kernel⟩
  | tup h => exact ⟨by decide +kernel, by decide +kernel, by decide +kernel⟩
  | lst h h2 => exact ⟨by decide +kernel, by decide +kernel, by decide +kernel⟩
  | dct h => exact ⟨by decide +kernel, by decide +kernel, by decide +kernel⟩
theorem Thing.but {H H' : Hp} {st l : Addr} {c : Nat} {v : V} {d : PyData} (x : Thing H v d) (S : Strm H st l c) (b : But st l H H') : Thing H' v d := by
  obtain ⟨ns, a, m, ⟨h1, h2⟩, _⟩ := S.ex
  cases x with
  | int i h => exact .int i h
  | tru => exact .tru
  | str z h => exact .str z h
  | non => exact .non
  | tup h => exact .tup (b _ _ h (ne_of h h1 (by intro z; cases z)) (ne_of h h2 (by intro z; cases z)))
  | @lst p q h h3 =>
    refine .lst (b _ _ h (ne_of h h1 (by intro z; cases z)) (ne_of h h2 fun z => ?_)) (b _ _ h3 (ne_of h3 h1 (by intro z; cases z)) (ne_of h3 h2 (by intro z; cases z)))
    have z2 : [V.str "x", V.ref q] = ns.map V.int := HO.lst.inj z
    cases ns with
    | nil => cases z2
    | cons n r =>
      rw [List.map_cons] at z2
      have := (List.cons.inj z2).1
      cases this
  | dct h => exact .dct (b _ _ h (ne_of h h1 (by intro z; cases z)) (ne_of h h2 (by intro z; cases z)))

/-- what the small defs lean on -/
structure TA1 (K : PySem.W.Frag) (mg : Str → Option Value) (base : Heap) (fD : Addr) (fdD : FuncData) : Prop where
  int : mg "int" = none
  len : mg "len" = none
  repr : mg "repr" = none
  range : mg "range" = none
  sm : (base.get? sysModules).isSome = true
  mD : mg "_law_draw" = some (.ref fD)
  kD : PySem.W.keepIn K (.ref fD) = true
  bD : L2.Binds K fdD ["_law_stream", "_law_many"] []
def spPickL : Sp := fun vs H Q _ => ∃ (st l : Addr) (c : Nat) (p : Addr) (xs : List V), vs = [.ref st, .ref p] ∧ Strm H st l c ∧ c ≤ 1000000 ∧ H p = some (.lst xs) ∧ p ≠ st ∧ p ≠ l ∧ 0 < xs.length ∧ xs.length < 1000 ∧
  ∀ (i : Nat) (x : V) (H' : Hp), xs[i]? = some x → But st l H H' → Strm H' st l (c + 1) → Q x H'
def spPickS : Sp := fun vs H Q _ => ∃ (st l : Addr) (c : Nat) (z : Str), vs = [.ref st, .str z] ∧ Strm H st l c ∧ c ≤ 1000000 ∧ 0 < z.length ∧ z.length < 1000 ∧
  ∀ (ch : Nat) (H' : Hp), ch ∈ z.cps.toList → But st l H H' → Strm H' st l (c + 1) → Q (.str ⟨#[ch]⟩) H'
def spPick : Sp := fun vs H Q E => spPickL vs H Q E ∨ spPickS vs H Q E
section
variable {P : Program} {w : World} {K : PySem.W.Frag} {mg : Str → Option Value} {base : Heap} {fD : Addr} {fdD : FuncData}
theorem at_int {α : Type} {xs : List α} {d : Int} (d0 : 0 ≤ d) (d1 : d < xs.length) : ∃ (i : Nat) (x : α), xs[i]? = some x ∧ atI xs d = some x := by
  obtain ⟨n, rfl⟩ := Int.eq_ofNat_of_zero_le d0
  have hlt : n < xs.length := by omega
  exact ⟨n, xs[n], List.getElem?_eq_getElem hlt, atI_nat (List.getElem?_eq_getElem hlt)⟩
theorem But.trans {st l : Addr} {H H1 H2 : Hp} (a : But st l H H1) (b : But st l H1 H2) : But st l H H2 := fun c o h n1 n2 => b c o (a c o h n1 n2) n1 n2
theorem But.same {st l : Addr} {H H1 : Hp} (a : Same H H1) : But st l H H1 := fun c o h _ _ => a c o h
theorem Strm.up {H H' : Hp} {st l : Addr} {c : Nat} (S : Strm H st l c) (e : Same H H') : Strm H' st l c := by
  obtain ⟨ns, a, m, ⟨h1, h2⟩, r⟩ := S.ex
  exact ⟨ns, a, m, ⟨e _ _ h1, e _ _ h2⟩, r⟩
theorem same_new {H : Hp} {p : Addr} {o : HO} (h : H p = none) : Same H (upd H p o) := fun a u e => by
  rw [upd_ne (ne_of_none e h)]
  exact e
theorem Strm.ne_new {H : Hp} {st l p : Addr} {c : Nat} (S : Strm H st l c) (h : H p = none) : p ≠ st ∧ p ≠ l := by
  obtain ⟨ns, a, m, ⟨h1, h2⟩, r⟩ := S.ex
  exact ⟨(ne_of_none h1 h).symm, (ne_of_none h2 h).symm⟩
theorem But.put {st l p : Addr} {H H' : Hp} {o : HO} (a : But st l H H') (h : H p = none) : But st l H (upd H' p o) := fun c u e n1 n2 => by
  rw [upd_ne (ne_of_none e h)]
  exact a c u e n1 n2
theorem Strm.put {H : Hp} {st l p : Addr} {c : Nat} {o : HO} (S : Strm H st l c) (n : p ≠ st ∧ p ≠ l) : Strm (upd H p o) st l c := by
  obtain ⟨ns, a, m, ⟨h1, h2⟩, r⟩ := S.ex
  exact ⟨ns, a, m, ⟨by rw [upd_ne n.1.symm]; exact h1, by rw [upd_ne n.2.symm]; exact h2⟩, r⟩
theorem scP : FnScope ["_law_stream", "_law_things"] ["_law_stream", "_law_things"] (defScope sPick) := ⟨rfl, rfl, rfl, by decide +kernel, rfl, by decide +kernel, by decide +kernel⟩
theorem ok_pick {f : Addr} {fd : FuncData} (F : Fun K "_law_pick" "_law_pick" sPick f fd) (T : TA1 K mg base fD fdD) (GD : FnOk P w K mg base CX0 1 fD fdD ["_law_stream", "_law_many"] spDraw) : FnOk P w K mg base CX0 2 f fd ["_law_stream", "_law_things"] spPick := by
  refine F.ok scP (fun vs H Q E h => ?_) (fun cdv A outer s H vs Q E hr h => ?_)
  · rcases h with ⟨st, l, c, p, xs, rfl, _⟩ | ⟨st, l, c, z, rfl, _⟩
    · rfl
    · rfl
  · rcases h with ⟨st, l, c, p, xs, rfl, S, hc, hp, n1, n2, h0, h1, k⟩ | ⟨st, l, c, z, rfl, S, hc, h0, h1, k⟩
    · refine ⟨_, pss_one (ps_ret (pe_ix ix_list (pv 1) (pe_call GD hr rfl T.mD T.kD T.bD .nil pass0 (pa_cons (pv 0) (pa_cons (pe_callB call_len_seq (by rfl) T.len PySem.boot_len (pa_cons (pv 1) pa_nil)) pa_nil))) (fun _ _ => rfl))), ?_⟩
      refine ⟨_, rfl, _, rfl, _, rfl, p, xs, rfl, .inl (SqL.of hp), st, l, c, _, rfl, S, hc, by omega, by omega, fun d H' d0 d1 B S' => ?_⟩
      have hp' := B _ _ hp n1 n2
      obtain ⟨i, x, hx, ha⟩ := at_int d0 d1
      exact ⟨p, xs, d, x, rfl, rfl, SqL.of hp', ha, k _ _ _ hx B S'⟩
    · refine ⟨_, pss_one (ps_ret (pe_ix ix_str (pv 1) (pe_call GD hr rfl T.mD T.kD T.bD .nil pass0 (pa_cons (pv 0) (pa_cons (pe_callB call_len_str (by rfl) T.len PySem.boot_len (pa_cons (pv 1) pa_nil)) pa_nil))) (fun _ _ => rfl))), ?_⟩
      have hzs : z.length ≤ sizeLine := Nat.le_of_lt (Nat.lt_of_lt_of_le h1 (by decide))
      refine ⟨_, rfl, _, rfl, _, rfl, z, rfl, hzs, st, l, c, _, rfl, S, hc, by omega, by omega, fun d H' d0 d1 B S' => ?_⟩
      have el : z.cps.toList.length = z.length := by simp [Str.length]
      obtain ⟨i, x, hx, ha⟩ := at_int (xs := z.cps.toList) d0 (by rw [el]; exact d1)
      exact ⟨z, d, x, rfl, rfl, hzs, ha, k _ _ (List.mem_of_getElem? hx) B S'⟩
/-- the same data show alike -/
def spSame (K : PySem.W.Frag) : Sp := fun vs H Q _ => ∃ (v u : V) (d : PyData), vs = [v, u] ∧ Dq K H v d ∧ Dq K H u d ∧ d.showable = true ∧ d.depth ≤ 20 ∧ d.shown.length ≤ 1000 ∧ Q (.bl true) H
theorem scS : FnScope ["_law_found", "_law_due"] ["_law_found", "_law_due"] (defScope sSame) := ⟨rfl, rfl, rfl, by decide +kernel, rfl, by decide +kernel, by decide +kernel⟩
theorem ok_same {f : Addr} {fd : FuncData} (F : Fun K "_law_same" "_law_same" sSame f fd) (T : TA1 K mg base fD fdD) : FnG P w K mg base CX0 1 f fd ["_law_found", "_law_due"] (spSame K) := by
  refine okG F scS (fun vs H Q E h => ?_) (fun cdv A outer s H vs Q E hg hr h => ?_)
  · obtain ⟨v, u, d, rfl, _⟩ := h
    rfl
  · obtain ⟨v, u, d, rfl, h1, h2, sh, dp, sz, k⟩ := h
    have hu := hr.units
    have sz' : d.shown.length ≤ sizeLine := Nat.le_trans sz (by decide)
    refine ⟨_, pss_one (ps_ret (pe_cmpR op_eq (pe_callB (call_repr T.sm hg hu) (by rfl) T.repr (by decide +kernel) (pa_cons (pv 0) pa_nil)) (pe_callB (call_repr T.sm hg hu) (by rfl) T.repr (by decide +kernel) (pa_cons (pv 1) pa_nil)) (nomark _))), ?_⟩
    refine ⟨_, rfl, v, d, rfl, h1, sh, dp, sz', _, rfl, u, d, rfl, h2, sh, dp, sz', rfl, ?_⟩
    show Q (.bl (decide (V.str d.shown = V.str d.shown))) H
    rw [decide_eq_true rfl]
    exact k
/-! ### _law_thing -/
structure TA2 (K : PySem.W.Frag) (mg : Str → Option Value) (fP : Addr) (fdP : FuncData) : Prop where
  mP : mg "_law_pick" = some (.ref fP)
  kP : PySem.W.keepIn K (.ref fP) = true
  bP : L2.Binds K fdP ["_law_stream", "_law_things"] []
def spThing : Sp := fun vs H Q _ => ∃ (st l : Addr) (c : Nat), vs = [.ref st] ∧ Strm H st l c ∧ c ≤ 900000 ∧
  ∀ (v : V) (d : PyData) (H' : Hp) (c' : Nat), But st l H H' → Strm H' st l c' → c' ≤ c + 6 → Thing H' v d → Q v H'
abbrev signs : Str := "abz Z0-/"
theorem text_len {ys : List Str} (h5 : ys.length = 5) (h : ∀ y ∈ ys, ∃ ch, ch ∈ signs.cps.toList ∧ y = ⟨#[ch]⟩) : (reprText (Txt.join "" ys)).length ≤ 52 := by
  match ys, h5 with
  | [y1, y2, y3, y4, y5], _ =>
    obtain ⟨c1, m1, rfl⟩ := h y1 (by simp)
    obtain ⟨c2, m2, rfl⟩ := h y2 (by simp)
    obtain ⟨c3, m3, rfl⟩ := h y3 (by simp)
    obtain ⟨c4, m4, rfl⟩ := h y4 (by simp)
    obtain ⟨c5, m5, rfl⟩ := h y5 (by simp)
    have e : (Txt.join "" [⟨#[c1]⟩, ⟨#[c2]⟩, ⟨#[c3]⟩, ⟨#[c4]⟩, ⟨#[c5]⟩] : Str) = ⟨#[c1, c2, c3, c4, c5]⟩ := by rfl
    rw [e]
    have lt : ∀ c ∈ signs.cps.toList, c < 16 ^ 8 := by decide +kernel
    have q := PySem.StrLaws.reprText_len ⟨#[c1, c2, c3, c4, c5]⟩ (by
      intro c hc
      simp only [List.mem_cons, List.not_mem_nil, or_false] at hc
      rcases hc with rfl | rfl | rfl | rfl | rfl
      · exact lt _ m1
      · exact lt _ m2
      · exact lt _ m3
      · exact lt _ m4
      · exact lt _ m5)
    exact q
theorem scT : FnScope ["_law_stream", "_law_sort", "_law_text", "_law_k"] ["_law_stream"] (defScope sThing) := ⟨rfl, rfl, rfl, by decide +kernel, rfl, by decide +kernel, by decide +kernel⟩
theorem ok_thing {f fP : Addr} {fd fdP : FuncData} (F : Fun K "_law_thing" "_law_thing" sThing f fd) (T : TA1 K mg base fD fdD) (T2 : TA2 K mg fP fdP) (GD : FnOk P w K mg base CX0 1 fD fdD ["_law_stream", "_law_many"] spDraw)
    (GP : FnOk P w K mg base CX0 2 fP fdP ["_law_stream", "_law_things"] spPick) : FnOk P w K mg base CX0 3 f fd ["_law_stream"] spThing := by
  refine F.ok scT (fun vs H Q E h => ?_) (fun cdv A outer s H vs Q E hr h => ?_)
  · obtain ⟨st, l, c, rfl, _⟩ := h
    rfl
  · obtain ⟨st, l, c, rfl, S, hc, k⟩ := h
    have hr1 : Room 1 _ := hr.mono (by decide)
    refine ⟨_, pss_cut (ps_set (i := 1) scT.nd rfl (Or.inl rfl) (pe_call GD hr1 rfl T.mD T.kD T.bD .nil pass0 (pa_cons (pv 0) (pa_cons pe_int pa_nil))))
      (pss_cut (ps_if (pt_cmpR op_eq (pv 1) pe_int (nomark _)) (pss_one (ps_ret (pe_call GP hr rfl T2.mP T2.kP T2.bP .nil pass0 (pa_cons (pv 0) (pa_cons (pe_lst (pa_cons pe_int (pa_cons (pe_un un_neg pe_int) (pa_cons pe_int (pa_cons (pe_op op_pow pe_int pe_int) (pa_cons pe_bl pa_nil)))))) pa_nil))))) pss_nil)
      (pss_cut (ps_set (i := 2) scT.nd rfl (Or.inl rfl) (pe_join pe_str (pe_lc (own := [("_law_k", 3)]) (g := gName 3) (tt := tYes) rfl scT.nd (pi_range1 rfl T.range (pa_cons pe_int pa_nil)) (blkOk_by (own := [("_law_k", 3)]) (N := ["_law_stream", "_law_sort", "_law_text", "_law_k"]) (sc := defScope sThing) (by decide +kernel))
          (fun _ _ _ _ _ => pg_name (i := 3) scT.nd rfl (Or.inl rfl)) (fun _ _ _ _ _ => pts_nil) (fun _ _ _ _ _ => pe_call GP hr rfl T2.mP T2.kP T2.bP .nil pass0 (pa_cons (pv 0) (pa_cons pe_str pa_nil))))))
      (pss_one (ps_ret (pe_ix ix_list (pe_lst (pa_cons (pv 2) (pa_cons pe_non (pa_cons (pe_tup (pa_cons pe_int (pa_cons pe_str pa_nil))) (pa_cons (pe_lst (pa_cons pe_str (pa_cons (pe_tup pa_nil) pa_nil))) (pa_cons (pe_disp (pps_cons pe_str pe_non pps_nil) rfl rfl (by simp) (by decide)) pa_nil))))))
        (pe_op op_sub (pv 1) pe_int) (fun _ _ => rfl)))))), ?_⟩
    -- sort = draw(stream, 6)
    refine ⟨fun σ H' => ∃ d : Int, σ = [some (.ref st), some (.int d), none, none] ∧ 0 ≤ d ∧ d < 6 ∧ But st l H H' ∧ Strm H' st l (c + 1),
      ⟨_, rfl, st, l, c, _, rfl, S, by omega, by decide, by decide, fun d H' d0 d1 B S' => ⟨d, rfl, d0, d1, B, S'⟩⟩, ?_⟩
    rintro _ H1 ⟨d, rfl, d0, d6, B1, S1⟩
    -- if sort == 0: ..
    refine ⟨fun σ H' => σ = [some (.ref st), some (.int d), none, none] ∧ d ≠ 0 ∧ H' = H1, ⟨_, rfl, rfl, _, rfl, ?_⟩, ?_⟩
    · refine ite2 (fun _ => ?_) (fun ne => ⟨rfl, fun z => ne (by rw [z]; exact decide_eq_true rfl), rfl⟩)
      refine ⟨_, rfl, _, rfl, _, _, rfl, rfl, ⟨by decide, by decide, by decide⟩, by decide, fun p hp => ?_⟩
      have np := S1.ne_new hp
      refine .inl ⟨st, l, c + 1, p, _, rfl, S1.up (same_new hp), by omega, upd_same, np.1, np.2, by decide, by decide, fun i x H2 hx B2 S2 => ?_⟩
      have B3 : But st l H H2 := (B1.trans (But.same (same_new hp))).trans B2
      have fin : ∀ d' : PyData, Thing H2 x d' → Q x H2 := fun d' th => k x d' H2 (c + 2) B3 S2 (by omega) th
      match i, hx with
      | 0, hx => cases hx; exact fin _ (.int _ (.inl rfl))
      | 1, hx => cases hx; exact fin _ (.int _ (.inr (.inl rfl)))
      | 2, hx => cases hx; exact fin _ (.int _ (.inr (.inr (.inl rfl))))
      | 3, hx => cases hx; exact fin _ (.int _ (.inr (.inr (.inr (by decide)))))
      | 4, hx => cases hx; exact fin _ .tru
      | n + 5, hx => cases hx
    rintro _ H2 ⟨rfl, nd, rfl⟩
    -- text = ''.join([..])
    refine ⟨fun σ H' => ∃ (z : Str) (c' : Nat), σ = [some (.ref st), some (.int d), some (.str z), none] ∧ (reprText z).length ≤ 52 ∧ But st l H H' ∧ Strm H' st l c' ∧ c' ≤ c + 6, ?_, ?_⟩
    · refine ⟨⟨_, rfl⟩, 5, rfl, by decide, by decide, fun D hD => lc_range (lo := 0) (n := 5) (fun i H' => But st l H2 H' ∧ (∃ c', Strm H' st l c' ∧ c' ≤ c + 1 + i) ∧ ∃ ys : List Str, ys.length = i ∧ H' D = some (.lst (ys.map V.str)) ∧ ∀ y ∈ ys, ∃ ch, ch ∈ signs.cps.toList ∧ y = ⟨#[ch]⟩)
        ⟨But.same (same_new hD), ⟨c + 1, S1.up (same_new hD), by omega⟩, [], rfl, upd_same, by simp⟩ ?_ ?_⟩
      · rintro i H' hi ⟨B', ⟨c', S', hc'⟩, ys, hy, hD', hs⟩
        have nD := S1.ne_new hD
        refine ⟨rfl, _, rfl, .inr ⟨st, l, c', signs, rfl, S', by omega, by decide, by decide, fun ch H'' hch B'' S'' => ?_⟩⟩
        have hD2 := B'' _ _ hD' nD.1 nD.2
        refine ⟨_, hD2, ?_, (B'.trans B'').put hD, ⟨c' + 1, S''.put nD, by omega⟩, ys ++ [⟨#[ch]⟩], ?_, ?_, fun y hy' => ?_⟩
        · rw [List.length_map, hy]
          exact Nat.lt_of_lt_of_le hi (by decide)
        · rw [List.length_append, hy]
          rfl
        · rw [upd_same, List.map_append]
          rfl
        · rcases List.mem_append.mp hy' with q | q
          · exact hs y q
          · exact ⟨ch, hch, List.mem_singleton.mp q⟩
      · rintro H' ⟨B', ⟨c', S', hc'⟩, ys, hy, hD', hs⟩
        refine ⟨_, D, ys, rfl, rfl, .inl (SqL.of hD'), ?_, _, c', rfl, text_len hy hs, B1.trans B', S', by omega⟩
        have key : ∀ zs : List Str, (∀ y ∈ zs, ∃ ch, ch ∈ signs.cps.toList ∧ y = ⟨#[ch]⟩) → (zs.map (·.length)).sum = zs.length := by
          intro zs
          induction zs with
          | nil =>
            intro _
            rfl
          | cons z r ih =>
            intro h
            obtain ⟨ch, _, rfl⟩ := h z List.mem_cons_self
            rw [List.map_cons, List.sum_cons, ih fun y q => h y (List.mem_cons_of_mem _ q), List.length_cons]
            show 1 + r.length = r.length + 1
            omega
        rw [key ys hs, hy]
        decide
    · rintro _ H3 ⟨z, c', rfl, hz, B3, S3, hc'⟩
      refine ⟨_, rfl, (by show 2 ≤ sizeLine; decide), fun p1 n1 => ⟨Nat.zero_le _, fun p2 n2 => ⟨(by show 2 ≤ sizeLine; decide), fun p3 n3 => fun p4 n4 => ⟨upd_same, [(.inr "a", .non)], rfl, by decide, (by show 5 ≤ sizeLine; decide), fun p5 n5 => ?_⟩⟩⟩⟩
      rw [upd_upd] at n5
      rw [upd_upd]
      have em : mergeK [] [((.inr "a" : Key), V.non)] = [(.inr "a", .non)] := rfl
      rw [em] at n5
      rw [em]
      have s1 := same_new (o := .tup [.int 1, .str "a"]) n1
      have s2 := same_new (o := .tup []) n2
      have s3 := same_new (o := .lst [.str "x", .ref p2]) n3
      have s4 := same_new (o := .dK [(.inr "a", .non)]) n4
      have s5 := same_new (o := .lst [.str z, .non, .ref p1, .ref p3, .ref p4]) n5
      have g1 := (s2.trans (s3.trans (s4.trans s5))) _ _ (upd_same (H := H3) (a := p1) (o := .tup [.int 1, .str "a"]))
      have g2 := (s3.trans (s4.trans s5)) _ _ (upd_same (a := p2) (o := .tup []))
      have g3 := (s4.trans s5) _ _ (upd_same (a := p3) (o := .lst [.str "x", .ref p2]))
      have g4 := s5 _ _ (upd_same (a := p4) (o := .dK [(.inr "a", .non)]))
      have s0 := s1.trans (s2.trans (s3.trans (s4.trans s5)))
      have B4 := B3.trans (But.same s0)
      have S4 := S3.up s0
      refine ⟨_, rfl, _, _, rfl, rfl, p5, [.str z, .non, .ref p1, .ref p3, .ref p4], d - 1, ?_⟩
      have dd : d = 1 ∨ d = 2 ∨ d = 3 ∨ d = 4 ∨ d = 5 := by omega
      rcases dd with rfl | rfl | rfl | rfl | rfl
      · exact ⟨_, rfl, rfl, SqL.of upd_same, rfl, k _ _ _ c' B4 S4 (by omega) (.str z hz)⟩
      · exact ⟨_, rfl, rfl, SqL.of upd_same, rfl, k _ _ _ c' B4 S4 (by omega) .non⟩
      · exact ⟨_, rfl, rfl, SqL.of upd_same, rfl, k _ _ _ c' B4 S4 (by omega) (.tup g1)⟩
      · exact ⟨_, rfl, rfl, SqL.of upd_same, rfl, k _ _ _ c' B4 S4 (by omega) (.lst g3 g2)⟩
      · exact ⟨_, rfl, rfl, SqL.of upd_same, rfl, k _ _ _ c' B4 S4 (by omega) (.dct g4)⟩
end
end K1

set_option maxHeartbeats 3900000
namespace K1
open PySem PySem.Spec PyProof.Rows L2 EV RP LV LamX
open C8 (pss_cut tCut pe_gc)
abbrev sClasses : Stmt := top 28
abbrev sAlone : Stmt := top 29
/-- the errors, in the order of their numbers -/
def nmL : List Str := ["BadPath", "Blocked", "BadName", "BadLook", "BadChange", "BadSight", "Apart", "BadStep", "NoRun", "BadIndex", "NotOne", "Known", "BadSort", "NotTrue", "BadPattern", "BadCount", "NoRule", "NoBranch", "TakenBranch", "NothingToUndo", "BadLine"]
/-- and what they all are -/
def allN : List Str := "AgainError" :: nmL
structure TCls (K : PySem.W.Frag) (mg : Str → Option Value) (ca : Str → Addr) : Prop where
  ii : mg "isinstance" = none
  ve : mg "ValueError" = none
  ea : EAll K
  mg : ∀ x ∈ allN, mg x = some (.ref (ca x))
  ec : ∀ x ∈ allN, ECls K (ca x)
  kit : ∀ x ∈ allN, ∀ y ∈ nmL, PySem.W.kitOne K (.ref (ca x)) (.ref (ca y)) = some (decide (x = y))
  kitA : ∀ x ∈ allN, PySem.W.kitOne K (.ref (ca x)) (.ref (ca "AgainError")) = some true
  kitV : ∀ x ∈ allN, PySem.W.kitOne K (.ref (ca x)) (.type "ValueError") = some true
theorem exAt_up {H H' : Hp} {a C : Addr} (x : ExAt H a C) (e : ExtN H H') : ExAt H' a C := by
  rcases x with x | ⟨d, fs, x, y⟩
  · exact .inl (e _ _ x fun ps z => exo_tbl z)
  · exact .inr ⟨d, fs, e _ _ x fun ps z => exo_tbl z, e _ _ y fun ps z => by
      have z' : HO.ext _ = HO.tbl ps := z
      cases z'⟩
theorem same_ext {H H' : Hp} (e : Same H H') : ExtN H H' := fun b o h _ => e b o h
theorem same_put {H H' : Hp} {p : Addr} {o : HO} (e : Same H H') (h : H p = none) : Same H (upd H' p o) := fun b u q => by
  rw [upd_ne (ne_of_none q h)]
  exact e b u q
section
variable {P : Program} {w : World} {K : PySem.W.Frag} {mg : Str → Option Value} {base : Heap} {ca : Str → Addr}
/-- isinstance(e, y), e in slot 0 -/
def tIs (ca : Str → Addr) (y : Str) : TE := fun σ H Q => ∃ (a : Addr) (x : Str), σ[0]? = some (some (.ref a)) ∧ x ∈ allN ∧ ExAt H a (ca x) ∧ Q (.bl (decide (x = y))) H
theorem pe_is {X : Cx} (T : TCls X.K X.mg ca) (y : Str) (hy : y ∈ nmL) {e : Str} {p p1 p2 pos : Pos} (h0 : PE X (.Name e p1) (tVar 0)) (hg : Gl X "isinstance" := by rfl) (hgy : Gl X y := by rfl) (hd : (y == ("__debug__" : Str)) = false := by decide)
    (hs1 : starEach [.Name e p1, .Name y p2] X.env = (false, eval (.Name e p1) X.env) :: starEach [.Name y p2] X.env := by rfl) (hs2 : starEach [.Name y p2] X.env = (false, eval (.Name y p2) X.env) :: starEach [] X.env := by rfl)
    (hpl : (backTo pos (starEach [.Name y p2] X.env)).any (·.1) = false := by rfl) : PE X (.Call (.Name "isinstance" p) [.Name e p1, .Name y p2] [] pos) (tIs ca y) := by
  have hy2 : y ∈ allN := List.mem_cons_of_mem _ hy
  have q := pe_callB (X := X) (p := p) (pos := pos) call_isX hg T.ii boot_isinstance (pa_cons h0 (pa_cons (pe_gc (v := .ref (ca y)) (pos := p2) hgy ⟨_, T.mg y hy2, rfl⟩ hd) pa_nil hs2) hs1) (by decide) (by decide) hs1 hpl
  refine ⟨fun pins s σ H Q I h => q.run pins s σ H Q I ?_⟩
  obtain ⟨a, x, h1, hx, ex, k⟩ := h
  exact ⟨_, h1, a, ca x, _, _, _, rfl, .own _, T.ec x hx, T.ea, ex, T.kit x hx y hy, k⟩
def spClasses (ca : Str → Addr) : Sp := fun vs H Q _ => ∃ (a : Addr) (x : Str), vs = [.ref a] ∧ x ∈ allN ∧ ExAt H a (ca x) ∧
  ∀ (H' : Hp) (p : Addr), Same H H' → H' p = some (.lst (nmL.map fun y => .bl (decide (x = y)))) → Q (.ref p) H'
theorem scC : FnScope ["_law_e", "_law_found"] ["_law_e"] (defScope sClasses) := ⟨rfl, rfl, rfl, by decide +kernel, rfl, by decide +kernel, by decide +kernel⟩
theorem ok_classes {f : Addr} {fd : FuncData} (F : Fun K "_law_classes" "_law_classes" sClasses f fd) (T : TCls K mg ca) : FnOk P w K mg base CX0 1 f fd ["_law_e"] (spClasses ca) := by
  refine F.ok scC (fun vs H Q E h => ?_) (fun cdv A outer s H vs Q E hr h => ?_)
  · obtain ⟨a, x, rfl, _⟩ := h
    rfl
  · obtain ⟨a, x, rfl, hx, ex, k⟩ := h
    refine ⟨_, pss_cut (ps_set (i := 1) scC.nd rfl (Or.inl rfl) (pe_lst pa_nil))
      (pss_cut (ps_expr (pe_bm PySem.F.plainAttrs_list PySem.F.slot_list_extend PySem.F.type_list_extend mt_extend (pv 1) (pa_cons (pe_lst (pa_cons (pe_is T "BadPath" (by decide +kernel) (pv 0)) (pa_cons (pe_is T "Blocked" (by decide +kernel) (pv 0)) (pa_cons (pe_is T "BadName" (by decide +kernel) (pv 0)) (pa_cons (pe_is T "BadLook" (by decide +kernel) (pv 0)) pa_nil))))) pa_nil)))
      (pss_cut (ps_expr (pe_bm PySem.F.plainAttrs_list PySem.F.slot_list_extend PySem.F.type_list_extend mt_extend (pv 1) (pa_cons (pe_lst (pa_cons (pe_is T "BadChange" (by decide +kernel) (pv 0)) (pa_cons (pe_is T "BadSight" (by decide +kernel) (pv 0)) (pa_cons (pe_is T "Apart" (by decide +kernel) (pv 0)) (pa_cons (pe_is T "BadStep" (by decide +kernel) (pv 0)) pa_nil))))) pa_nil)))
      (pss_cut (ps_expr (pe_bm PySem.F.plainAttrs_list PySem.F.slot_list_extend PySem.F.type_list_extend mt_extend (pv 1) (pa_cons (pe_lst (pa_cons (pe_is T "NoRun" (by decide +kernel) (pv 0)) (pa_cons (pe_is T "BadIndex" (by decide +kernel) (pv 0)) (pa_cons (pe_is T "NotOne" (by decide +kernel) (pv 0)) (pa_cons (pe_is T "Known" (by decide +kernel) (pv 0)) pa_nil))))) pa_nil)))
      (pss_cut (ps_expr (pe_bm PySem.F.plainAttrs_list PySem.F.slot_list_extend PySem.F.type_list_extend mt_extend (pv 1) (pa_cons (pe_lst (pa_cons (pe_is T "BadSort" (by decide +kernel) (pv 0)) (pa_cons (pe_is T "NotTrue" (by decide +kernel) (pv 0)) (pa_cons (pe_is T "BadPattern" (by decide +kernel) (pv 0)) (pa_cons (pe_is T "BadCount" (by decide +kernel) (pv 0)) pa_nil))))) pa_nil)))
      (pss_cut (ps_expr (pe_bm PySem.F.plainAttrs_list PySem.F.slot_list_extend PySem.F.type_list_extend mt_extend (pv 1) (pa_cons (pe_lst (pa_cons (pe_is T "NoRule" (by decide +kernel) (pv 0)) (pa_cons (pe_is T "NoBranch" (by decide +kernel) (pv 0)) (pa_cons (pe_is T "TakenBranch" (by decide +kernel) (pv 0)) pa_nil)))) pa_nil)))
      (pss_cut (ps_expr (pe_bm PySem.F.plainAttrs_list PySem.F.slot_list_extend PySem.F.type_list_extend mt_extend (pv 1) (pa_cons (pe_lst (pa_cons (pe_is T "NothingToUndo" (by decide +kernel) (pv 0)) pa_nil)) pa_nil)))
      (pss_cut (ps_expr (pe_bm PySem.F.plainAttrs_list PySem.F.slot_list_extend PySem.F.type_list_extend mt_extend (pv 1) (pa_cons (pe_lst (pa_cons (pe_is T "BadLine" (by decide +kernel) (pv 0)) pa_nil)) pa_nil)))
      (pss_one (ps_ret (pv 1)))))))))), ?_⟩
    refine ⟨fun σ H' => ∃ p, H p = none ∧ σ = [some (.ref a), some (.ref p)] ∧ Same H H' ∧ H' p = some (.lst ((nmL.take 0).map fun y => .bl (decide (x = y)))), ⟨Nat.zero_le _, fun p hp => ⟨p, hp, rfl, same_new hp, upd_same⟩⟩, ?_⟩
    rintro _ H0 ⟨p, hp, rfl, s0, h0⟩
    refine ⟨fun σ H' => σ = [some (.ref a), some (.ref p)] ∧ Same H H' ∧ H' p = some (.lst ((nmL.take 4).map fun y => .bl (decide (x = y)))),
      ⟨_, rfl, .inl ⟨rfl, _, SqL.of h0⟩, a, x, rfl, hx, exAt_up ex (same_ext s0), a, x, rfl, hx, exAt_up ex (same_ext s0), a, x, rfl, hx, exAt_up ex (same_ext s0), a, x, rfl, hx, exAt_up ex (same_ext s0), (by show 4 ≤ sizeLine; decide), fun q hq => ?_⟩, ?_⟩
    · have n := ne_of_none h0 hq
      refine ⟨p, q, _, _, rfl, rfl, by rw [upd_ne n]; exact h0, upd_same, by show 4 ≤ sizeLine; decide, rfl, same_put (s0.trans (same_new hq)) hp, upd_same⟩
    rintro _ H1 ⟨rfl, s1, h1⟩
    refine ⟨fun σ H' => σ = [some (.ref a), some (.ref p)] ∧ Same H H' ∧ H' p = some (.lst ((nmL.take 8).map fun y => .bl (decide (x = y)))),
      ⟨_, rfl, .inl ⟨rfl, _, SqL.of h1⟩, a, x, rfl, hx, exAt_up ex (same_ext s1), a, x, rfl, hx, exAt_up ex (same_ext s1), a, x, rfl, hx, exAt_up ex (same_ext s1), a, x, rfl, hx, exAt_up ex (same_ext s1), (by show 4 ≤ sizeLine; decide), fun q hq => ?_⟩, ?_⟩
    · have n := ne_of_none h1 hq
      refine ⟨p, q, _, _, rfl, rfl, by rw [upd_ne n]; exact h1, upd_same, by show 8 ≤ sizeLine; decide, rfl, same_put (s1.trans (same_new hq)) hp, upd_same⟩
    rintro _ H2 ⟨rfl, s2, h2⟩
    refine ⟨fun σ H' => σ = [some (.ref a), some (.ref p)] ∧ Same H H' ∧ H' p = some (.lst ((nmL.take 12).map fun y => .bl (decide (x = y)))),
      ⟨_, rfl, .inl ⟨rfl, _, SqL.of h2⟩, a, x, rfl, hx, exAt_up ex (same_ext s2), a, x, rfl, hx, exAt_up ex (same_ext s2), a, x, rfl, hx, exAt_up ex (same_ext s2), a, x, rfl, hx, exAt_up ex (same_ext s2), (by show 4 ≤ sizeLine; decide), fun q hq => ?_⟩, ?_⟩
    · have n := ne_of_none h2 hq
      refine ⟨p, q, _, _, rfl, rfl, by rw [upd_ne n]; exact h2, upd_same, by show 12 ≤ sizeLine; decide, rfl, same_put (s2.trans (same_new hq)) hp, upd_same⟩
    rintro _ H3 ⟨rfl, s3, h3⟩
    refine ⟨fun σ H' => σ = [some (.ref a), some (.ref p)] ∧ Same H H' ∧ H' p = some (.lst ((nmL.take 16).map fun y => .bl (decide (x = y)))),
      ⟨_, rfl, .inl ⟨rfl, _, SqL.of h3⟩, a, x, rfl, hx, exAt_up ex (same_ext s3), a, x, rfl, hx, exAt_up ex (same_ext s3), a, x, rfl, hx, exAt_up ex (same_ext s3), a, x, rfl, hx, exAt_up ex (same_ext s3), (by show 4 ≤ sizeLine; decide), fun q hq => ?_⟩, ?_⟩
    · have n := ne_of_none h3 hq
      refine ⟨p, q, _, _, rfl, rfl, by rw [upd_ne n]; exact h3, upd_same, by show 16 ≤ sizeLine; decide, rfl, same_put (s3.trans (same_new hq)) hp, upd_same⟩
    rintro _ H4 ⟨rfl, s4, h4⟩
    refine ⟨fun σ H' => σ = [some (.ref a), some (.ref p)] ∧ Same H H' ∧ H' p = some (.lst ((nmL.take 19).map fun y => .bl (decide (x = y)))),
      ⟨_, rfl, .inl ⟨rfl, _, SqL.of h4⟩, a, x, rfl, hx, exAt_up ex (same_ext s4), a, x, rfl, hx, exAt_up ex (same_ext s4), a, x, rfl, hx, exAt_up ex (same_ext s4), (by show 3 ≤ sizeLine; decide), fun q hq => ?_⟩, ?_⟩
    · have n := ne_of_none h4 hq
      refine ⟨p, q, _, _, rfl, rfl, by rw [upd_ne n]; exact h4, upd_same, by show 19 ≤ sizeLine; decide, rfl, same_put (s4.trans (same_new hq)) hp, upd_same⟩
    rintro _ H5 ⟨rfl, s5, h5⟩
    refine ⟨fun σ H' => σ = [some (.ref a), some (.ref p)] ∧ Same H H' ∧ H' p = some (.lst ((nmL.take 20).map fun y => .bl (decide (x = y)))),
      ⟨_, rfl, .inl ⟨rfl, _, SqL.of h5⟩, a, x, rfl, hx, exAt_up ex (same_ext s5), (by show 1 ≤ sizeLine; decide), fun q hq => ?_⟩, ?_⟩
    · have n := ne_of_none h5 hq
      refine ⟨p, q, _, _, rfl, rfl, by rw [upd_ne n]; exact h5, upd_same, by show 20 ≤ sizeLine; decide, rfl, same_put (s5.trans (same_new hq)) hp, upd_same⟩
    rintro _ H6 ⟨rfl, s6, h6⟩
    refine ⟨fun σ H' => σ = [some (.ref a), some (.ref p)] ∧ Same H H' ∧ H' p = some (.lst ((nmL.take 21).map fun y => .bl (decide (x = y)))),
      ⟨_, rfl, .inl ⟨rfl, _, SqL.of h6⟩, a, x, rfl, hx, exAt_up ex (same_ext s6), (by show 1 ≤ sizeLine; decide), fun q hq => ?_⟩, ?_⟩
    · have n := ne_of_none h6 hq
      refine ⟨p, q, _, _, rfl, rfl, by rw [upd_ne n]; exact h6, upd_same, by show 21 ≤ sizeLine; decide, rfl, same_put (s6.trans (same_new hq)) hp, upd_same⟩
    rintro _ H7 ⟨rfl, s7, h7⟩
    exact ⟨_, rfl, k _ p s7 h7⟩
/-! ### _law_is_alone -/
def rCntB (K : PySem.W.Frag) : V → List V → Hp → VK → Prop := fun x xs H Q => ∃ (p : Addr) (bs : List Bool) (b : Bool), x = .ref p ∧ xs = [.bl b] ∧ H p = some (.lst (bs.map V.bl)) ∧ Q (.int (((bs.map PyData.bool).countP fun y => PyData.eqv y (.bool b) : Nat) : Int)) H
theorem reads_bools {h : Heap} : ∀ (bs : List Bool) {us : List Value}, Vals (bs.map V.bl) us → ReadsAll h us (bs.map PyData.bool) []
  | [], _, .nil => .nil
  | b :: r, _, .cons e t => by
    cases e
    exact .cons (.bool b) (reads_bools r t)
theorem plain_bools : ∀ bs : List Bool, PyData.plainAll (bs.map PyData.bool) = true
  | [] => rfl
  | _ :: r => plain_bools r
theorem mt_countB {X : Cx} (hu : X.A.units + 64 < cLine) : MtR X "list.count" (rCntB X.K) := by
  intro pins s σ H x xs v us Q I rx rxs h
  obtain ⟨p, bs, b, rfl, rfl, hp, q⟩ := h
  cases rx
  obtain ⟨u, rfl, ru⟩ := rxs.one
  cases ru
  obtain ⟨_, its, n, rv, ho⟩ := (show ObjOk X.prog X.w H s.heap p (.lst _) from I.hok p _ hp)
  refine PySem.SeqAt.count_list_data (xs := bs.map PyData.bool) (d := .bool b) ⟨_, ho, rfl, n, rfl⟩ (reads_bools bs rv) (.bool b) (plain_bools bs) rfl ?_ ⟨.int _, H, I.tok _, ⟨_, rfl⟩, q⟩
  show X.A.units + 1 + min _ 0 < cLine
  omega
structure TAl (mg : Str → Option Value) (K : PySem.W.Frag) (fC : Addr) (fdC : FuncData) : Prop where
  mC : mg "_law_classes" = some (.ref fC)
  kC : PySem.W.keepIn K (.ref fC) = true
  bC : L2.Binds K fdC ["_law_e"] []
theorem one_of : ∀ x ∈ nmL, (((nmL.map fun y => decide (x = y)).map PyData.bool).countP fun y => PyData.eqv y (.bool true)) = 1 := by decide +kernel
def spAlone (ca : Str → Addr) : Sp := fun vs H Q _ => ∃ (a : Addr) (j : Nat) (x : Str), vs = [.ref a, .int (j : Int)] ∧ nmL[j]? = some x ∧ ExAt H a (ca x) ∧ ∀ H' : Hp, Same H H' → Q (.bl true) H'
theorem pe_tyN {X : Cx} {x : Str} {T : String} {pos : Pos} (hg : Gl X x) (hm : X.mg x = none) (hv : bootBuiltins x = some (.type T)) (hn : x ≠ "__name__" := by decide) (hd : (x == ("__debug__" : Str)) = false := by decide) : PE X (.Name x pos) (tC (.ty T)) :=
  ⟨fun pins s σ H Q I h => ld_blt I hg hm hv ⟨.ty T, H, I, rfl, h⟩ hn hd⟩
theorem scA : FnScope ["_law_e", "_law_spot", "_law_found"] ["_law_e", "_law_spot"] (defScope sAlone) := ⟨rfl, rfl, rfl, by decide +kernel, rfl, by decide +kernel, by decide +kernel⟩
theorem ok_alone {f fC : Addr} {fd fdC : FuncData} (F : Fun K "_law_is_alone" "_law_is_alone" sAlone f fd) (T : TCls K mg ca) (T2 : TAl mg K fC fdC) (GC : FnOk P w K mg base CX0 1 fC fdC ["_law_e"] (spClasses ca)) : FnOk P w K mg base CX0 2 f fd ["_law_e", "_law_spot"] (spAlone ca) := by
  refine F.ok scA (fun vs H Q E h => ?_) (fun cdv A outer s H vs Q E hr h => ?_)
  · obtain ⟨a, j, x, rfl, _⟩ := h
    rfl
  · obtain ⟨a, j, x, rfl, hj, ex, k⟩ := h
    have hu := hr.units
    have hx : x ∈ nmL := List.mem_of_getElem? hj
    have hx2 : x ∈ allN := List.mem_cons_of_mem _ hx
    refine ⟨_, pss_cut (ps_set (i := 2) scA.nd rfl (Or.inl rfl) (pe_call GC hr rfl T2.mC T2.kC T2.bC .nil pass0 (pa_cons (pv 0) pa_nil)))
      (pss_one (ps_ret (pe_and (pe_callB call_isX (by rfl) T.ii boot_isinstance (pa_cons (pv 0) (pa_cons (pe_gc (v := .ref (ca "AgainError")) rfl ⟨_, T.mg _ (by decide +kernel), rfl⟩) pa_nil)))
        (pe_and (pe_callB call_isX (by rfl) T.ii boot_isinstance (pa_cons (pv 0) (pa_cons (pe_tyN rfl T.ve (T := "ValueError") (by decide +kernel)) pa_nil)))
        (pe_and (pe_cmpR op_eq (pe_bm PySem.F.plainAttrs_list PySem.F.slot_list_count PySem.F.type_list_count (mt_countB hu) (pv 2) (pa_cons pe_bl pa_nil)) pe_int (nomark _))
        (pe_one (pe_ix ix_list (pv 2) (pv 1) (fun _ _ => rfl)))))))), ?_⟩
    refine ⟨fun σ H' => ∃ p, σ = [some (.ref a), some (.int (j : Int)), some (.ref p)] ∧ Same H H' ∧ H' p = some (.lst ((nmL.map fun y => decide (x = y)).map V.bl)),
      ⟨_, rfl, a, x, rfl, hx2, ex, fun H' p s h => ⟨p, rfl, s, ?_⟩⟩, ?_⟩
    · rw [h, List.map_map]
      rfl
    rintro _ H1 ⟨p, rfl, s1, h1⟩
    have ex1 := exAt_up ex (same_ext s1)
    have hjl : (nmL.map fun y => decide (x = y)).map V.bl = nmL.map fun y => V.bl (decide (x = y)) := by
      rw [List.map_map]
      rfl
    have hat : atI ((nmL.map fun y => decide (x = y)).map V.bl) (j : Int) = some (.bl true) := by
      refine atI_nat ?_
      rw [hjl, List.getElem?_map, hj]
      show some (V.bl (decide (x = x))) = _
      rw [decide_eq_true rfl]
    refine ⟨_, rfl, a, ca x, _, _, _, rfl, .own _, T.ec x hx2, T.ea, ex1, T.kitA x hx2, true, rfl, ?_⟩
    refine ⟨_, rfl, a, ca x, _, _, _, rfl, .ty _, T.ec x hx2, T.ea, ex1, T.kitV x hx2, true, rfl, ?_⟩
    refine ⟨_, rfl, .inl ⟨rfl, _, SqL.of h1⟩, p, nmL.map fun y => decide (x = y), true, rfl, rfl, h1, rfl, true, ?_, ?_⟩
    · rw [one_of x hx]
      rfl
    · exact ⟨_, rfl, _, rfl, p, _, _, _, rfl, rfl, SqL.of h1, hat, k _ s1⟩
end
end K1

set_option maxHeartbeats 3900000
namespace K1
open PySem PySem.Spec PyProof.Rows L2 EV RP LV LamX
open C8 (pss_cut tCut pe_gc)
abbrev sOnes : Stmt := top 30
abbrev sTwos : Stmt := top 31
abbrev sBares : Stmt := top 32
/-! the errors' own __init__ -/
def sp1 (K : PySem.W.Frag) (g : Str) : Sp := fun vs H Q _ => ∃ (a C : Addr) (v : V), vs = [.ref a, v] ∧ OexC K C ∧ PySem.W.findIn K (.ref C) g = some none ∧ H a = some (exo a C none) ∧
  ∀ d, H d = none → d ≠ a → Q .non (upd (upd H d (exd d [(g, v)])) a (exo a C (some d)))
def sp2 (K : PySem.W.Frag) (g1 g2 : Str) : Sp := fun vs H Q _ => ∃ (a C : Addr) (v u : V), vs = [.ref a, v, u] ∧ OexC K C ∧ PySem.W.findIn K (.ref C) g1 = some none ∧ PySem.W.findIn K (.ref C) g2 = some none ∧ H a = some (exo a C none) ∧
  ∀ d, H d = none → d ≠ a → Q .non (upd (upd (upd H d (exd d [(g1, v)])) a (exo a C (some d))) d (exd d [(g2, u), (g1, v)]))
def swap2 {α : Type} : List α → List α
  | [a, b] => [b, a]
  | l => l
theorem vals_swap2 : ∀ {zs : List V} {ws : List Value}, Vals zs ws → Vals (swap2 zs) (swap2 ws)
  | [], _, .nil => .nil
  | [_], _, .cons a .nil => .cons a .nil
  | [_, _], _, .cons a (.cons b .nil) => .cons b (.cons a .nil)
  | _ :: _ :: _ :: _, _, .cons a (.cons b (.cons c t)) => .cons a (.cons b (.cons c t))
section
variable {P : Program} {w : World} {K : PySem.W.Frag} {mg : Str → Option Value} {base : Heap} {ca : Str → Addr}
/-- the class nm has an __init__ of one field g (of two) -/
structure Ini1 (P : Program) (w : World) (K : PySem.W.Frag) (mg : Str → Option Value) (base : Heap) (C : Addr) (g : Str) : Prop where
  ex : ∃ (fI : Addr) (fd : FuncData), PySem.W.findIn K (.ref C) "__init__" = some (some (.ref fI)) ∧ PySem.W.typeIn K (.ref fI) = some (.type "function") ∧ FnOk P w K mg base CX0 1 fI fd ["self", g] (sp1 K g) ∧
    L2.Binds K fd ["self", g] [] ∧ KBn K fd ["self", g] 1 [g] (fun us ws => us ++ ws) (fun vs zs => vs ++ zs)
  no : PySem.W.findIn K (.ref C) g = some none
structure Ini2 (P : Program) (w : World) (K : PySem.W.Frag) (mg : Str → Option Value) (base : Heap) (C : Addr) (g1 g2 : Str) : Prop where
  ex : ∃ (fI : Addr) (fd : FuncData), PySem.W.findIn K (.ref C) "__init__" = some (some (.ref fI)) ∧ PySem.W.typeIn K (.ref fI) = some (.type "function") ∧ FnOk P w K mg base CX0 1 fI fd ["self", g1, g2] (sp2 K g1 g2) ∧
    L2.Binds K fd ["self", g1, g2] [] ∧ KBn K fd ["self", g1, g2] 1 [g2, g1] (fun us ws => us ++ swap2 ws) (fun vs zs => vs ++ swap2 zs)
  no1 : PySem.W.findIn K (.ref C) g1 = some none
  no2 : PySem.W.findIn K (.ref C) g2 = some none
theorem sc_BadPath : FnScope ["self", "path"] ["self", "path"] (defScope (inClass (top 2) 0)) := ⟨rfl, rfl, rfl, by decide +kernel, rfl, by decide +kernel, by decide +kernel⟩
theorem ini_BadPath {C fI : Addr} {fd : FuncData} (F : Fun K "__init__" "BadPath.__init__" (inClass (top 2) 0) fI fd) (h1 : PySem.W.findIn K (.ref C) "__init__" = some (some (.ref fI))) (h2 : PySem.W.typeIn K (.ref fI) = some (.type "function"))
    (h3 : PySem.W.findIn K (.ref C) "path" = some none) : Ini1 P w K mg base C "path" := by
  refine ⟨⟨fI, fd, h1, h2, F.ok sc_BadPath (fun vs H Q E h => ?_) (fun cdv A outer s H vs Q E hr h => ?_), F.binds fun _ _ _ _ _ _ us hl => match us, hl with | [_, _], _ => rfl, ⟨?_, fun r1 r2 => r1.append r2⟩⟩, h3⟩
  · obtain ⟨a, C, v, rfl, _⟩ := h
    rfl
  · obtain ⟨a, C, v, rfl, T, no, ha, k⟩ := h
    exact ⟨_, pss_one (ps_ost (pv 0) (pv 1)), _, rfl, _, rfl, a, C, rfl, T, no, .inl ⟨ha, fun d h1 h2 => k d h1 h2⟩⟩
  · obtain ⟨oc, od, kV, doc, pm, an, cdv, ct, osl, rfl, lk, hcd⟩ := F.ex
    exact fun s us ws X l1 l2 => match us, l1, ws, l2 with | [_], _, [_], _ => .of_eq rfl
theorem sc_Blocked : FnScope ["self", "path"] ["self", "path"] (defScope (inClass (top 3) 0)) := ⟨rfl, rfl, rfl, by decide +kernel, rfl, by decide +kernel, by decide +kernel⟩
theorem ini_Blocked {C fI : Addr} {fd : FuncData} (F : Fun K "__init__" "Blocked.__init__" (inClass (top 3) 0) fI fd) (h1 : PySem.W.findIn K (.ref C) "__init__" = some (some (.ref fI))) (h2 : PySem.W.typeIn K (.ref fI) = some (.type "function"))
    (h3 : PySem.W.findIn K (.ref C) "path" = some none) : Ini1 P w K mg base C "path" := by
  refine ⟨⟨fI, fd, h1, h2, F.ok sc_Blocked (fun vs H Q E h => ?_) (fun cdv A outer s H vs Q E hr h => ?_), F.binds fun _ _ _ _ _ _ us hl => match us, hl with | [_, _], _ => rfl, ⟨?_, fun r1 r2 => r1.append r2⟩⟩, h3⟩
  · obtain ⟨a, C, v, rfl, _⟩ := h
    rfl
  · obtain ⟨a, C, v, rfl, T, no, ha, k⟩ := h
    exact ⟨_, pss_one (ps_ost (pv 0) (pv 1)), _, rfl, _, rfl, a, C, rfl, T, no, .inl ⟨ha, fun d h1 h2 => k d h1 h2⟩⟩
  · obtain ⟨oc, od, kV, doc, pm, an, cdv, ct, osl, rfl, lk, hcd⟩ := F.ex
    exact fun s us ws X l1 l2 => match us, l1, ws, l2 with | [_], _, [_], _ => .of_eq rfl
theorem sc_BadName : FnScope ["self", "name"] ["self", "name"] (defScope (inClass (top 4) 0)) := ⟨rfl, rfl, rfl, by decide +kernel, rfl, by decide +kernel, by decide +kernel⟩
theorem ini_BadName {C fI : Addr} {fd : FuncData} (F : Fun K "__init__" "BadName.__init__" (inClass (top 4) 0) fI fd) (h1 : PySem.W.findIn K (.ref C) "__init__" = some (some (.ref fI))) (h2 : PySem.W.typeIn K (.ref fI) = some (.type "function"))
    (h3 : PySem.W.findIn K (.ref C) "name" = some none) : Ini1 P w K mg base C "name" := by
  refine ⟨⟨fI, fd, h1, h2, F.ok sc_BadName (fun vs H Q E h => ?_) (fun cdv A outer s H vs Q E hr h => ?_), F.binds fun _ _ _ _ _ _ us hl => match us, hl with | [_, _], _ => rfl, ⟨?_, fun r1 r2 => r1.append r2⟩⟩, h3⟩
  · obtain ⟨a, C, v, rfl, _⟩ := h
    rfl
  · obtain ⟨a, C, v, rfl, T, no, ha, k⟩ := h
    exact ⟨_, pss_one (ps_ost (pv 0) (pv 1)), _, rfl, _, rfl, a, C, rfl, T, no, .inl ⟨ha, fun d h1 h2 => k d h1 h2⟩⟩
  · obtain ⟨oc, od, kV, doc, pm, an, cdv, ct, osl, rfl, lk, hcd⟩ := F.ex
    exact fun s us ws X l1 l2 => match us, l1, ws, l2 with | [_], _, [_], _ => .of_eq rfl
theorem sc_BadLook : FnScope ["self", "look"] ["self", "look"] (defScope (inClass (top 5) 0)) := ⟨rfl, rfl, rfl, by decide +kernel, rfl, by decide +kernel, by decide +kernel⟩
theorem ini_BadLook {C fI : Addr} {fd : FuncData} (F : Fun K "__init__" "BadLook.__init__" (inClass (top 5) 0) fI fd) (h1 : PySem.W.findIn K (.ref C) "__init__" = some (some (.ref fI))) (h2 : PySem.W.typeIn K (.ref fI) = some (.type "function"))
    (h3 : PySem.W.findIn K (.ref C) "look" = some none) : Ini1 P w K mg base C "look" := by
  refine ⟨⟨fI, fd, h1, h2, F.ok sc_BadLook (fun vs H Q E h => ?_) (fun cdv A outer s H vs Q E hr h => ?_), F.binds fun _ _ _ _ _ _ us hl => match us, hl with | [_, _], _ => rfl, ⟨?_, fun r1 r2 => r1.append r2⟩⟩, h3⟩
  · obtain ⟨a, C, v, rfl, _⟩ := h
    rfl
  · obtain ⟨a, C, v, rfl, T, no, ha, k⟩ := h
    exact ⟨_, pss_one (ps_ost (pv 0) (pv 1)), _, rfl, _, rfl, a, C, rfl, T, no, .inl ⟨ha, fun d h1 h2 => k d h1 h2⟩⟩
  · obtain ⟨oc, od, kV, doc, pm, an, cdv, ct, osl, rfl, lk, hcd⟩ := F.ex
    exact fun s us ws X l1 l2 => match us, l1, ws, l2 with | [_], _, [_], _ => .of_eq rfl
theorem sc_BadChange : FnScope ["self", "index"] ["self", "index"] (defScope (inClass (top 6) 0)) := ⟨rfl, rfl, rfl, by decide +kernel, rfl, by decide +kernel, by decide +kernel⟩
theorem ini_BadChange {C fI : Addr} {fd : FuncData} (F : Fun K "__init__" "BadChange.__init__" (inClass (top 6) 0) fI fd) (h1 : PySem.W.findIn K (.ref C) "__init__" = some (some (.ref fI))) (h2 : PySem.W.typeIn K (.ref fI) = some (.type "function"))
    (h3 : PySem.W.findIn K (.ref C) "index" = some none) : Ini1 P w K mg base C "index" := by
  refine ⟨⟨fI, fd, h1, h2, F.ok sc_BadChange (fun vs H Q E h => ?_) (fun cdv A outer s H vs Q E hr h => ?_), F.binds fun _ _ _ _ _ _ us hl => match us, hl with | [_, _], _ => rfl, ⟨?_, fun r1 r2 => r1.append r2⟩⟩, h3⟩
  · obtain ⟨a, C, v, rfl, _⟩ := h
    rfl
  · obtain ⟨a, C, v, rfl, T, no, ha, k⟩ := h
    exact ⟨_, pss_one (ps_ost (pv 0) (pv 1)), _, rfl, _, rfl, a, C, rfl, T, no, .inl ⟨ha, fun d h1 h2 => k d h1 h2⟩⟩
  · obtain ⟨oc, od, kV, doc, pm, an, cdv, ct, osl, rfl, lk, hcd⟩ := F.ex
    exact fun s us ws X l1 l2 => match us, l1, ws, l2 with | [_], _, [_], _ => .of_eq rfl
theorem sc_BadSight : FnScope ["self", "index"] ["self", "index"] (defScope (inClass (top 7) 0)) := ⟨rfl, rfl, rfl, by decide +kernel, rfl, by decide +kernel, by decide +kernel⟩
theorem ini_BadSight {C fI : Addr} {fd : FuncData} (F : Fun K "__init__" "BadSight.__init__" (inClass (top 7) 0) fI fd) (h1 : PySem.W.findIn K (.ref C) "__init__" = some (some (.ref fI))) (h2 : PySem.W.typeIn K (.ref fI) = some (.type "function"))
    (h3 : PySem.W.findIn K (.ref C) "index" = some none) : Ini1 P w K mg base C "index" := by
  refine ⟨⟨fI, fd, h1, h2, F.ok sc_BadSight (fun vs H Q E h => ?_) (fun cdv A outer s H vs Q E hr h => ?_), F.binds fun _ _ _ _ _ _ us hl => match us, hl with | [_, _], _ => rfl, ⟨?_, fun r1 r2 => r1.append r2⟩⟩, h3⟩
  · obtain ⟨a, C, v, rfl, _⟩ := h
    rfl
  · obtain ⟨a, C, v, rfl, T, no, ha, k⟩ := h
    exact ⟨_, pss_one (ps_ost (pv 0) (pv 1)), _, rfl, _, rfl, a, C, rfl, T, no, .inl ⟨ha, fun d h1 h2 => k d h1 h2⟩⟩
  · obtain ⟨oc, od, kV, doc, pm, an, cdv, ct, osl, rfl, lk, hcd⟩ := F.ex
    exact fun s us ws X l1 l2 => match us, l1, ws, l2 with | [_], _, [_], _ => .of_eq rfl
theorem sc_Apart : FnScope ["self", "first", "second"] ["self", "first", "second"] (defScope (inClass (top 8) 0)) := ⟨rfl, rfl, rfl, by decide +kernel, rfl, by decide +kernel, by decide +kernel⟩
theorem ini_Apart {C fI : Addr} {fd : FuncData} (F : Fun K "__init__" "Apart.__init__" (inClass (top 8) 0) fI fd) (h1 : PySem.W.findIn K (.ref C) "__init__" = some (some (.ref fI))) (h2 : PySem.W.typeIn K (.ref fI) = some (.type "function"))
    (h3 : PySem.W.findIn K (.ref C) "first" = some none) (h4 : PySem.W.findIn K (.ref C) "second" = some none) : Ini2 P w K mg base C "first" "second" := by
  refine ⟨⟨fI, fd, h1, h2, F.ok sc_Apart (fun vs H Q E h => ?_) (fun cdv A outer s H vs Q E hr h => ?_), F.binds fun _ _ _ _ _ _ us hl => match us, hl with | [_, _, _], _ => rfl, ⟨?_, fun r1 r2 => r1.append (vals_swap2 r2)⟩⟩, h3, h4⟩
  · obtain ⟨a, C, v, u, rfl, _⟩ := h
    rfl
  · obtain ⟨a, C, v, u, rfl, T, n1, n2, ha, k⟩ := h
    exact ⟨_, pss_cons (ps_ost (pv 0) (pv 1)) (pss_one (ps_ost (pv 0) (pv 2))), _, rfl, _, rfl, a, C, rfl, T, n1, .inl ⟨ha, fun d h1 h2 => ⟨_, rfl, _, rfl, a, C, rfl, T, n2, .inr ⟨d, _, upd_same, by rw [upd_ne h2]; exact upd_same, by show 1 ≤ 900; decide, k d h1 h2⟩⟩⟩⟩
  · obtain ⟨oc, od, kV, doc, pm, an, cdv, ct, osl, rfl, lk, hcd⟩ := F.ex
    exact fun s us ws X l1 l2 => match us, l1, ws, l2 with | [_], _, [_, _], _ => .of_eq rfl
theorem sc_BadStep : FnScope ["self", "place"] ["self", "place"] (defScope (inClass (top 9) 0)) := ⟨rfl, rfl, rfl, by decide +kernel, rfl, by decide +kernel, by decide +kernel⟩
theorem ini_BadStep {C fI : Addr} {fd : FuncData} (F : Fun K "__init__" "BadStep.__init__" (inClass (top 9) 0) fI fd) (h1 : PySem.W.findIn K (.ref C) "__init__" = some (some (.ref fI))) (h2 : PySem.W.typeIn K (.ref fI) = some (.type "function"))
    (h3 : PySem.W.findIn K (.ref C) "place" = some none) : Ini1 P w K mg base C "place" := by
  refine ⟨⟨fI, fd, h1, h2, F.ok sc_BadStep (fun vs H Q E h => ?_) (fun cdv A outer s H vs Q E hr h => ?_), F.binds fun _ _ _ _ _ _ us hl => match us, hl with | [_, _], _ => rfl, ⟨?_, fun r1 r2 => r1.append r2⟩⟩, h3⟩
  · obtain ⟨a, C, v, rfl, _⟩ := h
    rfl
  · obtain ⟨a, C, v, rfl, T, no, ha, k⟩ := h
    exact ⟨_, pss_one (ps_ost (pv 0) (pv 1)), _, rfl, _, rfl, a, C, rfl, T, no, .inl ⟨ha, fun d h1 h2 => k d h1 h2⟩⟩
  · obtain ⟨oc, od, kV, doc, pm, an, cdv, ct, osl, rfl, lk, hcd⟩ := F.ex
    exact fun s us ws X l1 l2 => match us, l1, ws, l2 with | [_], _, [_], _ => .of_eq rfl
theorem sc_BadIndex : FnScope ["self", "thing"] ["self", "thing"] (defScope (inClass (top 11) 0)) := ⟨rfl, rfl, rfl, by decide +kernel, rfl, by decide +kernel, by decide +kernel⟩
theorem ini_BadIndex {C fI : Addr} {fd : FuncData} (F : Fun K "__init__" "BadIndex.__init__" (inClass (top 11) 0) fI fd) (h1 : PySem.W.findIn K (.ref C) "__init__" = some (some (.ref fI))) (h2 : PySem.W.typeIn K (.ref fI) = some (.type "function"))
    (h3 : PySem.W.findIn K (.ref C) "thing" = some none) : Ini1 P w K mg base C "thing" := by
  refine ⟨⟨fI, fd, h1, h2, F.ok sc_BadIndex (fun vs H Q E h => ?_) (fun cdv A outer s H vs Q E hr h => ?_), F.binds fun _ _ _ _ _ _ us hl => match us, hl with | [_, _], _ => rfl, ⟨?_, fun r1 r2 => r1.append r2⟩⟩, h3⟩
  · obtain ⟨a, C, v, rfl, _⟩ := h
    rfl
  · obtain ⟨a, C, v, rfl, T, no, ha, k⟩ := h
    exact ⟨_, pss_one (ps_ost (pv 0) (pv 1)), _, rfl, _, rfl, a, C, rfl, T, no, .inl ⟨ha, fun d h1 h2 => k d h1 h2⟩⟩
  · obtain ⟨oc, od, kV, doc, pm, an, cdv, ct, osl, rfl, lk, hcd⟩ := F.ex
    exact fun s us ws X l1 l2 => match us, l1, ws, l2 with | [_], _, [_], _ => .of_eq rfl
theorem sc_NotOne : FnScope ["self", "first", "second"] ["self", "first", "second"] (defScope (inClass (top 12) 0)) := ⟨rfl, rfl, rfl, by decide +kernel, rfl, by decide +kernel, by decide +kernel⟩
theorem ini_NotOne {C fI : Addr} {fd : FuncData} (F : Fun K "__init__" "NotOne.__init__" (inClass (top 12) 0) fI fd) (h1 : PySem.W.findIn K (.ref C) "__init__" = some (some (.ref fI))) (h2 : PySem.W.typeIn K (.ref fI) = some (.type "function"))
    (h3 : PySem.W.findIn K (.ref C) "first" = some none) (h4 : PySem.W.findIn K (.ref C) "second" = some none) : Ini2 P w K mg base C "first" "second" := by
  refine ⟨⟨fI, fd, h1, h2, F.ok sc_NotOne (fun vs H Q E h => ?_) (fun cdv A outer s H vs Q E hr h => ?_), F.binds fun _ _ _ _ _ _ us hl => match us, hl with | [_, _, _], _ => rfl, ⟨?_, fun r1 r2 => r1.append (vals_swap2 r2)⟩⟩, h3, h4⟩
  · obtain ⟨a, C, v, u, rfl, _⟩ := h
    rfl
  · obtain ⟨a, C, v, u, rfl, T, n1, n2, ha, k⟩ := h
    exact ⟨_, pss_cons (ps_ost (pv 0) (pv 1)) (pss_one (ps_ost (pv 0) (pv 2))), _, rfl, _, rfl, a, C, rfl, T, n1, .inl ⟨ha, fun d h1 h2 => ⟨_, rfl, _, rfl, a, C, rfl, T, n2, .inr ⟨d, _, upd_same, by rw [upd_ne h2]; exact upd_same, by show 1 ≤ 900; decide, k d h1 h2⟩⟩⟩⟩
  · obtain ⟨oc, od, kV, doc, pm, an, cdv, ct, osl, rfl, lk, hcd⟩ := F.ex
    exact fun s us ws X l1 l2 => match us, l1, ws, l2 with | [_], _, [_, _], _ => .of_eq rfl
theorem sc_Known : FnScope ["self", "outcome"] ["self", "outcome"] (defScope (inClass (top 13) 0)) := ⟨rfl, rfl, rfl, by decide +kernel, rfl, by decide +kernel, by decide +kernel⟩
theorem ini_Known {C fI : Addr} {fd : FuncData} (F : Fun K "__init__" "Known.__init__" (inClass (top 13) 0) fI fd) (h1 : PySem.W.findIn K (.ref C) "__init__" = some (some (.ref fI))) (h2 : PySem.W.typeIn K (.ref fI) = some (.type "function"))
    (h3 : PySem.W.findIn K (.ref C) "outcome" = some none) : Ini1 P w K mg base C "outcome" := by
  refine ⟨⟨fI, fd, h1, h2, F.ok sc_Known (fun vs H Q E h => ?_) (fun cdv A outer s H vs Q E hr h => ?_), F.binds fun _ _ _ _ _ _ us hl => match us, hl with | [_, _], _ => rfl, ⟨?_, fun r1 r2 => r1.append r2⟩⟩, h3⟩
  · obtain ⟨a, C, v, rfl, _⟩ := h
    rfl
  · obtain ⟨a, C, v, rfl, T, no, ha, k⟩ := h
    exact ⟨_, pss_one (ps_ost (pv 0) (pv 1)), _, rfl, _, rfl, a, C, rfl, T, no, .inl ⟨ha, fun d h1 h2 => k d h1 h2⟩⟩
  · obtain ⟨oc, od, kV, doc, pm, an, cdv, ct, osl, rfl, lk, hcd⟩ := F.ex
    exact fun s us ws X l1 l2 => match us, l1, ws, l2 with | [_], _, [_], _ => .of_eq rfl
theorem sc_BadSort : FnScope ["self", "thing"] ["self", "thing"] (defScope (inClass (top 14) 0)) := ⟨rfl, rfl, rfl, by decide +kernel, rfl, by decide +kernel, by decide +kernel⟩
theorem ini_BadSort {C fI : Addr} {fd : FuncData} (F : Fun K "__init__" "BadSort.__init__" (inClass (top 14) 0) fI fd) (h1 : PySem.W.findIn K (.ref C) "__init__" = some (some (.ref fI))) (h2 : PySem.W.typeIn K (.ref fI) = some (.type "function"))
    (h3 : PySem.W.findIn K (.ref C) "thing" = some none) : Ini1 P w K mg base C "thing" := by
  refine ⟨⟨fI, fd, h1, h2, F.ok sc_BadSort (fun vs H Q E h => ?_) (fun cdv A outer s H vs Q E hr h => ?_), F.binds fun _ _ _ _ _ _ us hl => match us, hl with | [_, _], _ => rfl, ⟨?_, fun r1 r2 => r1.append r2⟩⟩, h3⟩
  · obtain ⟨a, C, v, rfl, _⟩ := h
    rfl
  · obtain ⟨a, C, v, rfl, T, no, ha, k⟩ := h
    exact ⟨_, pss_one (ps_ost (pv 0) (pv 1)), _, rfl, _, rfl, a, C, rfl, T, no, .inl ⟨ha, fun d h1 h2 => k d h1 h2⟩⟩
  · obtain ⟨oc, od, kV, doc, pm, an, cdv, ct, osl, rfl, lk, hcd⟩ := F.ex
    exact fun s us ws X l1 l2 => match us, l1, ws, l2 with | [_], _, [_], _ => .of_eq rfl
theorem sc_NotTrue : FnScope ["self", "index"] ["self", "index"] (defScope (inClass (top 15) 0)) := ⟨rfl, rfl, rfl, by decide +kernel, rfl, by decide +kernel, by decide +kernel⟩
theorem ini_NotTrue {C fI : Addr} {fd : FuncData} (F : Fun K "__init__" "NotTrue.__init__" (inClass (top 15) 0) fI fd) (h1 : PySem.W.findIn K (.ref C) "__init__" = some (some (.ref fI))) (h2 : PySem.W.typeIn K (.ref fI) = some (.type "function"))
    (h3 : PySem.W.findIn K (.ref C) "index" = some none) : Ini1 P w K mg base C "index" := by
  refine ⟨⟨fI, fd, h1, h2, F.ok sc_NotTrue (fun vs H Q E h => ?_) (fun cdv A outer s H vs Q E hr h => ?_), F.binds fun _ _ _ _ _ _ us hl => match us, hl with | [_, _], _ => rfl, ⟨?_, fun r1 r2 => r1.append r2⟩⟩, h3⟩
  · obtain ⟨a, C, v, rfl, _⟩ := h
    rfl
  · obtain ⟨a, C, v, rfl, T, no, ha, k⟩ := h
    exact ⟨_, pss_one (ps_ost (pv 0) (pv 1)), _, rfl, _, rfl, a, C, rfl, T, no, .inl ⟨ha, fun d h1 h2 => k d h1 h2⟩⟩
  · obtain ⟨oc, od, kV, doc, pm, an, cdv, ct, osl, rfl, lk, hcd⟩ := F.ex
    exact fun s us ws X l1 l2 => match us, l1, ws, l2 with | [_], _, [_], _ => .of_eq rfl
theorem sc_BadPattern : FnScope ["self", "thing"] ["self", "thing"] (defScope (inClass (top 16) 0)) := ⟨rfl, rfl, rfl, by decide +kernel, rfl, by decide +kernel, by decide +kernel⟩
theorem ini_BadPattern {C fI : Addr} {fd : FuncData} (F : Fun K "__init__" "BadPattern.__init__" (inClass (top 16) 0) fI fd) (h1 : PySem.W.findIn K (.ref C) "__init__" = some (some (.ref fI))) (h2 : PySem.W.typeIn K (.ref fI) = some (.type "function"))
    (h3 : PySem.W.findIn K (.ref C) "thing" = some none) : Ini1 P w K mg base C "thing" := by
  refine ⟨⟨fI, fd, h1, h2, F.ok sc_BadPattern (fun vs H Q E h => ?_) (fun cdv A outer s H vs Q E hr h => ?_), F.binds fun _ _ _ _ _ _ us hl => match us, hl with | [_, _], _ => rfl, ⟨?_, fun r1 r2 => r1.append r2⟩⟩, h3⟩
  · obtain ⟨a, C, v, rfl, _⟩ := h
    rfl
  · obtain ⟨a, C, v, rfl, T, no, ha, k⟩ := h
    exact ⟨_, pss_one (ps_ost (pv 0) (pv 1)), _, rfl, _, rfl, a, C, rfl, T, no, .inl ⟨ha, fun d h1 h2 => k d h1 h2⟩⟩
  · obtain ⟨oc, od, kV, doc, pm, an, cdv, ct, osl, rfl, lk, hcd⟩ := F.ex
    exact fun s us ws X l1 l2 => match us, l1, ws, l2 with | [_], _, [_], _ => .of_eq rfl
theorem sc_BadCount : FnScope ["self", "n"] ["self", "n"] (defScope (inClass (top 17) 0)) := ⟨rfl, rfl, rfl, by decide +kernel, rfl, by decide +kernel, by decide +kernel⟩
theorem ini_BadCount {C fI : Addr} {fd : FuncData} (F : Fun K "__init__" "BadCount.__init__" (inClass (top 17) 0) fI fd) (h1 : PySem.W.findIn K (.ref C) "__init__" = some (some (.ref fI))) (h2 : PySem.W.typeIn K (.ref fI) = some (.type "function"))
    (h3 : PySem.W.findIn K (.ref C) "n" = some none) : Ini1 P w K mg base C "n" := by
  refine ⟨⟨fI, fd, h1, h2, F.ok sc_BadCount (fun vs H Q E h => ?_) (fun cdv A outer s H vs Q E hr h => ?_), F.binds fun _ _ _ _ _ _ us hl => match us, hl with | [_, _], _ => rfl, ⟨?_, fun r1 r2 => r1.append r2⟩⟩, h3⟩
  · obtain ⟨a, C, v, rfl, _⟩ := h
    rfl
  · obtain ⟨a, C, v, rfl, T, no, ha, k⟩ := h
    exact ⟨_, pss_one (ps_ost (pv 0) (pv 1)), _, rfl, _, rfl, a, C, rfl, T, no, .inl ⟨ha, fun d h1 h2 => k d h1 h2⟩⟩
  · obtain ⟨oc, od, kV, doc, pm, an, cdv, ct, osl, rfl, lk, hcd⟩ := F.ex
    exact fun s us ws X l1 l2 => match us, l1, ws, l2 with | [_], _, [_], _ => .of_eq rfl
theorem sc_NoBranch : FnScope ["self", "name"] ["self", "name"] (defScope (inClass (top 19) 0)) := ⟨rfl, rfl, rfl, by decide +kernel, rfl, by decide +kernel, by decide +kernel⟩
theorem ini_NoBranch {C fI : Addr} {fd : FuncData} (F : Fun K "__init__" "NoBranch.__init__" (inClass (top 19) 0) fI fd) (h1 : PySem.W.findIn K (.ref C) "__init__" = some (some (.ref fI))) (h2 : PySem.W.typeIn K (.ref fI) = some (.type "function"))
    (h3 : PySem.W.findIn K (.ref C) "name" = some none) : Ini1 P w K mg base C "name" := by
  refine ⟨⟨fI, fd, h1, h2, F.ok sc_NoBranch (fun vs H Q E h => ?_) (fun cdv A outer s H vs Q E hr h => ?_), F.binds fun _ _ _ _ _ _ us hl => match us, hl with | [_, _], _ => rfl, ⟨?_, fun r1 r2 => r1.append r2⟩⟩, h3⟩
  · obtain ⟨a, C, v, rfl, _⟩ := h
    rfl
  · obtain ⟨a, C, v, rfl, T, no, ha, k⟩ := h
    exact ⟨_, pss_one (ps_ost (pv 0) (pv 1)), _, rfl, _, rfl, a, C, rfl, T, no, .inl ⟨ha, fun d h1 h2 => k d h1 h2⟩⟩
  · obtain ⟨oc, od, kV, doc, pm, an, cdv, ct, osl, rfl, lk, hcd⟩ := F.ex
    exact fun s us ws X l1 l2 => match us, l1, ws, l2 with | [_], _, [_], _ => .of_eq rfl
theorem sc_TakenBranch : FnScope ["self", "name"] ["self", "name"] (defScope (inClass (top 20) 0)) := ⟨rfl, rfl, rfl, by decide +kernel, rfl, by decide +kernel, by decide +kernel⟩
theorem ini_TakenBranch {C fI : Addr} {fd : FuncData} (F : Fun K "__init__" "TakenBranch.__init__" (inClass (top 20) 0) fI fd) (h1 : PySem.W.findIn K (.ref C) "__init__" = some (some (.ref fI))) (h2 : PySem.W.typeIn K (.ref fI) = some (.type "function"))
    (h3 : PySem.W.findIn K (.ref C) "name" = some none) : Ini1 P w K mg base C "name" := by
  refine ⟨⟨fI, fd, h1, h2, F.ok sc_TakenBranch (fun vs H Q E h => ?_) (fun cdv A outer s H vs Q E hr h => ?_), F.binds fun _ _ _ _ _ _ us hl => match us, hl with | [_, _], _ => rfl, ⟨?_, fun r1 r2 => r1.append r2⟩⟩, h3⟩
  · obtain ⟨a, C, v, rfl, _⟩ := h
    rfl
  · obtain ⟨a, C, v, rfl, T, no, ha, k⟩ := h
    exact ⟨_, pss_one (ps_ost (pv 0) (pv 1)), _, rfl, _, rfl, a, C, rfl, T, no, .inl ⟨ha, fun d h1 h2 => k d h1 h2⟩⟩
  · obtain ⟨oc, od, kV, doc, pm, an, cdv, ct, osl, rfl, lk, hcd⟩ := F.ex
    exact fun s us ws X l1 l2 => match us, l1, ws, l2 with | [_], _, [_], _ => .of_eq rfl
theorem sc_BadLine : FnScope ["self", "index"] ["self", "index"] (defScope (inClass (top 22) 0)) := ⟨rfl, rfl, rfl, by decide +kernel, rfl, by decide +kernel, by decide +kernel⟩
theorem ini_BadLine {C fI : Addr} {fd : FuncData} (F : Fun K "__init__" "BadLine.__init__" (inClass (top 22) 0) fI fd) (h1 : PySem.W.findIn K (.ref C) "__init__" = some (some (.ref fI))) (h2 : PySem.W.typeIn K (.ref fI) = some (.type "function"))
    (h3 : PySem.W.findIn K (.ref C) "index" = some none) : Ini1 P w K mg base C "index" := by
  refine ⟨⟨fI, fd, h1, h2, F.ok sc_BadLine (fun vs H Q E h => ?_) (fun cdv A outer s H vs Q E hr h => ?_), F.binds fun _ _ _ _ _ _ us hl => match us, hl with | [_, _], _ => rfl, ⟨?_, fun r1 r2 => r1.append r2⟩⟩, h3⟩
  · obtain ⟨a, C, v, rfl, _⟩ := h
    rfl
  · obtain ⟨a, C, v, rfl, T, no, ha, k⟩ := h
    exact ⟨_, pss_one (ps_ost (pv 0) (pv 1)), _, rfl, _, rfl, a, C, rfl, T, no, .inl ⟨ha, fun d h1 h2 => k d h1 h2⟩⟩
  · obtain ⟨oc, od, kV, doc, pm, an, cdv, ct, osl, rfl, lk, hcd⟩ := F.ex
    exact fun s us ws X l1 l2 => match us, l1, ws, l2 with | [_], _, [_], _ => .of_eq rfl
end
end K1

set_option maxHeartbeats 3900000
namespace K1
open PySem PySem.Spec PyProof.Rows L2 EV RP LV LamX
open C8 (pss_cut tCut pe_gc)
/-- an error of the class at C with these fields -/
def ExF (H : Hp) (e C : Addr) (fs : List (Str × V)) : Prop := ∃ d, H e = some (exo e C (some d)) ∧ H d = some (exd d fs)
theorem ExF.at {H : Hp} {e C : Addr} {fs : List (Str × V)} (x : ExF H e C fs) : ExAt H e C := by
  obtain ⟨d, h1, h2⟩ := x
  exact .inr ⟨d, fs, h1, h2⟩
theorem exd_tbl {d : Addr} {fs : List (Str × V)} {ps : Array Value} : exd d fs ≠ .tbl ps := fun z => by
  have z' : HO.ext _ = HO.tbl ps := z
  cases z'
theorem exd_lst {d : Addr} {fs : List (Str × V)} {xs : List V} : exd d fs ≠ .lst xs := fun z => by
  have z' : HO.ext _ = HO.lst xs := z
  cases z'
theorem exo_lst {e C : Addr} {d : Option Addr} {xs : List V} : exo e C d ≠ .lst xs := fun z => by
  have z' : HO.ext _ = HO.lst xs := z
  cases z'
/-- all but the list at p (and the tables) stays -/
def ExtP (p : Addr) (H H' : Hp) : Prop := ∀ b o, H b = some o → b ≠ p → (∀ ps, o ≠ .tbl ps) → H' b = some o
theorem ExF.up {p : Addr} {H H' : Hp} {e C : Addr} {fs : List (Str × V)} {xs : List V} (x : ExF H e C fs) (hp : H p = some (.lst xs)) (E : ExtP p H H') : ExF H' e C fs := by
  obtain ⟨d, h1, h2⟩ := x
  exact ⟨d, E _ _ h1 (ne_of h1 hp exo_lst) fun _ => exo_tbl, E _ _ h2 (ne_of h2 hp exd_lst) fun _ => exd_tbl⟩
theorem ExF.ext {H H' : Hp} {e C : Addr} {fs : List (Str × V)} (x : ExF H e C fs) (E : ExtN H H') : ExF H' e C fs := by
  obtain ⟨d, h1, h2⟩ := x
  exact ⟨d, E _ _ h1 fun _ => exo_tbl, E _ _ h2 fun _ => exd_tbl⟩
theorem mk_same {H : Hp} {a d : Addr} {o0 o1 o2 : HO} (ha : H a = none) (hd : upd H a o0 d = none) (ne : d ≠ a) : Same H (upd (upd (upd H a o0) d o1) a o2) := fun b u e => by
  rw [upd_ne ne] at hd
  rw [upd_ne (ne_of_none e ha), upd_ne (ne_of_none e hd), upd_ne (ne_of_none e ha)]
  exact e
section
variable {X : Cx} {C : Addr} {nm g one : Str} {p p1 p2 p3 p4 p5 p6 p7 p8 : Pos}
def tPair (C : Addr) (g : Str) : TE := fun σ H Q => ∃ v, σ[0]? = some (some v) ∧ ∀ (m e1 e2 : Addr) (H' : Hp), Same H H' → H m = none → H' m = some (.lst [.ref e1, .ref e2]) → ExF H' e1 C [(g, v)] → ExF H' e2 C [(g, v)] → Q (.ref m) H'
theorem pe_pair (T : OexC X.K C) (I : Ini1 X.prog X.w X.K X.mg X.base C g) (hr : Room 2 X.A) (hg : Gl X nm) (hm : X.mg nm = some (.ref C)) (h0 : ∀ p, PE X (.Name one p) (tVar 0)) (hd : (nm == ("__debug__" : Str)) = false := by decide) :
    PE X (.List [.Call (.Name nm p1) [.Name one p2] [] p3, .Call (.Name nm p4) [] [⟨some g, .Name one p5, p6⟩] p7] p8) (tPair C g) := by
  obtain ⟨fI, fd, h1, h2, F, B, KB⟩ := I.ex
  have q := pe_lst (X := X) (pos := p8) (pa_cons (pe_exV (p := p1) (pos := p3) T h1 h2 F hr B pass0 hg hm (pa_cons (h0 p2) pa_nil) hd) (pa_cons (pe_exK (p := p4) (pos := p7) T h1 h2 F hr KB pass0 hg hm (pk_cons (nm := some g) (kpos := p6) (h0 p5) pk_nil) rfl rfl hd) pa_nil))
  refine ⟨fun pins s σ H Q J h => q.run pins s σ H Q J ?_⟩
  obtain ⟨v, hv, k⟩ := h
  refine ⟨v, hv, by show 1 ≤ 1000; decide, fun a ha => ⟨a, C, v, rfl, T, I.no, upd_same, fun d hd2 ne => ⟨rfl, ?_⟩⟩⟩
  have s1 : Same H _ := mk_same (o1 := exd d [(g, v)]) (o2 := exo a C (some d)) ha hd2 ne
  generalize eH : upd (upd (upd H a (exo a C none)) d (exd d [(g, v)])) a (exo a C (some d)) = H1 at s1
  have x1 : ExF H1 a C [(g, v)] := ⟨d, by rw [← eH]; exact upd_same, by rw [← eH, upd_ne ne]; exact upd_same⟩
  refine ⟨v, hv, rfl, fun b hb => ⟨b, C, v, rfl, T, I.no, upd_same, fun d2 hd3 ne2 => ⟨rfl, ?_⟩⟩⟩
  have s2 : Same H1 _ := mk_same (o1 := exd d2 [(g, v)]) (o2 := exo b C (some d2)) hb hd3 ne2
  generalize eH2 : upd (upd (upd H1 b (exo b C none)) d2 (exd d2 [(g, v)])) b (exo b C (some d2)) = H2 at s2
  have x2 : ExF H2 b C [(g, v)] := ⟨d2, by rw [← eH2]; exact upd_same, by rw [← eH2, upd_ne ne2]; exact upd_same⟩
  refine ⟨by show 2 ≤ sizeLine; decide, fun m hm2 => ?_⟩
  have s3 := same_new (o := .lst [.ref a, .ref b]) hm2
  exact k m a b _ (s1.trans (s2.trans s3)) (s1.free (s2.free hm2)) upd_same (x1.ext (same_ext (s2.trans s3))) (x2.ext (same_ext s3))
end
abbrev qL : Str := (("_law_ones" : Str) ++ ".<locals>.") ++ "<lambda>"
abbrev eN : Str := "_law_e"
/-- the numbers, names and fields of the errors of one field, in order -/
def onL : List (Nat × Str × Str) := [(0, "BadPath", "path"), (1, "Blocked", "path"), (2, "BadName", "name"), (3, "BadLook", "look"), (4, "BadChange", "index"), (5, "BadSight", "index"), (7, "BadStep", "place"), (9, "BadIndex", "thing"), (11, "Known", "outcome"), (12, "BadSort", "thing"), (13, "NotTrue", "index"), (14, "BadPattern", "thing"), (15, "BadCount", "n"), (17, "NoBranch", "name"), (18, "TakenBranch", "name"), (20, "BadLine", "index")]
/-- a row of _law_ones -/
def One (ca : Str → Addr) (H : Hp) (p t : Addr) (v : V) (s : Nat × Str × Str) : Prop := ∃ m lam e1 e2, m ≠ p ∧ H t = some (.tup [.int (s.1 : Int), .ref m, .ref lam]) ∧ H m = some (.lst [.ref e1, .ref e2]) ∧ ExF H e1 (ca s.2.1) [(s.2.2, v)] ∧ ExF H e2 (ca s.2.1) [(s.2.2, v)] ∧ IsFld H qL lam eN s.2.2
theorem One.up {ca : Str → Addr} {H H' : Hp} {p t : Addr} {v : V} {s : Nat × Str × Str} {xs : List V} (x : One ca H p t v s) (hp : H p = some (.lst xs)) (E : ExtP p H H') : One ca H' p t v s := by
  obtain ⟨m, lam, e1, e2, n, h1, h2, x1, x2, c', q1, q2, q3, l1, l2⟩ := x
  exact ⟨m, lam, e1, e2, n, E _ _ h1 (ne_of h1 hp (by intro z; cases z)) (by intro ps z; cases z), E _ _ h2 n (by intro ps z; cases z), x1.up hp E, x2.up hp E, c', q1, q2, q3,
    E _ _ l1 (ne_of l1 hp fun z => by unfold LamO at z; cases z) lamO_ne, E _ _ l2 (ne_of l2 hp fun z => by unfold CodeO at z; cases z) codeO_ne⟩
theorem One.ext {ca : Str → Addr} {H H' : Hp} {p t : Addr} {v : V} {s : Nat × Str × Str} (x : One ca H p t v s) (E : ExtN H H') : One ca H' p t v s := by
  obtain ⟨m, lam, e1, e2, n, h1, h2, x1, x2, i⟩ := x
  exact ⟨m, lam, e1, e2, n, E _ _ h1 (by intro ps z; cases z), E _ _ h2 (by intro ps z; cases z), x1.ext E, x2.ext E, i.up E⟩
/-- behind i statements of _law_ones -/
def Mid (ca : Str → Addr) (Tb : Addr) (H0 : Hp) (v : V) (i : Nat) : L2.St → Hp → Prop := fun σ H => ∃ (p : Addr) (ts : List Addr), H0 p = none ∧ σ = [some v, some (.ref p)] ∧ ExtN H0 H ∧ TabS H Tb qL ∧ H p = some (.lst (ts.map V.ref)) ∧ ts.length = i ∧
  ∀ (n : Nat) (t : Addr) (s : Nat × Str × Str), ts[n]? = some t → onL[n]? = some s → One ca H p t v s
/-- the reading of one append -/
abbrev tStep (K : PySem.W.Frag) (Tb : Addr) (j : Int) (C : Addr) (g : Str) (p1 p2 p3 : Pos) : TS :=
  tDrop (tBM K "list" rAppend (tVar 1) (tCons (tTup (tCons (tC (.int j)) (tCons (tPair C g) (tCons (tLamM Tb qL (arOf eN p1) (.Attribute (.Name eN p2) g p3) (scOf eN)) tNil)))) tNil))
theorem step {K : PySem.W.Frag} {ca : Str → Addr} {Tb : Addr} {H0 : Hp} {v : V} {i : Nat} {s : Nat × Str × Str} {p1 p2 p3 : Pos} {D : Ends} {σ : L2.St} {H : Hp} (hs : onL[i]? = some s) (hi : i < 100) (M : Mid ca Tb H0 v i σ H) :
    tStep K Tb (s.1 : Int) (ca s.2.1) s.2.2 p1 p2 p3 { D with nx := Mid ca Tb H0 v (i + 1) } σ H := by
  obtain ⟨p, ts, h0, rfl, E0, T0, hp, hl, hr⟩ := M
  refine ⟨_, rfl, .inl ⟨rfl, _, SqL.of hp⟩, v, rfl, fun m e1 e2 H2 s2 nm hm x1 x2 => ⟨T0.ext s2, fun f c' H3 E3 T3 nf hc => ⟨by show 3 ≤ sizeLine; decide, fun t nt => ?_⟩⟩⟩
  have hpm : p ≠ m := ne_of_none hp nm
  have hp2 := s2 _ _ hp
  have E23 : ExtN H H3 := (same_ext s2).trans E3
  have hp3 : H3 p = some (.lst (ts.map V.ref)) := E3 _ _ hp2 (by intro ps z; cases z)
  have s4 := same_new (o := LamO f c' qL (arOf eN p1) (.Attribute (.Name eN p2) s.2.2 p3) (scOf eN)) nf
  have fl := isFld_new (q := qL) (y := eN) (fld := s.2.2) (p1 := p1) (p2 := p2) (p3 := p3) nf hc
  generalize eH4 : upd H3 f (LamO f c' qL (arOf eN p1) (.Attribute (.Name eN p2) s.2.2 p3) (scOf eN)) = H4 at *
  have s5 := same_new (o := .tup [.int (s.1 : Int), .ref m, .ref f]) nt
  have ht : upd H4 t (.tup [.int (s.1 : Int), .ref m, .ref f]) t = some (.tup [.int (s.1 : Int), .ref m, .ref f]) := upd_same
  generalize eH5 : upd H4 t (.tup [.int (s.1 : Int), .ref m, .ref f]) = H5 at *
  have E35 : ExtN H3 H5 := same_ext (s4.trans s5)
  have E5 : ExtN H H5 := E23.trans E35
  have hp5 : H5 p = some (.lst (ts.map V.ref)) := E35 _ _ hp3 (by intro ps z; cases z)
  have P6 : ∀ o, ExtP p H5 (upd H5 p o) := fun o b u e n _ => by
    rw [upd_ne n]
    exact e
  have T5 : TabS H5 Tb qL := (T3.ext s4).ext s5
  have hm5 : H5 m = some (.lst [.ref e1, .ref e2]) := (E3.trans E35) _ _ hm (by intro ps z; cases z)
  have new : One ca H5 p t v s := ⟨m, f, e1, e2, hpm.symm, ht, hm5, x1.ext (E3.trans E35), x2.ext (E3.trans E35), fl.up (same_ext s5)⟩
  refine ⟨p, _, _, rfl, rfl, hp5, ?_, p, ts ++ [t], h0, rfl, fun b u e n => ?_, ?_, ?_, ?_, fun n t' s' h1 h2 => ?_⟩
  · rw [List.length_map, hl]
    exact Nat.lt_of_lt_of_le hi (by decide)
  · rw [upd_ne (ne_of_none e h0)]
    exact (E0.trans E5) b u e n
  · obtain ⟨ps, a1, a2, a3⟩ := T5
    refine ⟨ps, by rw [upd_ne (ne_of a1 hp5 (by intro z; cases z))]; exact a1, a2, fun pos cv hc' => ?_⟩
    obtain ⟨c0, b1, b2⟩ := a3 pos cv hc'
    exact ⟨c0, b1, by rw [upd_ne (ne_of b2 hp5 fun z => by unfold CodeO at z; cases z)]; exact b2⟩
  · rw [upd_same, List.map_append]
    rfl
  · rw [List.length_append, hl]
    rfl
  · by_cases hn : n < ts.length
    · rw [List.getElem?_append_left hn] at h1
      exact ((hr n t' s' h1 h2).ext E5).up hp5 (P6 _)
    · have hn2 : n = i := by
        have := (List.getElem?_eq_some_iff.mp h1).1
        rw [List.length_append, List.length_singleton] at this
        omega
      subst hn2
      rw [hs] at h2
      cases h2
      rw [List.getElem?_append_right (by omega), hl, Nat.sub_self] at h1
      cases h1
      exact new.up hp5 (P6 _)
section
variable {P : Program} {w : World} {K : PySem.W.Frag} {mg : Str → Option Value} {base : Heap} {ca : Str → Addr}
def spOnes (ca : Str → Addr) (Tb : Addr) : Sp := fun vs H Q _ => ∃ v, vs = [v] ∧ TabS H Tb qL ∧ ∀ (H' : Hp) (p : Addr) (ts : List Addr), ExtN H H' → TabS H' Tb qL → H' p = some (.lst (ts.map V.ref)) → ts.length = 16 → H p = none →
  (∀ (n : Nat) (t : Addr) (s : Nat × Str × Str), ts[n]? = some t → onL[n]? = some s → One ca H' p t v s) → Q (.ref p) H'
theorem scO : FnScope ["_law_one", "_law_found"] ["_law_one"] (defScope sOnes) := ⟨rfl, rfl, rfl, by decide +kernel, rfl, by decide +kernel, by decide +kernel⟩
theorem ok_ones {f c Tb : Addr} {oc kV doc pm ct : Value} {od an : Option Addr} {osl : Array (Option Value)}
    (lk : K.lookup f = some ⟨oc, od, .func (PySem.W.fnOf "_law_ones" "_law_ones" (defArgs sOnes) (defBody sOnes) (defScope sOnes) .none kV doc pm an (.ref c) ct), osl⟩) (hcd : PySem.W.codeIn K (.ref c) "_law_ones" = true) (TB : TabB base mg c Tb)
    (T : TCls K mg ca) (I : ∀ s ∈ onL, Ini1 P w K mg base (ca s.2.1) s.2.2) : FnOk P w K mg base CX0 3 f (PySem.W.fnOf "_law_ones" "_law_ones" (defArgs sOnes) (defBody sOnes) (defScope sOnes) .none kV doc pm an (.ref c) ct) ["_law_one"] (spOnes ca Tb) := by
  refine fn_of lk hcd scO (fun vs H Q E h => ?_) fun A outer s H vs Q E hr h => ?_
  · obtain ⟨v, rfl, _⟩ := h
    rfl
  · obtain ⟨v, rfl, TH, k⟩ := h
    have ox : ∀ s ∈ onL, OexC K (ca s.2.1) := fun s hs => (T.ec s.2.1 ((by decide +kernel : ∀ s ∈ onL, s.2.1 ∈ allN) s hs)).ox
    have mx : ∀ s ∈ onL, mg s.2.1 = some (.ref (ca s.2.1)) := fun s hs => T.mg s.2.1 ((by decide +kernel : ∀ s ∈ onL, s.2.1 ∈ allN) s hs)
    refine ⟨_, PSs.nox (pss_cut (ps_set (i := 1) scO.nd rfl (Or.inl rfl) (pe_lst pa_nil))
      (pss_cut (ps_expr (pe_bm PySem.F.plainAttrs_list PySem.F.slot_list_append PySem.F.type_list_append mt_append (pv 1) (pa_cons (pe_tup (pa_cons pe_int (pa_cons (pe_pair (ox _ (by decide +kernel : ((0, "BadPath", "path") : Nat × Str × Str) ∈ onL)) (I _ (by decide +kernel : ((0, "BadPath", "path") : Nat × Str × Str) ∈ onL)) hr rfl (mx _ (by decide +kernel : ((0, "BadPath", "path") : Nat × Str × Str) ∈ onL)) (fun _ => pv 0)) (pa_cons (pe_lam TB rfl (by decide +kernel) rfl) pa_nil)))) pa_nil)))
      (pss_cut (ps_expr (pe_bm PySem.F.plainAttrs_list PySem.F.slot_list_append PySem.F.type_list_append mt_append (pv 1) (pa_cons (pe_tup (pa_cons pe_int (pa_cons (pe_pair (ox _ (by decide +kernel : ((1, "Blocked", "path") : Nat × Str × Str) ∈ onL)) (I _ (by decide +kernel : ((1, "Blocked", "path") : Nat × Str × Str) ∈ onL)) hr rfl (mx _ (by decide +kernel : ((1, "Blocked", "path") : Nat × Str × Str) ∈ onL)) (fun _ => pv 0)) (pa_cons (pe_lam TB rfl (by decide +kernel) rfl) pa_nil)))) pa_nil)))
      (pss_cut (ps_expr (pe_bm PySem.F.plainAttrs_list PySem.F.slot_list_append PySem.F.type_list_append mt_append (pv 1) (pa_cons (pe_tup (pa_cons pe_int (pa_cons (pe_pair (ox _ (by decide +kernel : ((2, "BadName", "name") : Nat × Str × Str) ∈ onL)) (I _ (by decide +kernel : ((2, "BadName", "name") : Nat × Str × Str) ∈ onL)) hr rfl (mx _ (by decide +kernel : ((2, "BadName", "name") : Nat × Str × Str) ∈ onL)) (fun _ => pv 0)) (pa_cons (pe_lam TB rfl (by decide +kernel) rfl) pa_nil)))) pa_nil)))
      (pss_cut (ps_expr (pe_bm PySem.F.plainAttrs_list PySem.F.slot_list_append PySem.F.type_list_append mt_append (pv 1) (pa_cons (pe_tup (pa_cons pe_int (pa_cons (pe_pair (ox _ (by decide +kernel : ((3, "BadLook", "look") : Nat × Str × Str) ∈ onL)) (I _ (by decide +kernel : ((3, "BadLook", "look") : Nat × Str × Str) ∈ onL)) hr rfl (mx _ (by decide +kernel : ((3, "BadLook", "look") : Nat × Str × Str) ∈ onL)) (fun _ => pv 0)) (pa_cons (pe_lam TB rfl (by decide +kernel) rfl) pa_nil)))) pa_nil)))
      (pss_cut (ps_expr (pe_bm PySem.F.plainAttrs_list PySem.F.slot_list_append PySem.F.type_list_append mt_append (pv 1) (pa_cons (pe_tup (pa_cons pe_int (pa_cons (pe_pair (ox _ (by decide +kernel : ((4, "BadChange", "index") : Nat × Str × Str) ∈ onL)) (I _ (by decide +kernel : ((4, "BadChange", "index") : Nat × Str × Str) ∈ onL)) hr rfl (mx _ (by decide +kernel : ((4, "BadChange", "index") : Nat × Str × Str) ∈ onL)) (fun _ => pv 0)) (pa_cons (pe_lam TB rfl (by decide +kernel) rfl) pa_nil)))) pa_nil)))
      (pss_cut (ps_expr (pe_bm PySem.F.plainAttrs_list PySem.F.slot_list_append PySem.F.type_list_append mt_append (pv 1) (pa_cons (pe_tup (pa_cons pe_int (pa_cons (pe_pair (ox _ (by decide +kernel : ((5, "BadSight", "index") : Nat × Str × Str) ∈ onL)) (I _ (by decide +kernel : ((5, "BadSight", "index") : Nat × Str × Str) ∈ onL)) hr rfl (mx _ (by decide +kernel : ((5, "BadSight", "index") : Nat × Str × Str) ∈ onL)) (fun _ => pv 0)) (pa_cons (pe_lam TB rfl (by decide +kernel) rfl) pa_nil)))) pa_nil)))
      (pss_cut (ps_expr (pe_bm PySem.F.plainAttrs_list PySem.F.slot_list_append PySem.F.type_list_append mt_append (pv 1) (pa_cons (pe_tup (pa_cons pe_int (pa_cons (pe_pair (ox _ (by decide +kernel : ((7, "BadStep", "place") : Nat × Str × Str) ∈ onL)) (I _ (by decide +kernel : ((7, "BadStep", "place") : Nat × Str × Str) ∈ onL)) hr rfl (mx _ (by decide +kernel : ((7, "BadStep", "place") : Nat × Str × Str) ∈ onL)) (fun _ => pv 0)) (pa_cons (pe_lam TB rfl (by decide +kernel) rfl) pa_nil)))) pa_nil)))
      (pss_cut (ps_expr (pe_bm PySem.F.plainAttrs_list PySem.F.slot_list_append PySem.F.type_list_append mt_append (pv 1) (pa_cons (pe_tup (pa_cons pe_int (pa_cons (pe_pair (ox _ (by decide +kernel : ((9, "BadIndex", "thing") : Nat × Str × Str) ∈ onL)) (I _ (by decide +kernel : ((9, "BadIndex", "thing") : Nat × Str × Str) ∈ onL)) hr rfl (mx _ (by decide +kernel : ((9, "BadIndex", "thing") : Nat × Str × Str) ∈ onL)) (fun _ => pv 0)) (pa_cons (pe_lam TB rfl (by decide +kernel) rfl) pa_nil)))) pa_nil)))
      (pss_cut (ps_expr (pe_bm PySem.F.plainAttrs_list PySem.F.slot_list_append PySem.F.type_list_append mt_append (pv 1) (pa_cons (pe_tup (pa_cons pe_int (pa_cons (pe_pair (ox _ (by decide +kernel : ((11, "Known", "outcome") : Nat × Str × Str) ∈ onL)) (I _ (by decide +kernel : ((11, "Known", "outcome") : Nat × Str × Str) ∈ onL)) hr rfl (mx _ (by decide +kernel : ((11, "Known", "outcome") : Nat × Str × Str) ∈ onL)) (fun _ => pv 0)) (pa_cons (pe_lam TB rfl (by decide +kernel) rfl) pa_nil)))) pa_nil)))
      (pss_cut (ps_expr (pe_bm PySem.F.plainAttrs_list PySem.F.slot_list_append PySem.F.type_list_append mt_append (pv 1) (pa_cons (pe_tup (pa_cons pe_int (pa_cons (pe_pair (ox _ (by decide +kernel : ((12, "BadSort", "thing") : Nat × Str × Str) ∈ onL)) (I _ (by decide +kernel : ((12, "BadSort", "thing") : Nat × Str × Str) ∈ onL)) hr rfl (mx _ (by decide +kernel : ((12, "BadSort", "thing") : Nat × Str × Str) ∈ onL)) (fun _ => pv 0)) (pa_cons (pe_lam TB rfl (by decide +kernel) rfl) pa_nil)))) pa_nil)))
      (pss_cut (ps_expr (pe_bm PySem.F.plainAttrs_list PySem.F.slot_list_append PySem.F.type_list_append mt_append (pv 1) (pa_cons (pe_tup (pa_cons pe_int (pa_cons (pe_pair (ox _ (by decide +kernel : ((13, "NotTrue", "index") : Nat × Str × Str) ∈ onL)) (I _ (by decide +kernel : ((13, "NotTrue", "index") : Nat × Str × Str) ∈ onL)) hr rfl (mx _ (by decide +kernel : ((13, "NotTrue", "index") : Nat × Str × Str) ∈ onL)) (fun _ => pv 0)) (pa_cons (pe_lam TB rfl (by decide +kernel) rfl) pa_nil)))) pa_nil)))
      (pss_cut (ps_expr (pe_bm PySem.F.plainAttrs_list PySem.F.slot_list_append PySem.F.type_list_append mt_append (pv 1) (pa_cons (pe_tup (pa_cons pe_int (pa_cons (pe_pair (ox _ (by decide +kernel : ((14, "BadPattern", "thing") : Nat × Str × Str) ∈ onL)) (I _ (by decide +kernel : ((14, "BadPattern", "thing") : Nat × Str × Str) ∈ onL)) hr rfl (mx _ (by decide +kernel : ((14, "BadPattern", "thing") : Nat × Str × Str) ∈ onL)) (fun _ => pv 0)) (pa_cons (pe_lam TB rfl (by decide +kernel) rfl) pa_nil)))) pa_nil)))
      (pss_cut (ps_expr (pe_bm PySem.F.plainAttrs_list PySem.F.slot_list_append PySem.F.type_list_append mt_append (pv 1) (pa_cons (pe_tup (pa_cons pe_int (pa_cons (pe_pair (ox _ (by decide +kernel : ((15, "BadCount", "n") : Nat × Str × Str) ∈ onL)) (I _ (by decide +kernel : ((15, "BadCount", "n") : Nat × Str × Str) ∈ onL)) hr rfl (mx _ (by decide +kernel : ((15, "BadCount", "n") : Nat × Str × Str) ∈ onL)) (fun _ => pv 0)) (pa_cons (pe_lam TB rfl (by decide +kernel) rfl) pa_nil)))) pa_nil)))
      (pss_cut (ps_expr (pe_bm PySem.F.plainAttrs_list PySem.F.slot_list_append PySem.F.type_list_append mt_append (pv 1) (pa_cons (pe_tup (pa_cons pe_int (pa_cons (pe_pair (ox _ (by decide +kernel : ((17, "NoBranch", "name") : Nat × Str × Str) ∈ onL)) (I _ (by decide +kernel : ((17, "NoBranch", "name") : Nat × Str × Str) ∈ onL)) hr rfl (mx _ (by decide +kernel : ((17, "NoBranch", "name") : Nat × Str × Str) ∈ onL)) (fun _ => pv 0)) (pa_cons (pe_lam TB rfl (by decide +kernel) rfl) pa_nil)))) pa_nil)))
      (pss_cut (ps_expr (pe_bm PySem.F.plainAttrs_list PySem.F.slot_list_append PySem.F.type_list_append mt_append (pv 1) (pa_cons (pe_tup (pa_cons pe_int (pa_cons (pe_pair (ox _ (by decide +kernel : ((18, "TakenBranch", "name") : Nat × Str × Str) ∈ onL)) (I _ (by decide +kernel : ((18, "TakenBranch", "name") : Nat × Str × Str) ∈ onL)) hr rfl (mx _ (by decide +kernel : ((18, "TakenBranch", "name") : Nat × Str × Str) ∈ onL)) (fun _ => pv 0)) (pa_cons (pe_lam TB rfl (by decide +kernel) rfl) pa_nil)))) pa_nil)))
      (pss_cut (ps_expr (pe_bm PySem.F.plainAttrs_list PySem.F.slot_list_append PySem.F.type_list_append mt_append (pv 1) (pa_cons (pe_tup (pa_cons pe_int (pa_cons (pe_pair (ox _ (by decide +kernel : ((20, "BadLine", "index") : Nat × Str × Str) ∈ onL)) (I _ (by decide +kernel : ((20, "BadLine", "index") : Nat × Str × Str) ∈ onL)) hr rfl (mx _ (by decide +kernel : ((20, "BadLine", "index") : Nat × Str × Str) ∈ onL)) (fun _ => pv 0)) (pa_cons (pe_lam TB rfl (by decide +kernel) rfl) pa_nil)))) pa_nil)))
      (pss_one (ps_ret (pv 1)))))))))))))))))))), ?_⟩
    refine ⟨Mid ca Tb H v 0, ⟨Nat.zero_le _, fun p hp => ⟨p, [], hp, rfl, same_ext (same_new hp), TH.ext (same_new hp), upd_same, rfl, fun n t s h1 _ => by simp at h1⟩⟩, fun σ1 H1 M1 => ?_⟩
    refine ⟨Mid ca Tb H v 1, step (s := (0, "BadPath", "path")) rfl (by decide) M1, fun σ2 H2 M2 => ?_⟩
    refine ⟨Mid ca Tb H v 2, step (s := (1, "Blocked", "path")) rfl (by decide) M2, fun σ3 H3 M3 => ?_⟩
    refine ⟨Mid ca Tb H v 3, step (s := (2, "BadName", "name")) rfl (by decide) M3, fun σ4 H4 M4 => ?_⟩
    refine ⟨Mid ca Tb H v 4, step (s := (3, "BadLook", "look")) rfl (by decide) M4, fun σ5 H5 M5 => ?_⟩
    refine ⟨Mid ca Tb H v 5, step (s := (4, "BadChange", "index")) rfl (by decide) M5, fun σ6 H6 M6 => ?_⟩
    refine ⟨Mid ca Tb H v 6, step (s := (5, "BadSight", "index")) rfl (by decide) M6, fun σ7 H7 M7 => ?_⟩
    refine ⟨Mid ca Tb H v 7, step (s := (7, "BadStep", "place")) rfl (by decide) M7, fun σ8 H8 M8 => ?_⟩
    refine ⟨Mid ca Tb H v 8, step (s := (9, "BadIndex", "thing")) rfl (by decide) M8, fun σ9 H9 M9 => ?_⟩
    refine ⟨Mid ca Tb H v 9, step (s := (11, "Known", "outcome")) rfl (by decide) M9, fun σ10 H10 M10 => ?_⟩
    refine ⟨Mid ca Tb H v 10, step (s := (12, "BadSort", "thing")) rfl (by decide) M10, fun σ11 H11 M11 => ?_⟩
    refine ⟨Mid ca Tb H v 11, step (s := (13, "NotTrue", "index")) rfl (by decide) M11, fun σ12 H12 M12 => ?_⟩
    refine ⟨Mid ca Tb H v 12, step (s := (14, "BadPattern", "thing")) rfl (by decide) M12, fun σ13 H13 M13 => ?_⟩
    refine ⟨Mid ca Tb H v 13, step (s := (15, "BadCount", "n")) rfl (by decide) M13, fun σ14 H14 M14 => ?_⟩
    refine ⟨Mid ca Tb H v 14, step (s := (17, "NoBranch", "name")) rfl (by decide) M14, fun σ15 H15 M15 => ?_⟩
    refine ⟨Mid ca Tb H v 15, step (s := (18, "TakenBranch", "name")) rfl (by decide) M15, fun σ16 H16 M16 => ?_⟩
    refine ⟨Mid ca Tb H v 16, step (s := (20, "BadLine", "index")) rfl (by decide) M16, fun σ17 H17 M17 => ?_⟩
    obtain ⟨p, ts, h0, rfl, E0, T0, hp, hl, hr'⟩ := M17
    exact ⟨_, rfl, k _ p ts E0 T0 hp hl h0 hr'⟩
end
end K1

set_option maxHeartbeats 3900000
namespace K1
open PySem PySem.Spec PyProof.Rows L2 EV RP LV LamX
open C8 (pss_cut tCut pe_gc)
theorem ExF.same {H H' : Hp} {e C : Addr} {fs : List (Str × V)} (x : ExF H e C fs) (E : Same H H') : ExF H' e C fs := x.ext (same_ext E)
section
variable {X : Cx} {C : Addr} {nm g one : Str} {p p1 p2 p3 p4 p5 p6 p7 p8 q1 q2 q3 : Pos}
abbrev fs2 (v u : V) : List (Str × V) := [("second", u), ("first", v)]
def tPair2 (C : Addr) : TE := fun σ H Q => ∃ v u, σ[0]? = some (some v) ∧ σ[1]? = some (some u) ∧ ∀ (m e1 e2 : Addr) (H' : Hp), Same H H' → H m = none → H' m = some (.lst [.ref e1, .ref e2]) → ExF H' e1 C (fs2 v u) → ExF H' e2 C (fs2 v u) → Q (.ref m) H'
theorem mk_same2 {H : Hp} {a d : Addr} {o0 o1 o2 o3 : HO} (ha : H a = none) (hd : upd H a o0 d = none) (ne : d ≠ a) : Same H (upd (upd (upd (upd H a o0) d o1) a o2) d o3) := fun b u e => by
  rw [upd_ne ne] at hd
  rw [upd_ne (ne_of_none e hd), upd_ne (ne_of_none e ha), upd_ne (ne_of_none e hd), upd_ne (ne_of_none e ha)]
  exact e
theorem pe_pair2 {other : Str} (T : OexC X.K C) (I : Ini2 X.prog X.w X.K X.mg X.base C "first" "second") (hr : Room 2 X.A) (hg : Gl X nm) (hm : X.mg nm = some (.ref C)) (h0 : ∀ p, PE X (.Name one p) (tVar 0)) (h1 : ∀ p, PE X (.Name other p) (tVar 1)) (hd : (nm == ("__debug__" : Str)) = false := by decide) :
    PE X (.List [.Call (.Name nm p1) [.Name one p2, .Name other q1] [] p3, .Call (.Name nm p4) [] [⟨some "second", .Name other p5, p6⟩, ⟨some "first", .Name one q2, q3⟩] p7] p8) (tPair2 C) := by
  obtain ⟨fI, fd, i1, i2, F, B, KB⟩ := I.ex
  have q := pe_lst (X := X) (pos := p8) (pa_cons (pe_exV (p := p1) (pos := p3) T i1 i2 F hr B pass0 hg hm (pa_cons (h0 p2) (pa_cons (h1 q1) pa_nil)) hd) (pa_cons (pe_exK (p := p4) (pos := p7) T i1 i2 F hr KB pass0 hg hm (pk_cons (nm := some "second") (kpos := p6) (h1 p5) (pk_cons (nm := some "first") (kpos := q3) (h0 q2) pk_nil)) rfl rfl hd) pa_nil))
  refine ⟨fun pins s σ H Q J h => q.run pins s σ H Q J ?_⟩
  obtain ⟨v, u, hv, hu, k⟩ := h
  refine ⟨v, hv, u, hu, by show 2 ≤ 1000; decide, fun a ha => ⟨a, C, v, u, rfl, T, I.no1, I.no2, upd_same, fun d hd2 ne => ⟨rfl, ?_⟩⟩⟩
  have s1 : Same H _ := mk_same2 (o1 := exd d [("first", v)]) (o2 := exo a C (some d)) (o3 := exd d (fs2 v u)) ha hd2 ne
  generalize eH : upd (upd (upd (upd H a (exo a C none)) d (exd d [("first", v)])) a (exo a C (some d))) d (exd d (fs2 v u)) = H1 at s1
  have x1 : ExF H1 a C (fs2 v u) := ⟨d, by rw [← eH, upd_ne ne.symm]; exact upd_same, by rw [← eH]; exact upd_same⟩
  refine ⟨u, hu, v, hv, rfl, fun b hb => ⟨b, C, v, u, rfl, T, I.no1, I.no2, upd_same, fun d2 hd3 ne2 => ⟨rfl, ?_⟩⟩⟩
  have s2 : Same H1 _ := mk_same2 (o1 := exd d2 [("first", v)]) (o2 := exo b C (some d2)) (o3 := exd d2 (fs2 v u)) hb hd3 ne2
  generalize eH2 : upd (upd (upd (upd H1 b (exo b C none)) d2 (exd d2 [("first", v)])) b (exo b C (some d2))) d2 (exd d2 (fs2 v u)) = H2 at s2
  have x2 : ExF H2 b C (fs2 v u) := ⟨d2, by rw [← eH2, upd_ne ne2.symm]; exact upd_same, by rw [← eH2]; exact upd_same⟩
  refine ⟨by show 2 ≤ sizeLine; decide, fun m hm2 => ?_⟩
  have s3 := same_new (o := .lst [.ref a, .ref b]) hm2
  exact k m a b _ (s1.trans (s2.trans s3)) (s1.free (s2.free hm2)) upd_same (x1.same (s2.trans s3)) (x2.same s3)
end
/-- a row of _law_twos -/
def Two (ca : Str → Addr) (H : Hp) (t : Addr) (v u : V) (j : Int) (nm : Str) : Prop := ∃ m e1 e2, H t = some (.tup [.int j, .ref m]) ∧ H m = some (.lst [.ref e1, .ref e2]) ∧ ExF H e1 (ca nm) (fs2 v u) ∧ ExF H e2 (ca nm) (fs2 v u)
theorem Two.same {ca : Str → Addr} {H H' : Hp} {t : Addr} {v u : V} {j : Int} {nm : Str} (x : Two ca H t v u j nm) (E : Same H H') : Two ca H' t v u j nm := by
  obtain ⟨m, e1, e2, h1, h2, x1, x2⟩ := x
  exact ⟨m, e1, e2, E _ _ h1, E _ _ h2, x1.same E, x2.same E⟩
/-- a row of _law_bares -/
def Bare (ca : Str → Addr) (H : Hp) (t : Addr) (j : Int) (nm : Str) : Prop := ∃ e, H t = some (.tup [.int j, .ref e]) ∧ H e = some (exo e (ca nm) none)
theorem Bare.same {ca : Str → Addr} {H H' : Hp} {t : Addr} {j : Int} {nm : Str} (x : Bare ca H t j nm) (E : Same H H') : Bare ca H' t j nm := by
  obtain ⟨e, h1, h2⟩ := x
  exact ⟨e, E _ _ h1, E _ _ h2⟩
section
variable {P : Program} {w : World} {K : PySem.W.Frag} {mg : Str → Option Value} {base : Heap} {ca : Str → Addr}
def spTwos (ca : Str → Addr) : Sp := fun vs H Q _ => ∃ v u, vs = [v, u] ∧ ∀ (H' : Hp) (p t1 t2 : Addr), Same H H' → H p = none → H' p = some (.lst [.ref t1, .ref t2]) → Two ca H' t1 v u 6 "Apart" → Two ca H' t2 v u 10 "NotOne" → Q (.ref p) H'
theorem scW : FnScope ["_law_one", "_law_other", "_law_found"] ["_law_one", "_law_other"] (defScope sTwos) := ⟨rfl, rfl, rfl, by decide +kernel, rfl, by decide +kernel, by decide +kernel⟩
theorem ok_twos {f : Addr} {fd : FuncData} (F : Fun K "_law_twos" "_law_twos" sTwos f fd) (T : TCls K mg ca) (IA : Ini2 P w K mg base (ca "Apart") "first" "second") (IN : Ini2 P w K mg base (ca "NotOne") "first" "second") :
    FnOk P w K mg base CX0 3 f fd ["_law_one", "_law_other"] (spTwos ca) := by
  refine F.ok scW (fun vs H Q E h => ?_) (fun cdv A outer s H vs Q E hr h => ?_)
  · obtain ⟨v, u, rfl, _⟩ := h
    rfl
  · obtain ⟨v, u, rfl, k⟩ := h
    have nA : ("Apart" : Str) ∈ allN := by decide +kernel
    have nN : ("NotOne" : Str) ∈ allN := by decide +kernel
    refine ⟨_, pss_cut (ps_set (i := 2) scW.nd rfl (Or.inl rfl) (pe_lst pa_nil))
      (pss_cut (ps_expr (pe_bm PySem.F.plainAttrs_list PySem.F.slot_list_append PySem.F.type_list_append mt_append (pv 2) (pa_cons (pe_tup (pa_cons pe_int (pa_cons (pe_pair2 (T.ec _ nA).ox IA hr rfl (T.mg _ nA) (fun _ => pv 0) (fun _ => pv 1)) pa_nil))) pa_nil)))
      (pss_cut (ps_expr (pe_bm PySem.F.plainAttrs_list PySem.F.slot_list_append PySem.F.type_list_append mt_append (pv 2) (pa_cons (pe_tup (pa_cons pe_int (pa_cons (pe_pair2 (T.ec _ nN).ox IN hr rfl (T.mg _ nN) (fun _ => pv 0) (fun _ => pv 1)) pa_nil))) pa_nil)))
      (pss_one (ps_ret (pv 2))))), ?_⟩
    refine ⟨fun σ H' => ∃ p, H p = none ∧ σ = [some v, some u, some (.ref p)] ∧ H' = upd H p (.lst []), ⟨Nat.zero_le _, fun p hp => ⟨p, hp, rfl, rfl⟩⟩, ?_⟩
    rintro _ _ ⟨p, hp, rfl, rfl⟩
    have s0 := same_new (o := .lst []) hp
    have stepW : ∀ {H1 : Hp} {m e1 e2 t : Addr} {H2 : Hp} {xs : List V} {j : Int} {nm : Str}, H1 p = some (.lst xs) → Same H1 H2 → H1 m = none → H2 m = some (.lst [.ref e1, .ref e2]) → ExF H2 e1 (ca nm) (fs2 v u) → ExF H2 e2 (ca nm) (fs2 v u) → H2 t = none →
        (upd H2 t (.tup [.int j, .ref m])) p = some (.lst xs) ∧ Two ca (upd (upd H2 t (.tup [.int j, .ref m])) p (.lst (xs ++ [.ref t]))) t v u j nm := by
      intro H1 m e1 e2 t H2 xs j nm h1 s2 nm2 hm x1 x2 nt
      have s3 := same_new (o := .tup [.int j, .ref m]) nt
      have hp3 := s3 _ _ (s2 _ _ h1)
      have hpm : m ≠ p := (ne_of_none h1 nm2).symm
      refine ⟨hp3, m, e1, e2, ?_, ?_, ?_, ?_⟩
      · rw [upd_ne (ne_of upd_same hp3 (by intro z; cases z))]
        exact upd_same
      · rw [upd_ne hpm]
        exact s3 _ _ hm
      · exact (x1.same s3).up hp3 fun b o e n _ => by rw [upd_ne n]; exact e
      · exact (x2.same s3).up hp3 fun b o e n _ => by rw [upd_ne n]; exact e
    refine ⟨fun σ H' => ∃ t, σ = [some v, some u, some (.ref p)] ∧ Same H H' ∧ H' p = some (.lst [.ref t]) ∧ (∃ m, m ≠ p ∧ H' t = some (.tup [.int 6, .ref m])) ∧ Two ca H' t v u 6 "Apart",
      ⟨_, rfl, .inl ⟨rfl, _, SqL.of upd_same⟩, v, u, rfl, rfl, fun m e1 e2 H2 s2 nm hm x1 x2 => ⟨by show 2 ≤ sizeLine; decide, fun t nt => ?_⟩⟩, ?_⟩
    · obtain ⟨h3, tw⟩ := stepW (j := 6) (nm := "Apart") upd_same s2 nm hm x1 x2 nt
      have s3 := same_new (o := .tup [.int 6, .ref m]) nt
      refine ⟨p, _, _, rfl, rfl, h3, by show 0 < sizeLine; decide, t, rfl, same_put (s0.trans (s2.trans s3)) hp, upd_same, ⟨m, (ne_of_none upd_same nm).symm, ?_⟩, tw⟩
      rw [upd_ne (ne_of upd_same h3 (by intro z; cases z))]
      exact upd_same
    rintro _ H1 ⟨t1, rfl, s1, h1, ⟨m1, nm1, ht1⟩, tw1⟩
    refine ⟨fun σ H' => ∃ t2, σ = [some v, some u, some (.ref p)] ∧ Same H H' ∧ H' p = some (.lst [.ref t1, .ref t2]) ∧ Two ca H' t1 v u 6 "Apart" ∧ Two ca H' t2 v u 10 "NotOne",
      ⟨_, rfl, .inl ⟨rfl, _, SqL.of h1⟩, v, u, rfl, rfl, fun m e1 e2 H2 s2 nm hm x1 x2 => ⟨by show 2 ≤ sizeLine; decide, fun t nt => ?_⟩⟩, ?_⟩
    · obtain ⟨h3, tw⟩ := stepW (j := 10) (nm := "NotOne") h1 s2 nm hm x1 x2 nt
      have s3 := same_new (o := .tup [.int 10, .ref m]) nt
      refine ⟨p, _, _, rfl, rfl, h3, by show 1 < sizeLine; decide, t, rfl, same_put (s1.trans (s2.trans s3)) hp, upd_same, ?_, tw⟩
      obtain ⟨m', e1', e2', a1, a2, y1, y2⟩ := tw1
      rw [ht1] at a1
      cases a1
      have s23 := s2.trans s3
      refine ⟨m1, e1', e2', ?_, ?_, (y1.same s23).up h3 fun b o e n _ => by rw [upd_ne n]; exact e, (y2.same s23).up h3 fun b o e n _ => by rw [upd_ne n]; exact e⟩
      · rw [upd_ne (ne_of (s23 _ _ ht1) h3 (by intro z; cases z))]
        exact s23 _ _ ht1
      · rw [upd_ne nm1]
        exact s23 _ _ a2
    rintro _ H2 ⟨t2, rfl, s2, h2, w1, w2⟩
    exact ⟨_, rfl, k _ p t1 t2 s2 hp h2 w1 w2⟩
def spBares (ca : Str → Addr) : Sp := fun vs H Q _ => vs = [] ∧ ∀ (H' : Hp) (p t1 t2 t3 : Addr), Same H H' → H' p = some (.lst [.ref t1, .ref t2, .ref t3]) → Bare ca H' t1 8 "NoRun" → Bare ca H' t2 16 "NoRule" → Bare ca H' t3 19 "NothingToUndo" → Q (.ref p) H'
theorem scR : FnScope [] [] (defScope sBares) := ⟨rfl, rfl, rfl, by decide +kernel, rfl, by decide +kernel, by decide +kernel⟩
theorem ok_bares {f : Addr} {fd : FuncData} (F : Fun K "_law_bares" "_law_bares" sBares f fd) (T : TCls K mg ca)
    (J : ∀ x ∈ (["AgainError", "NoRun", "NoRule", "NothingToUndo"] : List Str), PySem.W.findIn K (.ref (ca x)) "__init__" = some (some (.builtin "ValueError.__init__"))) : FnOk P w K mg base CX0 1 f fd [] (spBares ca) := by
  refine F.ok scR (fun vs H Q E h => ?_) (fun cdv A outer s H vs Q E hr h => ?_)
  · obtain ⟨rfl, _⟩ := h
    rfl
  · obtain ⟨rfl, k⟩ := h
    have n1 : ("NoRun" : Str) ∈ allN := by decide +kernel
    have n2 : ("NoRule" : Str) ∈ allN := by decide +kernel
    have n3 : ("NothingToUndo" : Str) ∈ allN := by decide +kernel
    refine ⟨_, pss_one (ps_ret (pe_lst (pa_cons (pe_tup (pa_cons pe_int (pa_cons (pe_ex0 (T.ec _ n1).ox (J _ (by decide +kernel)) rfl (T.mg _ n1)) pa_nil))) (pa_cons (pe_tup (pa_cons pe_int (pa_cons (pe_ex0 (T.ec _ n2).ox (J _ (by decide +kernel)) rfl (T.mg _ n2)) pa_nil)))
      (pa_cons (pe_tup (pa_cons pe_int (pa_cons (pe_ex0 (T.ec _ n3).ox (J _ (by decide +kernel)) rfl (T.mg _ n3)) pa_nil))) pa_nil))))), ?_⟩
    refine fun e1 h1 => ⟨by show 2 ≤ sizeLine; decide, fun t1 g1 e2 h2 => ⟨by show 2 ≤ sizeLine; decide, fun t2 g2 e3 h3 => ⟨by show 2 ≤ sizeLine; decide, fun t3 g3 => ⟨by show 3 ≤ sizeLine; decide, fun p hp => ?_⟩⟩⟩⟩
    have a1 := same_new (o := exo e1 (ca "NoRun") none) h1
    have b1 := same_new (o := .tup [.int 8, .ref e1]) g1
    have a2 := same_new (o := exo e2 (ca "NoRule") none) h2
    have b2 := same_new (o := .tup [.int 16, .ref e2]) g2
    have a3 := same_new (o := exo e3 (ca "NothingToUndo") none) h3
    have b3 := same_new (o := .tup [.int 19, .ref e3]) g3
    have c0 := same_new (o := .lst [.ref t1, .ref t2, .ref t3]) hp
    have r3 := c0
    have r2 := a3.trans (b3.trans c0)
    have r1 := a2.trans (b2.trans r2)
    exact k _ p t1 t2 t3 (a1.trans (b1.trans r1)) upd_same ⟨e1, r1 _ _ upd_same, r1 _ _ (b1 _ _ upd_same)⟩ ⟨e2, r2 _ _ upd_same, r2 _ _ (b2 _ _ upd_same)⟩ ⟨e3, r3 _ _ upd_same, r3 _ _ (b3 _ _ upd_same)⟩
end
end K1

set_option maxHeartbeats 3900000
namespace K1
open PySem PySem.Spec PyProof.Rows L2 EV RP LV LamX
open C8 (pss_cut tCut pe_gc)
abbrev sLaw : Stmt := top 33
abbrev nL : List Str := ["_law_script", "_law_stream", "_law_turn", "_law_one", "_law_other", "_law_spot", "_law_made", "_law_field", "_law_e"]
/-- a def as the law calls it -/
structure At (K : PySem.W.Frag) (mg : Str → Option Value) (x : Str) (f : Addr) (fd : FuncData) (ps : List Str) : Prop where
  m : mg x = some (.ref f)
  k : PySem.W.keepIn K (.ref f) = true
  b : L2.Binds K fd ps []
structure TLaw (mg : Str → Option Value) : Prop where
  list : mg "list" = none
  range : mg "range" = none
  all : mg "all" = none
  any : mg "any" = none
section
variable {P : Program} {w : World} {K : PySem.W.Frag} {mg : Str → Option Value} {base : Heap} {ca : Str → Addr}
variable {fT fO fW fB fA fC fS : Addr} {dT dO dW dB dA dC dS : FuncData} {Tb : Addr}
def spLaw (K : PySem.W.Frag) (Tb : Addr) : Sp := fun vs H Q _ => ∃ (a : Addr) (ns : List Int), vs = [.ref a] ∧ ns.length ≤ 63 ∧ SqL K H a (ns.map V.int) ∧ TabS H Tb qL ∧ ∀ H', Q (.bl true) H'
theorem tab_but {H H' : Hp} {st l Tb : Addr} {c : Nat} {q : Str} (T : TabS H Tb q) (S : Strm H st l c) (B : But st l H H') : TabS H' Tb q := by
  obtain ⟨ns, a, m, ⟨h1, h2⟩, _⟩ := S.ex
  obtain ⟨ps, t1, t2, t3⟩ := T
  refine ⟨ps, B _ _ t1 (ne_of t1 h1 (by intro z; cases z)) (ne_of t1 h2 (by intro z; cases z)), t2, fun pos cv hc => ?_⟩
  obtain ⟨c0, e1, e2⟩ := t3 pos cv hc
  exact ⟨c0, e1, B _ _ e2 (ne_of e2 h1 fun z => by unfold CodeO at z; cases z) (ne_of e2 h2 fun z => by unfold CodeO at z; cases z)⟩
theorem Strm.ext {H H' : Hp} {st l : Addr} {c : Nat} (S : Strm H st l c) (e : ExtN H H') : Strm H' st l c := by
  obtain ⟨ns, a, m, ⟨h1, h2⟩, r⟩ := S.ex
  exact ⟨ns, a, m, ⟨e _ _ h1 (by intro ps z; cases z), e _ _ h2 (by intro ps z; cases z)⟩, r⟩
/-- where the law stands between its statements -/
structure Here (ca : Str → Addr) (Tb a st l : Addr) (c : Nat) (H : Hp) : Prop where
  s : Strm H st l c
  t : TabS H Tb qL
theorem Here.up {ca : Str → Addr} {Tb a st l : Addr} {c : Nat} {H H' : Hp} (x : Here ca Tb a st l c H) (e : Same H H') : Here ca Tb a st l c H' := ⟨x.s.up e, x.t.ext e⟩
theorem all_true : ∀ {bs : List Bool}, (∀ b ∈ bs, b = true) → bs.all id = true := fun {bs} h => List.all_eq_true.mpr fun b hb => h b hb
/-- the reading of all([is_alone(e, spot) and same(.., ..) for e in made]), e1 and e2 in made: each turn gives True -/
theorem all_read {K : PySem.W.Frag} {m e1 e2 : Addr} {te : TE} {σ : L2.St} {H : Hp} {Q : VK} (h6 : σ[6]? = some (some (.ref m))) (h8 : 8 < σ.length) (hm : H m = some (.lst [.ref e1, .ref e2]))
    (turn : ∀ (e : Addr) (H1 : Hp) (Q1 : VK), e = e1 ∨ e = e2 → Same H H1 → (∀ H2, Same H1 H2 → Q1 (.bl true) H2) → te ((wipe σ [8]).set 8 (some (.ref e))) H1 Q1) (k : ∀ H2, Same H H2 → Q (.bl true) H2) :
    tCB (rAll K) (tCons (tLc (iList K (tVar 6)) (gName 8) tYes te [8]) tNil) σ H Q := by
  refine ⟨_, h6, m, rfl, ⟨_, SqL.of hm⟩, fun D hD => lc_list (K := K) (a := m) (xs := [.ref e1, .ref e2]) (fun i H' => Same H H' ∧ ∃ bs : List Bool, bs.length = i ∧ H' D = some (.lst (bs.map V.bl)) ∧ ∀ b ∈ bs, b = true)
    ⟨same_new hD, [], rfl, upd_same, by simp⟩ (fun i H' _ q => SqL.of (q.1 _ _ hm)) ?_ ?_⟩
  · rintro i x H' hx ⟨s, bs, hb, hd, ht⟩
    obtain ⟨e, he, rfl⟩ : ∃ e, (e = e1 ∨ e = e2) ∧ x = .ref e := by
      match i, hx with
      | 0, hx => cases hx; exact ⟨e1, .inl rfl, rfl⟩
      | 1, hx => cases hx; exact ⟨e2, .inr rfl, rfl⟩
      | n + 2, hx => cases hx
    have hi : i < 2 := by
      have := (List.getElem?_eq_some_iff.mp hx).1
      simpa using this
    refine ⟨?_, ?_⟩
    · show ((σ.set 8 none).set 8 (some (.ref e))).set 8 none = σ.set 8 none
      simp
    refine turn e H' _ he s fun H2 s2 => ⟨_, s2 _ _ hd, ?_, same_put (s.trans s2) hD, bs ++ [true], ?_, ?_, fun b hb2 => ?_⟩
    · rw [List.length_map, hb]
      exact Nat.lt_of_lt_of_le hi (by decide)
    · rw [List.length_append, hb]
      rfl
    · rw [upd_same, List.map_append]
      rfl
    · rcases List.mem_append.mp hb2 with q | q
      · exact ht b q
      · exact List.mem_singleton.mp q
  · rintro H' ⟨s, bs, hb, hd, ht⟩
    refine ⟨D, bs, rfl, SqL.of hd, ?_⟩
    rw [all_true ht]
    exact k H' s
theorem look_first (v u : V) : List.lookup ("first" : Str) (fs2 v u) = some v := by
  have e1 : (("first" : Str) == "second") = false := by decide +kernel
  have e2 : (("first" : Str) == "first") = true := by decide +kernel
  simp only [List.lookup, e1, e2]
theorem look_second (v u : V) : List.lookup ("second" : Str) (fs2 v u) = some u := by
  have e1 : (("second" : Str) == "second") = true := by decide +kernel
  simp only [List.lookup, e1]
theorem no_one : V.bl ((nmL.map fun y => decide (("AgainError" : Str) = y)).any id) = V.bl false := by decide +kernel
theorem fit_two {d e : PyData} (a : Fit d) (b : Fit e) : (PyData.list [d, e]).showable = true ∧ (PyData.list [d, e]).depth ≤ 6 ∧ (PyData.list [d, e]).shown.length ≤ 1000 := by
  refine ⟨?_, ?_, ?_⟩
  · simp only [PyData.showable, PyData.showableAll, a.1, b.1, Bool.and_self]
  · have h1 := a.2.1
    have h2 := b.2.1
    simp only [PyData.depth, PyData.depthAll]
    omega
  · have h1 := a.2.2
    have h2 := b.2.2
    simp only [PyData.shown, PyData.shownAll, listText, textFrom, strLen_append]
    have c1 : ("[" : Str).length = 1 := by decide +kernel
    have c2 : ("]" : Str).length = 1 := by decide +kernel
    have c3 : (Str.ofString (if 0 > 0 then ", " else "")).length = 0 := by decide +kernel
    have c4 : (Str.ofString (if 0 + 1 > 0 then ", " else "")).length = 2 := by decide +kernel
    rw [c1, c2, c3, c4]
    omega
theorem pe_fldK {X : Cx} (K0 : PySem.W.Frag) (hK : X.K = K0) {e : Expr} {f : Str} {te : TE} {pos : Pos} (he : PE X e te) (hb : attributeBase e f X.env (eval e X.env) = eval e X.env := by rfl) : PE X (.Attribute e f pos) (tFldX K0 f te) := by
  subst hK
  exact pe_fldX he hb
theorem pe_lamK {X : Cx} (K0 : PySem.W.Frag) (hK : X.K = K0) {q y x : Str} {i k : Nat} {e : Expr} {te : TE} {p pos : Pos} (hr : Room (k + 1) X.A) (hbind : ∀ (p1 p2 p3 : Pos) (fld : Str) (pm cv ctv u : Value), bindArgs (PySem.W.kla_fn "<lambda>" q (arOf y p1) (.Attribute (.Name y p2) fld p3) (scOf y) [] pm cv ctv) ⟨[u], []⟩ = pure [(y, u)]) (he : PE X e te) (hN : X.N[i]? = some x)
    (hv : Vis X.env.scope x) (hy : (y == ("__debug__" : Str)) = false := by decide) (hy2 : (y == ("__classdict__" : Str)) = false := by decide) (hd : (x == ("__debug__" : Str)) = false := by decide)
    (hcd : (x == ("__classdict__" : Str)) = false := by decide) (hst : starEach [e] X.env = (false, eval e X.env) :: starEach [] X.env := by rfl) : PE X (.Call (.Name x p) [e] [] pos) (tLamC K0 q y i te) := by
  subst hK
  exact pe_lamC hr hbind he hN hv hy hy2 hd hcd hst
theorem scL : FnScope nL ["_law_script"] (defScope sLaw) := ⟨rfl, rfl, rfl, by decide +kernel, rfl, by decide +kernel, by decide +kernel⟩
theorem ok_law {f : Addr} {fd : FuncData} (F : Fun K "law" "law" sLaw f fd) (T : TLaw mg) (TC : TCls K mg ca)
    (J : PySem.W.findIn K (.ref (ca "AgainError")) "__init__" = some (some (.builtin "ValueError.__init__")))
    (nf : ∀ s ∈ onL, PySem.W.findIn K (.ref (ca s.2.1)) s.2.2 = some none) (nf2 : ∀ x ∈ (["Apart", "NotOne"] : List Str), PySem.W.findIn K (.ref (ca x)) "first" = some none ∧ PySem.W.findIn K (.ref (ca x)) "second" = some none)
    (aT : At K mg "_law_thing" fT dT ["_law_stream"]) (GT : FnOk P w K mg base CX0 3 fT dT ["_law_stream"] spThing)
    (aO : At K mg "_law_ones" fO dO ["_law_one"]) (GO : FnOk P w K mg base CX0 3 fO dO ["_law_one"] (spOnes ca Tb))
    (aW : At K mg "_law_twos" fW dW ["_law_one", "_law_other"]) (GW : FnOk P w K mg base CX0 3 fW dW ["_law_one", "_law_other"] (spTwos ca))
    (aB : At K mg "_law_bares" fB dB []) (GB : FnOk P w K mg base CX0 1 fB dB [] (spBares ca))
    (aA : At K mg "_law_is_alone" fA dA ["_law_e", "_law_spot"]) (GA : FnOk P w K mg base CX0 2 fA dA ["_law_e", "_law_spot"] (spAlone ca))
    (aC : At K mg "_law_classes" fC dC ["_law_e"]) (GC : FnOk P w K mg base CX0 1 fC dC ["_law_e"] (spClasses ca))
    (aS : At K mg "_law_same" fS dS ["_law_found", "_law_due"]) (GS : FnG P w K mg base CX0 1 fS dS ["_law_found", "_law_due"] (spSame K)) :
    FnG P w K mg base CX0 4 f fd ["_law_script"] (spLaw K Tb) := by
  refine okG F scL (fun vs H Q E h => ?_) (fun cdv A outer s H vs Q E hg hr h => ?_)
  · obtain ⟨a, ns, rfl, _⟩ := h
    rfl
  · obtain ⟨a, ns, rfl, hl, hS, hT, k⟩ := h
    have hr1 : Room 1 _ := hr.mono (by decide)
    have hr2 : Room 2 _ := hr.mono (by decide)
    have nA : ("AgainError" : Str) ∈ allN := by decide +kernel
    refine ⟨_, pss_cut (ps_set (i := 1) scL.nd rfl (Or.inl rfl) (pe_lst (pa_cons (pe_callTy call_list_of (by rfl) T.list (by decide +kernel) (pa_cons (pv 0) pa_nil)) (pa_cons pe_int (pa_cons pe_int (pa_cons pe_int pa_nil))))))
      (pss_cut (ps_for PassesOwn.never rfl (pi_range1 rfl T.range (pa_cons pe_int pa_nil)) (pg_name (i := 2) scL.nd rfl (Or.inl rfl))
        (pss_cut (ps_asg (pe_tup (pa_cons (pe_call GT hr rfl aT.m aT.k aT.b .nil pass0 (pa_cons (pv 1) pa_nil)) (pa_cons (pe_call GT hr rfl aT.m aT.k aT.b .nil pass0 (pa_cons (pv 1) pa_nil)) pa_nil)))
            (pg_tup rfl (pgs_cons (pg_name (i := 3) scL.nd rfl (Or.inr rfl)) (pgs_cons (pg_name (i := 4) scL.nd rfl (Or.inr rfl)) pgs_nil))))
        (pss_cut (ps_for PassesOwn.never rfl (pi_list (pe_call GO hr rfl aO.m aO.k aO.b .nil pass0 (pa_cons (pv 3) pa_nil))) (pg_tup rfl (pgs_cons (pg_name (i := 5) scL.nd rfl (Or.inr rfl)) (pgs_cons (pg_name (i := 6) scL.nd rfl (Or.inl rfl)) (pgs_cons (pg_name (i := 7) scL.nd rfl (Or.inr rfl)) pgs_nil))))
          (pss_one (ps_if (pt_not (pt_val (pe_callB (cr_all rfl) (by rfl) T.all boot_all (pa_cons (pe_lc (own := [("_law_e", 8)]) (g := gName 8) (tt := tYes) rfl scL.nd (pi_list (pv 6)) (blkOk_by (own := [("_law_e", 8)]) (N := nL) (sc := defScope sLaw) (by decide +kernel))
              (fun _ _ _ _ _ => pg_name (i := 8) scL.nd rfl (Or.inl rfl)) (fun _ _ _ _ _ => pts_nil)
              (fun _ _ _ _ _ => pe_and (pe_call GA hr2 rfl aA.m aA.k aA.b .nil pass0 (pa_cons (pv 8) (pa_cons (pv 5) pa_nil)))
                (pe_one (by exact (pe_callG GS (by exact hg) (by exact hr1) rfl aS.m aS.k aS.b pass0 (by exact (pa_cons (by exact (pe_lamK K rfl (q := qL) (y := eN) (k := 1) (i := 7) (by exact hr2) (fun _ _ _ _ _ _ _ _ => rfl) (by exact (pv 8)) (by rfl) (by first | exact Or.inl rfl | exact Or.inr (Or.inl rfl) | exact Or.inr (Or.inr rfl)))) (pa_cons (pv 3) pa_nil)))))))) pa_nil)))) (pss_one (ps_ret pe_bl)) pss_nil)))
        (pss_cut (ps_for PassesOwn.never rfl (pi_list (pe_call GW hr rfl aW.m aW.k aW.b .nil pass0 (pa_cons (pv 3) (pa_cons (pv 4) pa_nil)))) (pg_tup rfl (pgs_cons (pg_name (i := 5) scL.nd rfl (Or.inr rfl)) (pgs_cons (pg_name (i := 6) scL.nd rfl (Or.inl rfl)) pgs_nil)))
          (pss_one (ps_if (pt_not (pt_val (pe_callB (cr_all rfl) (by rfl) T.all boot_all (pa_cons (pe_lc (own := [("_law_e", 8)]) (g := gName 8) (tt := tYes) rfl scL.nd (pi_list (pv 6)) (blkOk_by (own := [("_law_e", 8)]) (N := nL) (sc := defScope sLaw) (by decide +kernel))
              (fun _ _ _ _ _ => pg_name (i := 8) scL.nd rfl (Or.inl rfl)) (fun _ _ _ _ _ => pts_nil)
              (fun _ _ _ _ _ => pe_and (pe_call GA hr2 rfl aA.m aA.k aA.b .nil pass0 (pa_cons (pv 8) (pa_cons (pv 5) pa_nil)))
                (pe_one (by exact (pe_callG GS (by exact hg) (by exact hr1) rfl aS.m aS.k aS.b pass0 (by exact (pa_cons (pe_lst (pa_cons (pe_fldK K rfl (by exact (pv 8))) (pa_cons (pe_fldK K rfl (by exact (pv 8))) pa_nil))) (pa_cons (pe_lst (pa_cons (pv 3) (pa_cons (pv 4) pa_nil))) pa_nil)))))))) pa_nil)))) (pss_one (ps_ret pe_bl)) pss_nil)))
        (pss_one (ps_for PassesOwn.never rfl (pi_list (pe_call0 GB hr1 rfl aB.m aB.k aB.b .nil pass0)) (pg_tup rfl (pgs_cons (pg_name (i := 5) scL.nd rfl (Or.inr rfl)) (pgs_cons (pg_name (i := 8) scL.nd rfl (Or.inl rfl)) pgs_nil)))
          (pss_one (ps_if (pt_not (pt_val (pe_call GA hr2 rfl aA.m aA.k aA.b .nil pass0 (pa_cons (pv 8) (pa_cons (pv 5) pa_nil))))) (pss_one (ps_ret pe_bl)) pss_nil))))))))
      (pss_one (ps_ret (pe_and (pe_callB call_isX (by rfl) TC.ii boot_isinstance (pa_cons (pe_ex0 (TC.ec _ nA).ox J rfl (TC.mg _ nA)) (pa_cons (pe_tyN rfl TC.ve (T := "ValueError") (by decide +kernel)) pa_nil)))
        (pe_one (pe_not (pe_callB (cr_any rfl) (by rfl) T.any boot_any (pa_cons (pe_call GC hr1 rfl aC.m aC.k aC.b .nil pass0 (pa_cons (pe_ex0 (TC.ec _ nA).ox J rfl (TC.mg _ nA)) pa_nil)) pa_nil)))))))), ?_⟩
    -- stream = [list(script), 0, 0, 0]
    refine ⟨fun σ H' => ∃ st l, σ = [some (.ref a), some (.ref st), none, none, none, none, none, none, none] ∧ Strm H' st l 0 ∧ TabS H' Tb qL,
      ⟨_, rfl, a, _, rfl, .inl hS, fun l hl0 => ⟨by show 4 ≤ sizeLine; decide, fun st hst => ⟨st, l, rfl, ?_, ?_⟩⟩⟩, ?_⟩
    · have e : upd (upd H l (.lst (ns.map V.int))) st (.lst [.ref l, .int 0, .int 0, .int 0]) l = some (.lst (ns.map V.int)) := same_new hst _ _ upd_same
      exact ⟨ns, 0, 0, ⟨upd_same, e⟩, hl, by decide, by decide, by decide⟩
    · exact (hT.ext (same_new hl0)).ext (same_new hst)
    rintro _ H0 ⟨st, l, rfl, S0, T0⟩
    -- the turns
    refine ⟨fun σ _ => True, ⟨3, rfl, by decide, by decide, for_range (lo := 0) (n := 3) (fun i σ H' => ∃ x2 x3 x4 x5 x6 x7 x8 c, σ = [some (.ref a), some (.ref st), x2, x3, x4, x5, x6, x7, x8] ∧ Strm H' st l c ∧ c ≤ 12 * i ∧ TabS H' Tb qL)
      ⟨none, none, none, none, none, none, none, 0, rfl, S0, Nat.le_refl _, T0⟩ ?_ (fun _ _ _ => trivial)⟩, ?_⟩
    · rintro i σ H1 hi ⟨x2, x3, x4, x5, x6, x7, x8, c, rfl, S1, hc, T1⟩
      -- one, other = thing(stream), thing(stream)
      refine ⟨fun σ H' => ∃ (v u : V) (d e : PyData) (c' : Nat), σ = [some (.ref a), some (.ref st), some (.int (0 + (i : Int))), some v, some u, x5, x6, x7, x8] ∧ Strm H' st l c' ∧ c' ≤ 12 * (i + 1) ∧ TabS H' Tb qL ∧ Thing H' v d ∧ Thing H' u e, ?_, ?_⟩
      · refine ⟨_, rfl, st, l, c, rfl, S1, by omega, fun v d H2 c2 B2 S2 h2 th => ?_⟩
        refine ⟨_, rfl, st, l, c2, rfl, S2, by omega, fun u e H3 c3 B3 S3 h3 th3 => ⟨by show 2 ≤ sizeLine; decide, fun p hp => ?_⟩⟩
        have s4 := same_new (o := .tup [v, u]) hp
        exact ⟨p, [v, u], rfl, SqT.of upd_same, rfl, _, _, rfl, _, _, rfl, rfl, v, u, d, e, c3, rfl, S3.up s4, by omega, (tab_but (tab_but T1 S1 B2) S2 B3).ext s4, (th.but S2 B3).up (same_ext s4), th3.up (same_ext s4)⟩
      rintro _ H2 ⟨v, u, d, e, c', rfl, S2, hc2, T2, thv, thu⟩
      -- for spot, made, field in ones(one): ..
      refine ⟨fun σ H' => ∃ y5 y6 y7 y8, σ = [some (.ref a), some (.ref st), some (.int (0 + (i : Int))), some v, some u, y5, y6, y7, y8] ∧ ExtN H2 H' ∧ TabS H' Tb qL, ?_, ?_⟩
      · refine ⟨_, rfl, v, rfl, T2, fun H3 p ts E3 T3 hp htl _ rows => ⟨p, rfl, ⟨_, SqL.of hp⟩, for_list (K := K) (a := p) (xs := ts.map V.ref)
          (fun _ σ H' => ∃ y5 y6 y7 y8, σ = [some (.ref a), some (.ref st), some (.int (0 + (i : Int))), some v, some u, y5, y6, y7, y8] ∧ Same H3 H') ⟨x5, x6, x7, x8, rfl, Same.refl _⟩ (fun j σ H' _ ⟨_, _, _, _, _, s⟩ => SqL.of (s _ _ hp)) ?_ ?_⟩⟩
        · rintro j y σ H4 hj ⟨y5, y6, y7, y8, rfl, s4⟩
          have hjl : j < 16 := by
            have := (List.getElem?_eq_some_iff.mp hj).1
            rw [List.length_map, htl] at this
            exact this
          obtain ⟨t, ht, rfl⟩ : ∃ t, ts[j]? = some t ∧ y = .ref t := by
            rw [List.getElem?_map] at hj
            cases q : ts[j]? with
            | none =>
              rw [q] at hj
              cases hj
            | some t =>
              rw [q] at hj
              exact ⟨t, rfl, (Option.some.inj hj).symm⟩
          have hso : j < onL.length := hjl
          have hs := List.getElem?_eq_getElem hso
          generalize onL[j] = s0 at hs
          have hm0 : s0 ∈ onL := List.mem_of_getElem? hs
          obtain ⟨m, lam, e1, e2, _, h1, h2, z1, z2, fl⟩ := (rows j t s0 ht hs).ext (same_ext s4)
          have hn : nmL[s0.1]? = some s0.2.1 := (by decide +kernel : ∀ s ∈ onL, nmL[s.1]? = some s.2.1) s0 hm0
          have ec := TC.ec s0.2.1 ((by decide +kernel : ∀ s ∈ onL, s.2.1 ∈ allN) s0 hm0)
          have fit := thv.fit
          have th4 : Thing H4 v d := (thv.up E3).up (same_ext s4)
          refine ⟨t, _, rfl, SqT.of h1, rfl, _, _, rfl, _, _, rfl, _, _, rfl, rfl, ?_⟩
          refine all_read (K := K) rfl (by show 8 < 9; decide) h2 (fun e H5 Q5 he s5 k5 => ?_) fun H5 s5 => ⟨true, rfl, iteF ⟨_, _, _, _, rfl, s4.trans s5⟩⟩
          have ze : ExF H5 e (ca s0.2.1) [(s0.2.2, v)] := by
            rcases he with rfl | rfl
            · exact z1.same s5
            · exact z2.same s5
          refine ⟨_, rfl, _, rfl, e, s0.1, s0.2.1, rfl, hn, ze.at, fun H6 s6 => ⟨true, rfl, ?_⟩⟩
          have ze6 := ze.same s6
          obtain ⟨dd, a1, a2⟩ := ze6
          have fl6 := fl.up (same_ext (s5.trans s6))
          refine ⟨lam, s0.2.2, rfl, fl6, _, rfl, fl6, e, ca s0.2.1, dd, _, v, rfl, ec, nf s0 hm0, a1, a2, by simp [List.lookup], _, rfl, v, v, d, rfl, ?_, ?_, fit.1, Nat.le_trans fit.2.1 (by decide), Nat.le_trans fit.2.2 (by decide), k5 H6 s6⟩
          · exact (th4.up (same_ext (s5.trans s6))).dq
          · exact (th4.up (same_ext (s5.trans s6))).dq
        · rintro σ H4 ⟨y5, y6, y7, y8, rfl, s4⟩
          exact ⟨y5, y6, y7, y8, rfl, E3.trans (same_ext s4), T3.ext s4⟩
      rintro _ H3 ⟨y5, y6, y7, y8, rfl, E3, T3⟩
      -- for spot, made in twos(one, other): ..
      refine ⟨fun σ H' => ∃ y5 y6 y7 y8, σ = [some (.ref a), some (.ref st), some (.int (0 + (i : Int))), some v, some u, y5, y6, y7, y8] ∧ Same H3 H', ?_, ?_⟩
      · refine ⟨_, rfl, _, rfl, v, u, rfl, fun H4 p t1 t2 s4 np hp w1 w2 => ⟨p, rfl, ⟨_, SqL.of hp⟩, for_list (K := K) (a := p) (xs := [.ref t1, .ref t2])
          (fun _ σ H' => ∃ y5 y6 y7 y8, σ = [some (.ref a), some (.ref st), some (.int (0 + (i : Int))), some v, some u, y5, y6, y7, y8] ∧ Same H4 H') ⟨y5, y6, y7, y8, rfl, Same.refl _⟩ (fun j σ H' _ ⟨_, _, _, _, _, s⟩ => SqL.of (s _ _ hp)) ?_ ?_⟩⟩
        · rintro j y σ H5 hj ⟨z5, z6, z7, z8, rfl, s5⟩
          have row : ∃ (t : Addr) (n : Nat) (nm : Str), y = .ref t ∧ Two ca H4 t v u (n : Int) nm ∧ nmL[n]? = some nm ∧ nm ∈ (["Apart", "NotOne"] : List Str) := by
            match j, hj with
            | 0, hj => cases hj; exact ⟨t1, 6, "Apart", rfl, w1, by decide +kernel, by decide +kernel⟩
            | 1, hj => cases hj; exact ⟨t2, 10, "NotOne", rfl, w2, by decide +kernel, by decide +kernel⟩
            | n + 2, hj => cases hj
          obtain ⟨t, n, nm, rfl, tw, hn, hnm⟩ := row
          obtain ⟨m, e1, e2, h1, h2, b1, b2⟩ := tw.same s5
          have ec := TC.ec nm ((by decide +kernel : ∀ x ∈ (["Apart", "NotOne"] : List Str), x ∈ allN) nm hnm)
          have nn := nf2 nm hnm
          have fv := thv.fit
          have fu := thu.fit
          refine ⟨t, _, rfl, SqT.of h1, rfl, _, _, rfl, _, _, rfl, rfl, ?_⟩
          refine all_read (K := K) rfl (by show 8 < 9; decide) h2 (fun e' H6 Q6 he s6 k6 => ?_) fun H6 s6 => ⟨true, rfl, iteF ⟨_, _, _, _, rfl, s5.trans s6⟩⟩
          have ze : ExF H6 e' (ca nm) (fs2 v u) := by
            rcases he with rfl | rfl
            · exact b1.same s6
            · exact b2.same s6
          refine ⟨_, rfl, _, rfl, e', n, nm, rfl, hn, ze.at, fun H7 s7 => ⟨true, rfl, ?_⟩⟩
          obtain ⟨dd, a1, a2⟩ := ze.same s7
          refine ⟨_, rfl, e', ca nm, dd, _, v, rfl, ec, nn.1, a1, a2, look_first v u, _, rfl, e', ca nm, dd, _, u, rfl, ec, nn.2, a1, a2, look_second v u, by show 2 ≤ sizeLine; decide, fun q1 g1 => ?_⟩
          refine ⟨_, rfl, _, rfl, by show 2 ≤ sizeLine; decide, fun q2 g2 => ?_⟩
          have r1 := same_new (o := .lst [v, u]) g1
          have r2 := same_new (o := .lst [v, u]) g2
          have E7 : ExtN H2 _ := E3.trans (same_ext (s4.trans (s5.trans (s6.trans (s7.trans (r1.trans r2))))))
          have dv := (thv.up E7).dq (K := K)
          have du := (thu.up E7).dq (K := K)
          exact ⟨.ref q1, .ref q2, .list [d, e], rfl, .lst (r2 _ _ upd_same) (.cons dv (.cons du .nil)), .lst upd_same (.cons dv (.cons du .nil)), (fit_two fv fu).1, Nat.le_trans (fit_two fv fu).2.1 (by decide), (fit_two fv fu).2.2, k6 _ (s7.trans (r1.trans r2))⟩
        · rintro σ H5 ⟨z5, z6, z7, z8, rfl, s5⟩
          exact ⟨z5, z6, z7, z8, rfl, s4.trans s5⟩
      rintro _ H4 ⟨z5, z6, z7, z8, rfl, s4⟩
      -- for spot, e in bares(): ..
      refine ⟨rfl, fun H5 p t1 t2 t3 s5 hp w1 w2 w3 => ⟨p, rfl, ⟨_, SqL.of hp⟩, for_list (K := K) (a := p) (xs := [.ref t1, .ref t2, .ref t3])
          (fun _ σ H' => ∃ y5 y6 y7 y8, σ = [some (.ref a), some (.ref st), some (.int (0 + (i : Int))), some v, some u, y5, y6, y7, y8] ∧ Same H5 H') ⟨z5, z6, z7, z8, rfl, Same.refl _⟩ (fun j σ H' _ ⟨_, _, _, _, _, s⟩ => SqL.of (s _ _ hp)) ?_ ?_⟩⟩
      · rintro j y σ H6 hj ⟨q5, q6, q7, q8, rfl, s6⟩
        have row : ∃ (t : Addr) (n : Nat) (nm : Str), y = .ref t ∧ Bare ca H5 t (n : Int) nm ∧ nmL[n]? = some nm := by
          match j, hj with
          | 0, hj => cases hj; exact ⟨t1, 8, _, rfl, w1, by decide +kernel⟩
          | 1, hj => cases hj; exact ⟨t2, 16, _, rfl, w2, by decide +kernel⟩
          | 2, hj => cases hj; exact ⟨t3, 19, _, rfl, w3, by decide +kernel⟩
          | n + 3, hj => cases hj
        obtain ⟨t, n, nm, rfl, bw, hn⟩ := row
        obtain ⟨x, h1, h2⟩ := bw.same s6
        exact ⟨t, _, rfl, SqT.of h1, rfl, _, _, rfl, _, _, rfl, rfl, _, rfl, _, rfl, x, n, nm, rfl, hn, .inl h2, fun H7 s7 => ⟨true, rfl, iteF ⟨_, _, _, _, rfl, s6.trans s7⟩⟩⟩
      · rintro σ H6 ⟨q5, q6, q7, q8, rfl, s6⟩
        have E6 : ExtN H2 H6 := E3.trans (same_ext (s4.trans (s5.trans s6)))
        exact ⟨_, _, _, q5, q6, q7, q8, c', rfl, Strm.ext S2 E6, hc2, (T3.ext s4).ext (s5.trans s6)⟩
    -- return isinstance(AgainError(), ValueError) and not any(classes(AgainError()))
    rintro σ H1 -
    refine fun e1 g1 => ⟨e1, ca "AgainError", _, _, _, rfl, .ty _, TC.ec _ nA, TC.ea, .inl upd_same, TC.kitV _ nA, true, rfl, ?_⟩
    refine fun e2 g2 => ⟨e2, "AgainError", rfl, nA, .inl upd_same, fun H2 p s2 hp => ⟨p, nmL.map fun y => decide (("AgainError" : Str) = y), rfl, SqL.of ?_, false, ?_, ?_⟩⟩
    · rw [hp, List.map_map]
      rfl
    · exact no_one
    · exact k H2
end
end K1

set_option maxHeartbeats 0
namespace K1
open PySem PySem.Spec PyProof.Rows L2 EV RP LV LamX EG
/-! ### what the head says -/
def oexB (K : PySem.W.Frag) (C : Addr) : Bool := match K.lookup C with
  | some ⟨.type t, _, .cls cd, sl⟩ => decide (t = "type") && ((match cd.mro with
      | .ref C' :: bm => decide (C' = C) && PySem.HandSPX.refsVE bm
      | _ => false) && (cd.hasDict && (!cd.hasDel && (match sl.toList with
      | [_, _, _, _, some (.builtin n), _] => decide (n = "ValueError.__new__")
      | _ => false))))
  | _ => false
theorem oexB_ok {K : PySem.W.Frag} {C : Addr} (h : oexB K C = true) : ∃ nm q N bs bm sn sub ab col dd k0 k1 k2 k3 k5, K.lookup C = some (excClassObj nm q C N bs bm true sn sub ab col dd k0 k1 k2 k3 k5 "ValueError.__new__") ∧ PySem.HandSPX.refsVE bm = true := by
  unfold oexB at h
  split at h
  · rename_i t dd cd sl ho
    obtain ⟨h1, h⟩ := He.ba h
    obtain ⟨h2, h⟩ := He.ba h
    obtain ⟨h3, h⟩ := He.ba h
    obtain ⟨h4, h5⟩ := He.ba h
    split at h2
    · rename_i C' bm hm
      split at h5
      · rename_i k0 k1 k2 k3 n k5 hs
        obtain ⟨h6, h7⟩ := He.ba h2
        have e1 : t = "type" := of_decide_eq_true h1
        have e2 : C' = C := of_decide_eq_true h6
        have e3 : n = "ValueError.__new__" := of_decide_eq_true h5
        have e4 : sl = #[k0, k1, k2, k3, some (.builtin n), k5] := by
          have := congrArg List.toArray hs
          simpa using this
        obtain ⟨nm, bs, mro, ns, qn, hd, sn, sub, ab, col, del⟩ := cd
        dsimp only at hm h3 h4
        have e5 : del = false := by simpa using h4
        rw [e1, e4, hm, h3, e5, e2, e3] at ho
        exact ⟨nm, qn, ns, bs, bm, sn, sub, ab, col, dd, k0, k1, k2, k3, k5, ho, h7⟩
      · cases h5
    · cases h2
  · cases h
def eqV (a b : Option (Option Value)) : Bool := decide (a = b)
def eclsB (K : PySem.W.Frag) (C : Addr) : Bool := oexB K C && (eqV (PySem.W.findIn K (.ref C) "__setattr__") (some (some (.builtin "object.__setattr__"))) && (decide (PySem.W.subIn K (.ref C) (.type "BaseException") = some true) && (decide (PySem.W.typeIn K (.ref C) = some (.type "type")) &&
  (PySem.W.keepIn K (.ref C) && (eqV (PySem.W.findIn K (.ref C) "__getattribute__") (some (some (.builtin "BaseException.__getattribute__"))) && (eqV (PySem.W.findIn K (.ref C) "__getattr__") (some none) && (PySem.W.hasDictIn K C &&
  (eqV (PySem.W.findIn K (.ref C) "__class__") (some (some (.builtin "object.__class__"))) && decide (PySem.W.mroIn K C (.type "object") = some true)))))))))
theorem eclsB_ok {K : PySem.W.Frag} {C : Addr} (h : eclsB K C = true) : ECls K C := by
  obtain ⟨h1, h⟩ := He.ba h
  obtain ⟨h2, h⟩ := He.ba h
  obtain ⟨h3, h⟩ := He.ba h
  obtain ⟨h4, h⟩ := He.ba h
  obtain ⟨h5, h⟩ := He.ba h
  obtain ⟨h6, h⟩ := He.ba h
  obtain ⟨h7, h⟩ := He.ba h
  obtain ⟨h8, h⟩ := He.ba h
  obtain ⟨h9, h10⟩ := He.ba h
  exact ⟨⟨oexB_ok h1, of_decide_eq_true h2, of_decide_eq_true h3, of_decide_eq_true h4, h5⟩, of_decide_eq_true h6, of_decide_eq_true h7, h8, of_decide_eq_true h9, of_decide_eq_true h10⟩
/-- the classes with an __init__ of their own, its fields -/
def iniL : List (Str × List Str) := [("BadPath", ["path"]), ("Blocked", ["path"]), ("BadName", ["name"]), ("BadLook", ["look"]), ("BadChange", ["index"]), ("BadSight", ["index"]), ("Apart", ["first", "second"]), ("BadStep", ["place"]), ("BadIndex", ["thing"]), ("NotOne", ["first", "second"]), ("Known", ["outcome"]), ("BadSort", ["thing"]), ("NotTrue", ["index"]), ("BadPattern", ["thing"]), ("BadCount", ["n"]), ("NoBranch", ["name"]), ("TakenBranch", ["name"]), ("BadLine", ["index"])]
def bareL : List Str := ["AgainError", "NoRun", "NoRule", "NothingToUndo"]
def exB (K : PySem.W.Frag) : Bool := (allN.all fun x => eclsB K (He.ga K x)) && (decide (PySem.W.specialIn K (.builtin "object.__class__") "__get__" = some (some (.builtin "getset_descriptor.__get__"))) && (decide (PySem.W.takesIn K (.builtin "object.__class__") = some true) &&
  ((allN.all fun x => nmL.all fun y => decide (PySem.W.kitOne K (.ref (He.ga K x)) (.ref (He.ga K y)) = some (decide (x = y)))) && ((allN.all fun x => decide (PySem.W.kitOne K (.ref (He.ga K x)) (.ref (He.ga K "AgainError")) = some true)) &&
  ((allN.all fun x => decide (PySem.W.kitOne K (.ref (He.ga K x)) (.type "ValueError") = some true)) && ((iniL.all fun s => eqV (PySem.W.findIn K (.ref (He.ga K s.1)) "__init__") (some (some (.ref (He.ma K (He.ga K s.1) "__init__")))) &&
    (decide (PySem.W.typeIn K (.ref (He.ma K (He.ga K s.1) "__init__")) = some (.type "function")) && s.2.all fun g => eqV (PySem.W.findIn K (.ref (He.ga K s.1)) g) (some none))) &&
  bareL.all fun x => eqV (PySem.W.findIn K (.ref (He.ga K x)) "__init__") (some (some (.builtin "ValueError.__init__")))))))))
/-! ### the defs and names -/
def dG (x : Str) (i : Nat) : He.DefD := ⟨(x, none), x, x, defArgs (top i), defBody (top i), defScope (top i), [], []⟩
def dI (x q : Str) (i : Nat) : He.DefD := ⟨(x, some "__init__"), "__init__", q, defArgs (inClass (top i) 0), defBody (inClass (top i) 0), defScope (inClass (top i) 0), [], []⟩
def fnL : List He.DefD := [dG "_law_draw" 24, dG "_law_pick" 25, dG "_law_same" 26, dG "_law_thing" 27, dG "_law_classes" 28, dG "_law_is_alone" 29, dG "_law_ones" 30, dG "_law_twos" 31, dG "_law_bares" 32, dG "law" 33,
  dI "BadPath" "BadPath.__init__" 2, dI "Blocked" "Blocked.__init__" 3, dI "BadName" "BadName.__init__" 4, dI "BadLook" "BadLook.__init__" 5, dI "BadChange" "BadChange.__init__" 6, dI "BadSight" "BadSight.__init__" 7, dI "Apart" "Apart.__init__" 8, dI "BadStep" "BadStep.__init__" 9, dI "BadIndex" "BadIndex.__init__" 11, dI "NotOne" "NotOne.__init__" 12, dI "Known" "Known.__init__" 13, dI "BadSort" "BadSort.__init__" 14, dI "NotTrue" "NotTrue.__init__" 15, dI "BadPattern" "BadPattern.__init__" 16, dI "BadCount" "BadCount.__init__" 17, dI "NoBranch" "NoBranch.__init__" 19, dI "TakenBranch" "TakenBranch.__init__" 20, dI "BadLine" "BadLine.__init__" 22]
def gloL : List Str := (["_law_draw", "_law_pick", "_law_same", "_law_thing", "_law_classes", "_law_is_alone", "_law_ones", "_law_twos", "_law_bares", "law"] : List Str) ++ allN
def freeL : List Str := ["int", "len", "repr", "range", "isinstance", "ValueError", "list", "all", "any"]
def faL : List He.Fa := (gloL.map fun x => He.Fa.glo x) ++ freeL.map fun x => He.Fa.free x
def tfL : List He.Defn := [("_law_ones", none)]
def isD (o : Option Obj) : Bool := match o with
  | some ⟨_, _, .dict _ _, _⟩ => true
  | _ => false
def hkL : PySem.W.Hook where
  α := He.AlX × Bool
  obs := fun s => (He.obsX 5 faL fnL [] tfL exB s.heap.get?, isD (s.heap.get? sysModules))
  val := fun w => (He.valX fnL [] w, true)
  says := fun w h => (∃ K : PySem.W.Frag, K.In h ∧ He.SaysX faL fnL [] tfL exB w h K) ∧ ∃ (o : Obj) (es : Array DictEntry) (n : Nat), h.get? sysModules = some o ∧ o.data = .dict es n
  of := fun w s e => by
    refine ⟨(He.hookX 5 faL fnL [] tfL exB).of w s (congrArg (fun z : He.AlX × Bool => z.1) e), ?_⟩
    have e2 : isD (s.heap.get? sysModules) = true := congrArg (fun z : He.AlX × Bool => z.2) e
    unfold isD at e2
    split at e2
    · rename_i c d es n sl ho
      exact ⟨_, es, n, ho, rfl⟩
    · cases e2
  keeps := fun w h h' ⟨a, o, es, n, h1, h2⟩ k => ⟨(He.hookX 5 faL fnL [] tfL exB).keeps w h h' a k, o, es, n, k _ _ h1, h2⟩
abbrev RL : PySem.W.OpenRow := PySem.W.OpenLaw.row PySem.Challenge.rw_trueagain_k01_errors_made
def obL (s : PySem.W.SharedT) : hkL.α := (He.obsX 5 faL fnL [] tfL exB (HandSHeadRun.getT s), isD (HandSHeadRun.getT s sysModules))
theorem obL_eq (s : PySem.W.SharedT) : obL s = hkL.obs s.abs := by
  have e : HandSHeadRun.getT s = s.abs.heap.get? := funext (HandSHeadRun.getT_eq s)
  show (He.obsX 5 faL fnL [] tfL exB (HandSHeadRun.getT s), isD (HandSHeadRun.getT s sysModules)) = _
  rw [e]
  rfl
def looseL : List PySem.Str := allN ++ (["_law_draw", "_law_pick", "_law_same", "_law_thing", "_law_classes", "_law_is_alone", "_law_ones", "_law_twos", "_law_bares"] : List PySem.Str)
theorem runL (w : World) : HandSHeadRun.RunEq RL (PySem.W.view RL.prog [33]) hkL obL 20000 looseL w := by
  intro os
  kernel_rfl
end K1

set_option maxHeartbeats 0
namespace K1
open PySem PySem.Spec PyProof.Rows L2 EV RP LV LamX EG
theorem fun_of {K : PySem.W.Frag} {x q : Str} {st : Stmt} {f : Addr} {fd : FuncData} (F : FunD K x q (defArgs st) (defBody st) (defScope st) [] [] f fd) : Fun K x q st f fd := by
  obtain ⟨oc, od, dV, kV, doc, pm, an, cdv, ct, osl, rfl, lk, hcd, hD, hK⟩ := F.ex
  rcases hD with ⟨_, rfl⟩ | ⟨e, _⟩
  · exact ⟨⟨oc, od, kV, doc, pm, an, cdv, ct, osl, rfl, lk, hcd⟩, F.kp⟩
  · exact absurd rfl e
section
variable {P : Program} {w : World} {K : PySem.W.Frag} {h : Heap} {mg : Str → Option Value} {f : Addr}
theorem all_in {α : Type} {l : List α} {q : α → Bool} (e : l.all q = true) {x : α} (hx : x ∈ l) : q x = true := List.all_eq_true.mp e x hx
/-- the written facts, one by one -/
structure Facts (K : PySem.W.Frag) : Prop where
  ec : ∀ x ∈ allN, ECls K (He.ga K x)
  ea : EAll K
  kit : ∀ x ∈ allN, ∀ y ∈ nmL, PySem.W.kitOne K (.ref (He.ga K x)) (.ref (He.ga K y)) = some (decide (x = y))
  kitA : ∀ x ∈ allN, PySem.W.kitOne K (.ref (He.ga K x)) (.ref (He.ga K "AgainError")) = some true
  kitV : ∀ x ∈ allN, PySem.W.kitOne K (.ref (He.ga K x)) (.type "ValueError") = some true
  ini : ∀ s ∈ iniL, PySem.W.findIn K (.ref (He.ga K s.1)) "__init__" = some (some (.ref (He.ma K (He.ga K s.1) "__init__"))) ∧ PySem.W.typeIn K (.ref (He.ma K (He.ga K s.1) "__init__")) = some (.type "function") ∧ ∀ g ∈ s.2, PySem.W.findIn K (.ref (He.ga K s.1)) g = some none
  bare : ∀ x ∈ bareL, PySem.W.findIn K (.ref (He.ga K x)) "__init__" = some (some (.builtin "ValueError.__init__"))
theorem facts_of (e : exB K = true) : Facts K := by
  obtain ⟨h1, e⟩ := He.ba e
  obtain ⟨h2, e⟩ := He.ba e
  obtain ⟨h3, e⟩ := He.ba e
  obtain ⟨h4, e⟩ := He.ba e
  obtain ⟨h5, e⟩ := He.ba e
  obtain ⟨h6, e⟩ := He.ba e
  obtain ⟨h7, h8⟩ := He.ba e
  refine ⟨fun x hx => eclsB_ok (all_in h1 hx), ⟨of_decide_eq_true h2, of_decide_eq_true h3⟩, fun x hx y hy => of_decide_eq_true (all_in (all_in h4 hx) hy), fun x hx => of_decide_eq_true (all_in h5 hx), fun x hx => of_decide_eq_true (all_in h6 hx), fun s hs => ?_, fun x hx => of_decide_eq_true (all_in h8 hx)⟩
  obtain ⟨a1, a2⟩ := He.ba (all_in h7 hs)
  obtain ⟨a3, a4⟩ := He.ba a2
  exact ⟨of_decide_eq_true a1, of_decide_eq_true a3, fun g hg => of_decide_eq_true (all_in a4 hg)⟩
theorem whole (X : K.In h) (G : h.Ns mainGlobals mg) (hfa : mg ("law" : Str) = some (.ref f)) (c : He.SaysX faL fnL [] tfL exB w h K) :
    ∃ fd : FuncData, (∀ (s : Shared) (u : Value), BindsTo s fd ⟨[u], []⟩ [("_law_script", u)]) ∧ ∀ base : Heap, K.In base → base.Ns mainGlobals mg → (∀ p ∈ [He.cT K ("_law_ones", none)], TabB base mg p.1 p.2) → (base.get? sysModules).isSome = true →
      FnG P w K mg base CX0 4 f fd ["_law_script"] (spLaw K (He.cT K ("_law_ones", none)).2) := by
  have D := c.t.d
  have fx := facts_of c.more
  have gl : ∀ x ∈ gloL, mg x = some (.ref (He.ga K x)) := fun x hx => He.glo_ok X G (D.facts (f := .glo x) (List.mem_append_left _ (List.mem_map.mpr ⟨x, hx, rfl⟩)))
  have fr : ∀ x ∈ freeL, mg x = none := fun x hx => He.free_ok X G (D.facts (f := .free x) (List.mem_append_right _ (List.mem_map.mpr ⟨x, hx, rfl⟩)))
  have ga : ∀ x ∈ allN, mg x = some (.ref (He.ga K x)) := fun x hx => gl x (List.mem_append_right _ hx)
  have T : TCls K mg (He.ga K) := ⟨fr _ (by decide +kernel), fr _ (by decide +kernel), fx.ea, ga, fx.ec, fx.kit, fx.kitA, fx.kitV⟩
  obtain ⟨dD, UD⟩ := D.def_ 0 (d := dG "_law_draw" 24) rfl
  have FD : Fun K "_law_draw" "_law_draw" (top 24) (He.ga K "_law_draw") dD := fun_of UD
  obtain ⟨dP, UP⟩ := D.def_ 1 (d := dG "_law_pick" 25) rfl
  have FP : Fun K "_law_pick" "_law_pick" (top 25) (He.ga K "_law_pick") dP := fun_of UP
  obtain ⟨dS, US⟩ := D.def_ 2 (d := dG "_law_same" 26) rfl
  have FS : Fun K "_law_same" "_law_same" (top 26) (He.ga K "_law_same") dS := fun_of US
  obtain ⟨dT, UT⟩ := D.def_ 3 (d := dG "_law_thing" 27) rfl
  have FT : Fun K "_law_thing" "_law_thing" (top 27) (He.ga K "_law_thing") dT := fun_of UT
  obtain ⟨dC, UC⟩ := D.def_ 4 (d := dG "_law_classes" 28) rfl
  have FC : Fun K "_law_classes" "_law_classes" (top 28) (He.ga K "_law_classes") dC := fun_of UC
  obtain ⟨dA, UA⟩ := D.def_ 5 (d := dG "_law_is_alone" 29) rfl
  have FA : Fun K "_law_is_alone" "_law_is_alone" (top 29) (He.ga K "_law_is_alone") dA := fun_of UA
  obtain ⟨dO, UO⟩ := D.def_ 6 (d := dG "_law_ones" 30) rfl
  have FO : Fun K "_law_ones" "_law_ones" (top 30) (He.ga K "_law_ones") dO := fun_of UO
  obtain ⟨dW, UW⟩ := D.def_ 7 (d := dG "_law_twos" 31) rfl
  have FW : Fun K "_law_twos" "_law_twos" (top 31) (He.ga K "_law_twos") dW := fun_of UW
  obtain ⟨dB, UB⟩ := D.def_ 8 (d := dG "_law_bares" 32) rfl
  have FB : Fun K "_law_bares" "_law_bares" (top 32) (He.ga K "_law_bares") dB := fun_of UB
  obtain ⟨dL, UL⟩ := D.def_ 9 (d := dG "law" 33) rfl
  have FL : Fun K "law" "law" (top 33) (He.ga K "law") dL := fun_of UL
  obtain ⟨d_BadPath, U_BadPath⟩ := D.def_ 10 (d := dI "BadPath" "BadPath.__init__" 2) rfl
  have F_BadPath : Fun K "__init__" "BadPath.__init__" (inClass (top 2) 0) (He.ma K (He.ga K "BadPath") "__init__") d_BadPath := fun_of U_BadPath
  obtain ⟨d_Blocked, U_Blocked⟩ := D.def_ 11 (d := dI "Blocked" "Blocked.__init__" 3) rfl
  have F_Blocked : Fun K "__init__" "Blocked.__init__" (inClass (top 3) 0) (He.ma K (He.ga K "Blocked") "__init__") d_Blocked := fun_of U_Blocked
  obtain ⟨d_BadName, U_BadName⟩ := D.def_ 12 (d := dI "BadName" "BadName.__init__" 4) rfl
  have F_BadName : Fun K "__init__" "BadName.__init__" (inClass (top 4) 0) (He.ma K (He.ga K "BadName") "__init__") d_BadName := fun_of U_BadName
  obtain ⟨d_BadLook, U_BadLook⟩ := D.def_ 13 (d := dI "BadLook" "BadLook.__init__" 5) rfl
  have F_BadLook : Fun K "__init__" "BadLook.__init__" (inClass (top 5) 0) (He.ma K (He.ga K "BadLook") "__init__") d_BadLook := fun_of U_BadLook
  obtain ⟨d_BadChange, U_BadChange⟩ := D.def_ 14 (d := dI "BadChange" "BadChange.__init__" 6) rfl
  have F_BadChange : Fun K "__init__" "BadChange.__init__" (inClass (top 6) 0) (He.ma K (He.ga K "BadChange") "__init__") d_BadChange := fun_of U_BadChange
  obtain ⟨d_BadSight, U_BadSight⟩ := D.def_ 15 (d := dI "BadSight" "BadSight.__init__" 7) rfl
  have F_BadSight : Fun K "__init__" "BadSight.__init__" (inClass (top 7) 0) (He.ma K (He.ga K "BadSight") "__init__") d_BadSight := fun_of U_BadSight
  obtain ⟨d_Apart, U_Apart⟩ := D.def_ 16 (d := dI "Apart" "Apart.__init__" 8) rfl
  have F_Apart : Fun K "__init__" "Apart.__init__" (inClass (top 8) 0) (He.ma K (He.ga K "Apart") "__init__") d_Apart := fun_of U_Apart
  obtain ⟨d_BadStep, U_BadStep⟩ := D.def_ 17 (d := dI "BadStep" "BadStep.__init__" 9) rfl
  have F_BadStep : Fun K "__init__" "BadStep.__init__" (inClass (top 9) 0) (He.ma K (He.ga K "BadStep") "__init__") d_BadStep := fun_of U_BadStep
  obtain ⟨d_BadIndex, U_BadIndex⟩ := D.def_ 18 (d := dI "BadIndex" "BadIndex.__init__" 11) rfl
  have F_BadIndex : Fun K "__init__" "BadIndex.__init__" (inClass (top 11) 0) (He.ma K (He.ga K "BadIndex") "__init__") d_BadIndex := fun_of U_BadIndex
  obtain ⟨d_NotOne, U_NotOne⟩ := D.def_ 19 (d := dI "NotOne" "NotOne.__init__" 12) rfl
  have F_NotOne : Fun K "__init__" "NotOne.__init__" (inClass (top 12) 0) (He.ma K (He.ga K "NotOne") "__init__") d_NotOne := fun_of U_NotOne
  obtain ⟨d_Known, U_Known⟩ := D.def_ 20 (d := dI "Known" "Known.__init__" 13) rfl
  have F_Known : Fun K "__init__" "Known.__init__" (inClass (top 13) 0) (He.ma K (He.ga K "Known") "__init__") d_Known := fun_of U_Known
  obtain ⟨d_BadSort, U_BadSort⟩ := D.def_ 21 (d := dI "BadSort" "BadSort.__init__" 14) rfl
  have F_BadSort : Fun K "__init__" "BadSort.__init__" (inClass (top 14) 0) (He.ma K (He.ga K "BadSort") "__init__") d_BadSort := fun_of U_BadSort
  obtain ⟨d_NotTrue, U_NotTrue⟩ := D.def_ 22 (d := dI "NotTrue" "NotTrue.__init__" 15) rfl
  have F_NotTrue : Fun K "__init__" "NotTrue.__init__" (inClass (top 15) 0) (He.ma K (He.ga K "NotTrue") "__init__") d_NotTrue := fun_of U_NotTrue
  obtain ⟨d_BadPattern, U_BadPattern⟩ := D.def_ 23 (d := dI "BadPattern" "BadPattern.__init__" 16) rfl
  have F_BadPattern : Fun K "__init__" "BadPattern.__init__" (inClass (top 16) 0) (He.ma K (He.ga K "BadPattern") "__init__") d_BadPattern := fun_of U_BadPattern
  obtain ⟨d_BadCount, U_BadCount⟩ := D.def_ 24 (d := dI "BadCount" "BadCount.__init__" 17) rfl
  have F_BadCount : Fun K "__init__" "BadCount.__init__" (inClass (top 17) 0) (He.ma K (He.ga K "BadCount") "__init__") d_BadCount := fun_of U_BadCount
  obtain ⟨d_NoBranch, U_NoBranch⟩ := D.def_ 25 (d := dI "NoBranch" "NoBranch.__init__" 19) rfl
  have F_NoBranch : Fun K "__init__" "NoBranch.__init__" (inClass (top 19) 0) (He.ma K (He.ga K "NoBranch") "__init__") d_NoBranch := fun_of U_NoBranch
  obtain ⟨d_TakenBranch, U_TakenBranch⟩ := D.def_ 26 (d := dI "TakenBranch" "TakenBranch.__init__" 20) rfl
  have F_TakenBranch : Fun K "__init__" "TakenBranch.__init__" (inClass (top 20) 0) (He.ma K (He.ga K "TakenBranch") "__init__") d_TakenBranch := fun_of U_TakenBranch
  obtain ⟨d_BadLine, U_BadLine⟩ := D.def_ 27 (d := dI "BadLine" "BadLine.__init__" 22) rfl
  have F_BadLine : Fun K "__init__" "BadLine.__init__" (inClass (top 22) 0) (He.ma K (He.ga K "BadLine") "__init__") d_BadLine := fun_of U_BadLine
  have bD : L2.Binds K dD ["_law_stream", "_law_many"] [] := FD.binds fun _ _ _ _ _ _ us hl => match us, hl with | [_, _], _ => rfl
  have bP : L2.Binds K dP ["_law_stream", "_law_things"] [] := FP.binds fun _ _ _ _ _ _ us hl => match us, hl with | [_, _], _ => rfl
  have bS : L2.Binds K dS ["_law_found", "_law_due"] [] := FS.binds fun _ _ _ _ _ _ us hl => match us, hl with | [_, _], _ => rfl
  have bT : L2.Binds K dT ["_law_stream"] [] := FT.binds fun _ _ _ _ _ _ us hl => match us, hl with | [_], _ => rfl
  have bC : L2.Binds K dC ["_law_e"] [] := FC.binds fun _ _ _ _ _ _ us hl => match us, hl with | [_], _ => rfl
  have bA : L2.Binds K dA ["_law_e", "_law_spot"] [] := FA.binds fun _ _ _ _ _ _ us hl => match us, hl with | [_, _], _ => rfl
  have bW : L2.Binds K dW ["_law_one", "_law_other"] [] := FW.binds fun _ _ _ _ _ _ us hl => match us, hl with | [_, _], _ => rfl
  have bB : L2.Binds K dB [] [] := FB.binds fun _ _ _ _ _ _ us hl => match us, hl with | [], _ => rfl
  have bO : L2.Binds K dO ["_law_one"] [] := FO.binds fun _ _ _ _ _ _ us hl => match us, hl with | [_], _ => rfl
  have e := hfa.symm.trans (gl "law" (by decide +kernel))
  cases e
  have bL : ∀ (s : Shared) (u : Value), BindsTo s dL ⟨[u], []⟩ [("_law_script", u)] := by
    obtain ⟨oc, od, kV, doc, pm, an, cdv, ct, osl, rfl, lk, hcd⟩ := FL.ex
    exact fun s u => .of_eq rfl
  refine ⟨dL, bL, fun base KB GB hTB sm => ?_⟩
  have I1 : ∀ s ∈ onL, Ini1 P w K mg base (He.ga K s.2.1) s.2.2 := by
    intro s hs
    simp only [onL, List.mem_cons, List.not_mem_nil, or_false] at hs
    rcases hs with rfl | rfl | rfl | rfl | rfl | rfl | rfl | rfl | rfl | rfl | rfl | rfl | rfl | rfl | rfl | rfl
    · have q := fx.ini ("BadPath", ["path"]) (by decide +kernel)
      exact ini_BadPath F_BadPath q.1 q.2.1 (q.2.2 _ (by decide +kernel))
    · have q := fx.ini ("Blocked", ["path"]) (by decide +kernel)
      exact ini_Blocked F_Blocked q.1 q.2.1 (q.2.2 _ (by decide +kernel))
    · have q := fx.ini ("BadName", ["name"]) (by decide +kernel)
      exact ini_BadName F_BadName q.1 q.2.1 (q.2.2 _ (by decide +kernel))
    · have q := fx.ini ("BadLook", ["look"]) (by decide +kernel)
      exact ini_BadLook F_BadLook q.1 q.2.1 (q.2.2 _ (by decide +kernel))
    · have q := fx.ini ("BadChange", ["index"]) (by decide +kernel)
      exact ini_BadChange F_BadChange q.1 q.2.1 (q.2.2 _ (by decide +kernel))
    · have q := fx.ini ("BadSight", ["index"]) (by decide +kernel)
      exact ini_BadSight F_BadSight q.1 q.2.1 (q.2.2 _ (by decide +kernel))
    · have q := fx.ini ("BadStep", ["place"]) (by decide +kernel)
      exact ini_BadStep F_BadStep q.1 q.2.1 (q.2.2 _ (by decide +kernel))
    · have q := fx.ini ("BadIndex", ["thing"]) (by decide +kernel)
      exact ini_BadIndex F_BadIndex q.1 q.2.1 (q.2.2 _ (by decide +kernel))
    · have q := fx.ini ("Known", ["outcome"]) (by decide +kernel)
      exact ini_Known F_Known q.1 q.2.1 (q.2.2 _ (by decide +kernel))
    · have q := fx.ini ("BadSort", ["thing"]) (by decide +kernel)
      exact ini_BadSort F_BadSort q.1 q.2.1 (q.2.2 _ (by decide +kernel))
    · have q := fx.ini ("NotTrue", ["index"]) (by decide +kernel)
      exact ini_NotTrue F_NotTrue q.1 q.2.1 (q.2.2 _ (by decide +kernel))
    · have q := fx.ini ("BadPattern", ["thing"]) (by decide +kernel)
      exact ini_BadPattern F_BadPattern q.1 q.2.1 (q.2.2 _ (by decide +kernel))
    · have q := fx.ini ("BadCount", ["n"]) (by decide +kernel)
      exact ini_BadCount F_BadCount q.1 q.2.1 (q.2.2 _ (by decide +kernel))
    · have q := fx.ini ("NoBranch", ["name"]) (by decide +kernel)
      exact ini_NoBranch F_NoBranch q.1 q.2.1 (q.2.2 _ (by decide +kernel))
    · have q := fx.ini ("TakenBranch", ["name"]) (by decide +kernel)
      exact ini_TakenBranch F_TakenBranch q.1 q.2.1 (q.2.2 _ (by decide +kernel))
    · have q := fx.ini ("BadLine", ["index"]) (by decide +kernel)
      exact ini_BadLine F_BadLine q.1 q.2.1 (q.2.2 _ (by decide +kernel))
  have I_Apart : Ini2 P w K mg base (He.ga K "Apart") "first" "second" := by
    have q := fx.ini ("Apart", ["first", "second"]) (by decide +kernel)
    exact ini_Apart F_Apart q.1 q.2.1 (q.2.2 _ (by decide +kernel)) (q.2.2 _ (by decide +kernel))
  have I_NotOne : Ini2 P w K mg base (He.ga K "NotOne") "first" "second" := by
    have q := fx.ini ("NotOne", ["first", "second"]) (by decide +kernel)
    exact ini_NotOne F_NotOne q.1 q.2.1 (q.2.2 _ (by decide +kernel)) (q.2.2 _ (by decide +kernel))
  have T1 : TA1 K mg base (He.ga K "_law_draw") dD := ⟨fr _ (by decide +kernel), fr _ (by decide +kernel), fr _ (by decide +kernel), fr _ (by decide +kernel), sm, gl _ (by decide +kernel), FD.kp, bD⟩
  have GD : FnOk P w K mg base CX0 1 (He.ga K "_law_draw") dD ["_law_stream", "_law_many"] spDraw := ok_draw FD ⟨fr _ (by decide +kernel)⟩
  have GP : FnOk P w K mg base CX0 2 (He.ga K "_law_pick") dP ["_law_stream", "_law_things"] spPick := ok_pick FP T1 GD
  have GS : FnG P w K mg base CX0 1 (He.ga K "_law_same") dS ["_law_found", "_law_due"] (spSame K) := ok_same FS T1
  have GT : FnOk P w K mg base CX0 3 (He.ga K "_law_thing") dT ["_law_stream"] spThing := ok_thing FT T1 ⟨gl _ (by decide +kernel), FP.kp, bP⟩ GD GP
  have GC : FnOk P w K mg base CX0 1 (He.ga K "_law_classes") dC ["_law_e"] (spClasses (He.ga K)) := ok_classes FC T
  have GA : FnOk P w K mg base CX0 2 (He.ga K "_law_is_alone") dA ["_law_e", "_law_spot"] (spAlone (He.ga K)) := ok_alone FA T ⟨gl _ (by decide +kernel), FC.kp, bC⟩ GC
  have GW : FnOk P w K mg base CX0 3 (He.ga K "_law_twos") dW ["_law_one", "_law_other"] (spTwos (He.ga K)) := ok_twos FW T I_Apart I_NotOne
  have GBa : FnOk P w K mg base CX0 1 (He.ga K "_law_bares") dB [] (spBares (He.ga K)) := ok_bares FB T fun x hx => fx.bare x hx
  have GO : FnOk P w K mg base CX0 3 (He.ga K "_law_ones") dO ["_law_one"] (spOnes (He.ga K) (He.cT K ("_law_ones", none)).2) := by
    have tb := hTB _ (List.mem_singleton.mpr rfl)
    obtain ⟨oc, od, kV, doc, pm, an, cdv, ct, osl, rfl, lk, hcd⟩ := FO.ex
    obtain ⟨c0, rfl⟩ := He.codeIn_ref hcd
    have ec : He.codeOf K ("_law_ones", none) = c0 := He.codeOf_eq lk rfl
    have ec1 : (He.cT K ("_law_ones", none)).1 = c0 := ec
    rw [ec1] at tb
    exact ok_ones lk hcd tb T I1
  have nf : ∀ s ∈ onL, PySem.W.findIn K (.ref (He.ga K s.2.1)) s.2.2 = some none := fun s hs => (I1 s hs).no
  have nf2 : ∀ x ∈ (["Apart", "NotOne"] : List Str), PySem.W.findIn K (.ref (He.ga K x)) "first" = some none ∧ PySem.W.findIn K (.ref (He.ga K x)) "second" = some none := by
    intro x hx
    simp only [List.mem_cons, List.not_mem_nil, or_false] at hx
    rcases hx with rfl | rfl
    · exact ⟨I_Apart.no1, I_Apart.no2⟩
    · exact ⟨I_NotOne.no1, I_NotOne.no2⟩
  exact ok_law FL ⟨fr _ (by decide +kernel), fr _ (by decide +kernel), fr _ (by decide +kernel), fr _ (by decide +kernel)⟩ T (fx.bare _ (by decide +kernel)) nf nf2 ⟨gl _ (by decide +kernel), FT.kp, bT⟩ GT ⟨gl _ (by decide +kernel), FO.kp, bO⟩ GO ⟨gl _ (by decide +kernel), FW.kp, bW⟩ GW
    ⟨gl _ (by decide +kernel), FB.kp, bB⟩ GBa ⟨gl _ (by decide +kernel), FA.kp, bA⟩ GA ⟨gl _ (by decide +kernel), FC.kp, bC⟩ GC ⟨gl _ (by decide +kernel), FS.kp, bS⟩ GS
end
end K1

set_option maxHeartbeats 0
open PySem PySem.W PySem.Calls PyProof.Rows
theorem PySem.Challenge.cw_trueagain_k01_errors_made_holds : PySem.Challenge.rw_trueagain_k01_errors_made.Holds := by
  w_on; o_law
  refine HandSHeadRun.head_any (r := K1.RL) (q := view K1.RL.prog [33]) (H := K1.hkL) (ob := K1.obL) (M := 20000) (loose := K1.looseL) (d := HandSHeadRun.topDef K1.RL.prog 33) (kwd := []) K1.obL_eq
    (by kernel_rfl) (fun s => by kernel_rfl) K1.runL (by kernel_rfl) (by kernel_rfl) (by kernel_rfl) (by rfl) (by first | assumption | decide +kernel) (by decide +kernel) ⟨rfl, rfl, rfl, rfl, rfl, by decide +kernel⟩ ?hw ?hc
  case hw => w_witness2
  case hc =>
    refine EG.walkG (l := PySem.Challenge.rw_trueagain_k01_errors_made) (n := 63) (k := 4) (x := "_law_script") rfl (by decide) (by kernel_rfl) ⟨rfl, by decide, by decide⟩ ?F
    intro w mg fa h Y G hmg0
    obtain ⟨⟨K, KX, c⟩, sys⟩ := Y
    have hmg : mg ("law" : PySem.Str) = some (.ref fa) := by
      have e : (HandSHeadRun.topDef K1.RL.prog 33).name = ("law" : PySem.Str) := by kernel_rfl
      rw [← e]
      exact hmg0
    obtain ⟨fd, hb, hF⟩ := K1.whole (P := PySem.Challenge.rw_trueagain_k01_errors_made.prog) (w := w) KX G hmg c
    have one : ∀ p ∈ [He.cT K ("_law_ones", none)], p = He.cT K ("_law_ones", none) := fun p hp => List.mem_singleton.mp hp
    have mem : (("_law_ones", none) : He.Defn) ∈ K1.tfL := List.mem_singleton.mpr rfl
    exact ⟨K, [He.cT K ("_law_ones", none)], fd, K1.spLaw K (He.cT K ("_law_ones", none)).2, KX, fun p hp => by rw [one p hp]; exact c.empty _ mem, fun p hp => by rw [one p hp]; exact c.out _ mem, fun p hp => by rw [one p hp]; exact codeHd_of_K KX (c.hd _ mem), sys, hb,
      fun H a ns hl _ hT hS => ⟨a, ns, rfl, hl, hS, LamX.TabS.nil (hT _ (List.mem_singleton.mpr rfl)), fun _ => rfl⟩, hF⟩
