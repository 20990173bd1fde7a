import PyProof.Rows.All
import Wide.All
import OpenK.AllK
import Wide.FinOn
import HandS.ForMost
import HandS.Wide
import HandS.Codes
import HandS.Conv
import HandS.Deep
import PySem.Challenge.RW_trueagain_k13_bad_steps
import PyProof.ReprRoads
import HandS.Lambda
import HandS.EndTab
import HandS.Walk
import HandS.IsInst
import HandS.StrMore
import HandS.SetKeys
import HandS.Exc
import HandS.TryOnly
import HandS.WordsExc
import HandS.ExcInit
import HandS.ExcField
import HandS.ExcOwn
import HandS.Head0
import HandS.Head1
import HandS.Head2
import HandS.HeadEnd
import HandS.HeadHook1
import HandS.HeadHook2
import HandS.HeadHook3
import HandS.HeadHook4
import HandS.Defaults
import HandS.DictTup
import PyProof.DictMoreH
import HandS.Iter
import KE.GoesMore
import KE.GoesZip
import KE.KEqDict
import HandS.More
import KE.KeyNested
import HandS.Dict
import HandS.TupAny
import HandS.SetBool
import HandS.Strs
import PyProof.EqAt
import PyProof.NeKinds
import HandS.DictComp
import HandS.TupSets
import HandS.Style
import HandS.Base
import HandS.Call
import HandS.OwnEq
import KE.KOpsOwn
import PyProof.InstNe
set_option Elab.async false
set_option linter.all false
set_option maxRecDepth 100000
set_option maxHeartbeats 3900000
namespace T6
open PySem PySem.Spec PyProof.Rows L2
open C8 (pss_cut tCut pe_gc)
def top (i : Nat) : Stmt := PySem.Challenge.pw_trueagain_k13_bad_steps.main.body.getD i (.Pass ⟨0, 0, 0, 0⟩)
abbrev sDraw : Stmt := top 30
abbrev sPick : Stmt := top 31
abbrev sMixed : Stmt := top 32
abbrev sFresh : Stmt := top 34
abbrev sPool : Stmt := top 35
abbrev sPath : Stmt := top 36
abbrev sText : Stmt := top 37
def SV (H : Hp) (st l : Addr) (ns : List Int) (a c m : Int) : Prop := H st = some (.lst [.ref l, .int a, .int c, .int m]) ∧ H l = some (.lst (ns.map V.int))
theorem SV.ne {H : Hp} {st l : Addr} {ns : List Int} {a c m : Int} (S : SV H st l ns a c m) : st ≠ l := by
  refine ne_of S.1 S.2 fun z => ?_
  have z2 : [V.ref l, V.int a, V.int c, V.int m] = ns.map V.int := HO.lst.inj z
  cases ns with
  | nil => cases z2
  | cons n r =>
    rw [List.map_cons] at z2
    have := (List.cons.inj z2).1
    cases this
def Good (H : Hp) (st l : Addr) (c : Int) : Prop := ∃ (ns : List Int) (a m : Int), SV H st l ns a c m ∧ ns.length ≤ 63 ∧ 0 ≤ a ∧ 0 ≤ m ∧ m < 2147483647
structure Strm (H : Hp) (st l : Addr) (c : Nat) : Prop where
  ex : Good H st l (c : Int)
def But (st l : Addr) (H H' : Hp) : Prop := ∀ b o, H b = some o → b ≠ st → b ≠ l → H' b = some o
theorem But.refl {st l : Addr} {H : Hp} : But st l H H := fun _ _ e _ _ => e
theorem But.st {st l : Addr} {H H' : Hp} {o : HO} (B : But st l H H') : But st l H (upd H' st o) := fun b u e h1 h2 => by
  rw [upd_ne h1]
  exact B b u e h1 h2
theorem But.li {st l : Addr} {H H' : Hp} {o : HO} (B : But st l H H') : But st l H (upd H' l o) := fun b u e h1 h2 => by
  rw [upd_ne h2]
  exact B b u e h1 h2
theorem But.new {st l p : Addr} {H H' : Hp} {o : HO} (B : But st l H H') (h : H' p = none) : But st l H (upd H' p o) := fun b u e h1 h2 => by
  have q := B b u e h1 h2
  rw [upd_ne (ne_of_none q h)]
  exact q
theorem SV.st {H : Hp} {st l : Addr} {ns : List Int} {a c m a' c' m' : Int} {xs : List V} (S : SV H st l ns a c m) (e : xs = [.ref l, .int a', .int c', .int m']) : SV (upd H st (.lst xs)) st l ns a' c' m' := by
  subst e
  refine ⟨upd_same, ?_⟩
  rw [upd_ne S.ne.symm]
  exact S.2
theorem SV.new {H : Hp} {st l p : Addr} {ns : List Int} {a c m : Int} {o : HO} (S : SV H st l ns a c m) (h : H p = none) : SV (upd H p o) st l ns a c m := by
  refine ⟨?_, ?_⟩
  · rw [upd_ne (ne_of_none S.1 h)]
    exact S.1
  · rw [upd_ne (ne_of_none S.2 h)]
    exact S.2
theorem SV.li {H : Hp} {st l : Addr} {ns ns' : List Int} {a c m : Int} {xs : List V} (S : SV H st l ns a c m) (e : xs = ns'.map V.int) : SV (upd H l (.lst xs)) st l ns' a c m := by
  subst e
  refine ⟨?_, upd_same⟩
  rw [upd_ne S.ne]
  exact S.1
def spDraw : Sp := fun vs H Q _ => ∃ (st l : Addr) (c : Nat) (many : Int), vs = [.ref st, .int many] ∧ Strm H st l c ∧ c ≤ 1000000 ∧ 0 < many ∧ many < 1000000 ∧
  ∀ (d : Int) (H' : Hp), 0 ≤ d → d < many → But st l H H' → Strm H' st l (c + 1) → Q (.int d) H'
structure TDraw (mg : Str → Option Value) : Prop where
  int : mg "int" = none
section
variable {P : Program} {w : World} {K : PySem.W.Frag} {mg : Str → Option Value} {base : Heap}
theorem dp_ints {H : Hp} : ∀ ns : List Int, DpAll K H (ns.map V.int) (ns.map PyData.int)
  | [] => .nil
  | n :: r => .cons (.int n) (dp_ints r)
theorem scD : FnScope ["_law_stream", "_law_many", "_law_digit", "_law_mixed_here"] ["_law_stream", "_law_many"] (defScope sDraw) := ⟨rfl, rfl, rfl, by decide +kernel, rfl, by decide +kernel, by decide +kernel⟩
theorem ok_draw {f : Addr} {fd : FuncData} (F : Fun K "_law_draw" "_law_draw" sDraw f fd) (T : TDraw mg) : FnOk P w K mg base CX0 1 f fd ["_law_stream", "_law_many"] spDraw := by
  refine F.ok scD (fun vs H Q E h => ?_) (fun cdv A outer s H vs Q E hr h => ?_)
  · obtain ⟨st, l, c, many, rfl, _⟩ := h
    rfl
  · obtain ⟨st, l, c, many, rfl, S, hc, hm0, hm1, k⟩ := h
    have hu := hr.units
    refine ⟨_, pss_cut (ps_asg (pe_op op_add (pe_ix ix_list (pv 0) pe_int (fun _ _ => rfl)) pe_int) (pg_sub (pv 0) pe_int set_list))
      (pss_cut (ps_if (PW.pt (pw_and (pt_cmpR op_eq (pe_ix ix_list (pv 0) pe_int (fun _ _ => rfl)) pe_int (nomark _)) (pw_and1 (pt_cmpR (op_neD hu) (pe_ix ix_list (pv 0) pe_int (fun _ _ => rfl)) (pe_lst pa_nil) (nomark _)))))
        (pss_cut (ps_asg (pe_bm PySem.F.plainAttrs_list PySem.F.slot_list_pop PySem.F.type_list_pop mt_popAt (pe_ix ix_list (pv 0) pe_int (fun _ _ => rfl)) (pa_cons pe_int pa_nil)) (pg_sub (pv 0) pe_int set_list))
          (pss_one (ps_if (pt_cmpR op_lt (pe_ix ix_list (pv 0) pe_int (fun _ _ => rfl)) (pe_op op_pow pe_int pe_int) (nomark _))
            (pss_cut (ps_asg (pe_op op_mod (pe_callTy call_int1 (by rfl) T.int (by decide +kernel) (pa_cons (pe_op op_add (pe_op op_add (pe_op op_mul (pe_ix ix_list (pv 0) pe_int (fun _ _ => rfl)) pe_int) (pe_ix ix_list (pv 0) pe_int (fun _ _ => rfl))) pe_int) pa_nil)) pe_int) (pg_sub (pv 0) pe_int set_list))
              (pss_one (ps_asg pe_int (pg_sub (pv 0) pe_int set_list)))) pss_nil)))
        pss_nil)
      (pss_cut (ps_if (pt_cmpR op_gt (pe_ix ix_list (pv 0) pe_int (fun _ _ => rfl)) pe_int (nomark _))
        (pss_cons (ps_set (i := 2) scD.nd rfl (Or.inl rfl) (pe_op op_mod (pe_callTy call_int1 (by rfl) T.int (by decide +kernel) (pa_cons (pe_ix ix_list (pv 0) pe_int (fun _ _ => rfl)) pa_nil)) (pv 1)))
          (pss_cons (ps_asg (pe_op op_fdivW (pe_ix ix_list (pv 0) pe_int (fun _ _ => rfl)) (pv 1)) (pg_sub (pv 0) pe_int set_list))
            (pss_one (ps_ret (pv 2))))) pss_nil)
      (pss_cons (ps_set (i := 3) scD.nd rfl (Or.inl rfl) (pe_op op_mod (pe_op op_pow (pe_op op_add (pe_op op_add (pe_ix ix_list (pv 0) pe_int (fun _ _ => rfl)) (pe_op op_mul pe_int (pe_ix ix_list (pv 0) pe_int (fun _ _ => rfl)))) pe_int) pe_int) pe_int))
        (pss_one (ps_ret (pe_op op_mod (pe_op op_mod (pe_op op_pow (pe_op op_add (pe_op op_add (pe_op op_mul (pv 3) pe_int)
            (pe_op op_mul (pe_op op_mul pe_int (pe_ix ix_list (pv 0) pe_int (fun _ _ => rfl))) (pe_ix ix_list (pv 0) pe_int (fun _ _ => rfl)))) pe_int) pe_int) pe_int) (pv 1))))))), ?_⟩
    obtain ⟨ns, a, m, hS, hns, ha, hm, hm2⟩ := S.ex
    -- stream[2] = stream[2] + 1
    refine ⟨fun σ H' => σ = [some (.ref st), some (.int many), none, none] ∧ But st l H H' ∧ SV H' st l ns a ((c + 1 : Nat) : Int) m,
      ⟨_, rfl, st, _, _, _, rfl, rfl, SqL.of hS.1, rfl, _, _, rfl, rfl, _, rfl, st, _, 2, 2, rfl, rfl, hS.1, rfl, rfl, But.refl.st, hS.st rfl⟩, ?_⟩
    rintro _ H1 ⟨rfl, B1, S1⟩
    -- if stream[1] == 0 and stream[0] != []: ..
    refine ⟨fun σ H' => σ = [some (.ref st), some (.int many), none, none] ∧ But st l H H' ∧ Good H' st l ((c + 1 : Nat) : Int),
      ⟨_, rfl, st, _, _, _, rfl, rfl, SqL.of S1.1, rfl, rfl, _, rfl, ?_⟩, ?_⟩
    · refine ite2 (fun ea => ?_) (fun _ => iteF ⟨rfl, B1, ns, a, m, S1, hns, ha, hm, hm2⟩)
      refine ⟨_, rfl, st, _, _, _, rfl, rfl, SqL.of S1.1, rfl, Nat.zero_le _, fun p hp => ?_⟩
      have S2 := S1.new (o := .lst []) hp
      have B2 := B1.new (o := .lst []) hp
      refine ⟨.list (ns.map .int), .list [], .lst (SqL.of S2.2) ?_, .lst (SqL.of upd_same) .nil, ?_, rfl, _, rfl, ?_⟩
      · exact dp_ints ns
      · exact PySem.W.shaped_ints ns
      · cases ns with
        | nil => exact iteF ⟨rfl, B2, [], a, m, S2, hns, ha, hm, hm2⟩
        | cons n r =>
          refine iteT ?_
          have hns' : r.length ≤ 63 := by
            rw [List.length_cons] at hns
            omega
          have e0 : seqIndex? 0 (((n :: r).map V.int).length) = some 0 := by
            rw [List.length_map, List.length_cons]
            simp [seqIndex?]
          -- stream[1] = stream[0].pop(0)
          refine ⟨fun σ H' => σ = [some (.ref st), some (.int many), none, none] ∧ But st l H H' ∧ SV H' st l r n ((c + 1 : Nat) : Int) m,
            ⟨_, rfl, st, _, _, _, rfl, rfl, SqL.of S2.1, rfl, .inl ⟨rfl, _, SqL.of S2.2⟩, l, _, 0, 0, _, rfl, rfl, S2.2, by decide, by decide, e0, rfl, _, rfl, st, _, 1, 1, rfl, rfl, (S2.li (ns' := r) rfl).1, rfl, rfl, B2.li.st, (S2.li (ns' := r) rfl).st rfl⟩, ?_⟩
          rintro _ H3 ⟨rfl, B3, S3⟩
          -- if stream[1] < 10 ** 18: ..
          refine ⟨_, rfl, st, _, _, _, rfl, rfl, SqL.of S3.1, rfl, _, _, rfl, rfl, ⟨by decide, by decide, by decide⟩, _, _, rfl, rfl, _, rfl, ?_⟩
          refine ite2 (fun lt => ?_) (fun ge => ?_)
          · refine ⟨fun σ H' => σ = [some (.ref st), some (.int many), none, none] ∧ But st l H H' ∧ ∃ m' : Int, SV H' st l r n ((c + 1 : Nat) : Int) m' ∧ 0 ≤ m' ∧ m' < 2147483647,
              ⟨_, rfl, st, _, _, _, rfl, rfl, SqL.of S3.1, rfl, _, _, rfl, rfl, .inr ⟨by decide, by decide⟩, _, rfl, st, _, _, _, rfl, rfl, SqL.of S3.1, rfl, _, _, rfl, rfl, _, _, rfl, rfl, .inl ⟨_, rfl, _, _, rfl, rfl, (by show (0 : Int) < 2147483647; decide),
                _, rfl, st, _, 3, 3, rfl, rfl, S3.1, rfl, rfl, B3.st, _, S3.st rfl, Int.emod_nonneg _ (by decide), Int.emod_lt_of_pos _ (by decide)⟩⟩, ?_⟩
            rintro _ H4 ⟨rfl, B4, m', S4, h1, h2⟩
            exact ⟨_, rfl, st, _, 1, 1, rfl, rfl, S4.1, rfl, rfl, B4.st, r, 0, m', S4.st rfl, hns', by decide, h1, h2⟩
          · have ge' : ¬ n < (10 : Int) ^ (18 : Int).toNat := fun z => ge (decide_eq_true z)
            have e : (10 : Int) ^ (18 : Int).toNat = 1000000000000000000 := by decide
            rw [e] at ge'
            exact ⟨rfl, B3, r, n, m, S3, hns', by omega, hm, hm2⟩
    · rintro _ H3 ⟨rfl, B3, ns3, a3, m3, S3, hns3, ha3, hm3, hm33⟩
      have ml : many.natAbs.log2 < 9000 := by
        have := PySem.Flt.log2_lt_of (k := 20) (by decide) (show many.natAbs < 2 ^ 20 by omega)
        omega
      -- if stream[1] > 0: ..
      refine ⟨fun σ H' => σ = [some (.ref st), some (.int many), none, none] ∧ But st l H H' ∧ Good H' st l ((c + 1 : Nat) : Int),
        ⟨_, rfl, st, _, _, _, rfl, rfl, SqL.of S3.1, rfl, _, _, rfl, rfl, _, rfl, ?_⟩, ?_⟩
      · refine ite2 (fun _ => ?_) (fun _ => ⟨rfl, B3, ns3, a3, m3, S3, hns3, ha3, hm3, hm33⟩)
        refine ⟨_, rfl, st, _, _, _, rfl, rfl, SqL.of S3.1, rfl, .inl ⟨_, rfl, _, rfl, _, _, rfl, rfl, hm0, ?_⟩⟩
        refine ⟨_, rfl, st, _, _, _, rfl, rfl, SqL.of S3.1, rfl, _, rfl, _, _, rfl, rfl, ⟨hm0, ml⟩, _, rfl, st, _, 1, 1, rfl, rfl, S3.1, rfl, _, rfl, ?_⟩
        exact k _ _ (Int.emod_nonneg _ (by omega)) (Int.emod_lt_of_pos _ hm0) B3.st ⟨ns3, a3 / many, m3, S3.st rfl, hns3, Int.ediv_nonneg ha3 (by omega), hm3, hm33⟩
      · rintro _ H4 ⟨rfl, B4, ns4, a4, m4, S4, hns4, ha4, hm4, hm44⟩
        refine ⟨_, rfl, st, _, _, _, rfl, rfl, SqL.of S4.1, rfl, _, rfl, st, _, _, _, rfl, rfl, SqL.of S4.1, rfl, _, _, rfl, rfl, .inl ⟨by decide, by decide⟩, _, _, rfl, rfl, _, _, rfl, rfl, _, _, rfl, rfl, ⟨by decide, by decide, by omega⟩, _, _, rfl, rfl, (by show (0 : Int) < 2147483629; decide), ?_⟩
        generalize hx : (m4 + 104729 * ((c + 1 : Nat) : Int) + 17) ^ (5 : Int).toNat % 2147483629 = x
        have x0 : 0 ≤ x := by
          rw [← hx]
          exact Int.emod_nonneg _ (by decide)
        have x1 : x < 2147483629 := by
          rw [← hx]
          exact Int.emod_lt_of_pos _ (by decide)
        have cc : 40503 * ((c + 1 : Nat) : Int) * ((c + 1 : Nat) : Int) ≤ 40503 * 1000001 * 1000001 := Int.mul_le_mul (by omega) (by omega) (by omega) (by decide)
        have c0 : 0 ≤ 40503 * ((c + 1 : Nat) : Int) * ((c + 1 : Nat) : Int) := Int.mul_nonneg (by omega) (by omega)
        refine ⟨_, rfl, _, _, rfl, rfl, .inr ⟨by decide, by decide⟩, _, rfl, st, _, _, _, rfl, rfl, SqL.of S4.1, rfl, _, _, rfl, rfl, .inl ⟨by decide, by decide⟩, _, rfl, st, _, _, _, rfl, rfl, SqL.of S4.1, rfl, _, _, rfl, rfl, .inr ⟨by omega, by omega⟩,
          _, _, rfl, rfl, _, _, rfl, rfl, _, _, rfl, rfl, ⟨by decide, by decide, by omega⟩, _, _, rfl, rfl, (by show (0 : Int) < 1000000007; decide), _, rfl, _, _, rfl, rfl, hm0, ?_⟩
        exact k _ _ (Int.emod_nonneg _ (by omega)) (Int.emod_lt_of_pos _ hm0) B4 ⟨ns4, a4, m4, S4, hns4, ha4, hm4, hm44⟩
end
theorem at_int {α : Type} {xs : List α} {d : Int} (d0 : 0 ≤ d) (d1 : d < xs.length) : ∃ (i : Nat) (x : α), xs[i]? = some x ∧ atI xs d = some x := by
  obtain ⟨n, rfl⟩ := Int.eq_ofNat_of_zero_le d0
  have hlt : n < xs.length := by omega
  exact ⟨n, xs[n], List.getElem?_eq_getElem hlt, atI_nat (List.getElem?_eq_getElem hlt)⟩
theorem But.trans {st l : Addr} {H H1 H2 : Hp} (a : But st l H H1) (b : But st l H1 H2) : But st l H H2 := fun c o h n1 n2 => b c o (a c o h n1 n2) n1 n2
theorem But.same {st l : Addr} {H H1 : Hp} (a : Same H H1) : But st l H H1 := fun c o h _ _ => a c o h
theorem Strm.up {H H' : Hp} {st l : Addr} {c : Nat} (S : Strm H st l c) (e : Same H H') : Strm H' st l c := by
  obtain ⟨ns, a, m, ⟨h1, h2⟩, r⟩ := S.ex
  exact ⟨ns, a, m, ⟨e _ _ h1, e _ _ h2⟩, r⟩
theorem same_new {H : Hp} {p : Addr} {o : HO} (h : H p = none) : Same H (upd H p o) := fun a u e => by
  rw [upd_ne (ne_of_none e h)]
  exact e
theorem Strm.ne_new {H : Hp} {st l p : Addr} {c : Nat} (S : Strm H st l c) (h : H p = none) : p ≠ st ∧ p ≠ l := by
  obtain ⟨ns, a, m, ⟨h1, h2⟩, r⟩ := S.ex
  exact ⟨(ne_of_none h1 h).symm, (ne_of_none h2 h).symm⟩
theorem But.put {st l p : Addr} {H H' : Hp} {o : HO} (a : But st l H H') (h : H p = none) : But st l H (upd H' p o) := fun c u e n1 n2 => by
  rw [upd_ne (ne_of_none e h)]
  exact a c u e n1 n2
theorem Strm.put {H : Hp} {st l p : Addr} {c : Nat} {o : HO} (S : Strm H st l c) (n : p ≠ st ∧ p ≠ l) : Strm (upd H p o) st l c := by
  obtain ⟨ns, a, m, ⟨h1, h2⟩, r⟩ := S.ex
  exact ⟨ns, a, m, ⟨by rw [upd_ne n.1.symm]; exact h1, by rw [upd_ne n.2.symm]; exact h2⟩, r⟩
def spPickL : Sp := fun vs H Q _ => ∃ (st l : Addr) (c : Nat) (p : Addr) (xs : List V), vs = [.ref st, .ref p] ∧ Strm H st l c ∧ c ≤ 1000000 ∧ H p = some (.lst xs) ∧ p ≠ st ∧ p ≠ l ∧ 0 < xs.length ∧ xs.length < 1000 ∧
  ∀ (i : Nat) (x : V) (H' : Hp), xs[i]? = some x → But st l H H' → Strm H' st l (c + 1) → Q x H'
def spPickS : Sp := fun vs H Q _ => ∃ (st l : Addr) (c : Nat) (z : Str), vs = [.ref st, .str z] ∧ Strm H st l c ∧ c ≤ 1000000 ∧ 0 < z.length ∧ z.length < 1000 ∧
  ∀ (ch : Nat) (H' : Hp), ch ∈ z.cps.toList → But st l H H' → Strm H' st l (c + 1) → Q (.str ⟨#[ch]⟩) H'
def spPick : Sp := fun vs H Q E => spPickL vs H Q E ∨ spPickS vs H Q E
structure TG1 (K : PySem.W.Frag) (mg : Str → Option Value) (fD : Addr) (fdD : FuncData) : Prop where
  int : mg "int" = none
  len : mg "len" = none
  range : mg "range" = none
  list : mg "list" = none
  mD : mg "_law_draw" = some (.ref fD)
  kD : PySem.W.keepIn K (.ref fD) = true
  bD : L2.Binds K fdD ["_law_stream", "_law_many"] []
section
variable {P : Program} {w : World} {K : PySem.W.Frag} {mg : Str → Option Value} {base : Heap} {fD : Addr} {fdD : FuncData}
theorem scP : FnScope ["_law_stream", "_law_things"] ["_law_stream", "_law_things"] (defScope sPick) := ⟨rfl, rfl, rfl, by decide +kernel, rfl, by decide +kernel, by decide +kernel⟩
theorem ok_pick {f : Addr} {fd : FuncData} (F : Fun K "_law_pick" "_law_pick" sPick f fd) (T : TG1 K mg fD fdD) (GD : FnOk P w K mg base CX0 1 fD fdD ["_law_stream", "_law_many"] spDraw) : FnOk P w K mg base CX0 2 f fd ["_law_stream", "_law_things"] spPick := by
  refine F.ok scP (fun vs H Q E h => ?_) (fun cdv A outer s H vs Q E hr h => ?_)
  · rcases h with ⟨st, l, c, p, xs, rfl, _⟩ | ⟨st, l, c, z, rfl, _⟩
    · rfl
    · rfl
  · rcases h with ⟨st, l, c, p, xs, rfl, S, hc, hp, n1, n2, h0, h1, k⟩ | ⟨st, l, c, z, rfl, S, hc, h0, h1, k⟩
    · refine ⟨_, pss_one (ps_ret (pe_ix ix_list (pv 1) (pe_call GD hr rfl T.mD T.kD T.bD .nil pass0 (pa_cons (pv 0) (pa_cons (pe_callB call_len_seq (by rfl) T.len PySem.boot_len (pa_cons (pv 1) pa_nil)) pa_nil))) (fun _ _ => rfl))), ?_⟩
      refine ⟨_, rfl, _, rfl, _, rfl, p, xs, rfl, .inl (SqL.of hp), st, l, c, _, rfl, S, hc, by omega, by omega, fun d H' d0 d1 B S' => ?_⟩
      have hp' := B _ _ hp n1 n2
      obtain ⟨i, x, hx, ha⟩ := at_int d0 d1
      exact ⟨p, xs, d, x, rfl, rfl, SqL.of hp', ha, k _ _ _ hx B S'⟩
    · refine ⟨_, pss_one (ps_ret (pe_ix ix_str (pv 1) (pe_call GD hr rfl T.mD T.kD T.bD .nil pass0 (pa_cons (pv 0) (pa_cons (pe_callB call_len_str (by rfl) T.len PySem.boot_len (pa_cons (pv 1) pa_nil)) pa_nil))) (fun _ _ => rfl))), ?_⟩
      have hzs : z.length ≤ sizeLine := Nat.le_of_lt (Nat.lt_of_lt_of_le h1 (by decide))
      refine ⟨_, rfl, _, rfl, _, rfl, z, rfl, hzs, st, l, c, _, rfl, S, hc, by omega, by omega, fun d H' d0 d1 B S' => ?_⟩
      have el : z.cps.toList.length = z.length := by simp [Str.length]
      obtain ⟨i, x, hx, ha⟩ := at_int (xs := z.cps.toList) d0 (by rw [el]; exact d1)
      exact ⟨z, d, x, rfl, rfl, hzs, ha, k _ _ (List.mem_of_getElem? hx) B S'⟩
end
end T6

set_option maxHeartbeats 3900000
namespace RP
open PySem PySem.Spec PyProof.Rows L2
def kD : Key → PyData
  | .inl i => .int i
  | .inr x => .str x
mutual
/-- what the value v is, read off the tracked heap -/
inductive Dq (K : PySem.W.Frag) (H : Hp) : V → PyData → Prop
  | non : Dq K H .non .none
  | bl (b : Bool) : Dq K H (.bl b) (.bool b)
  | int (i : Int) : Dq K H (.int i) (.int i)
  | str (x : Str) : Dq K H (.str x) (.str x)
  | lst {a : Addr} {xs : List V} {ds : List PyData} : H a = some (.lst xs) → DqAll K H xs ds → Dq K H (.ref a) (.list ds)
  | tup {a : Addr} {xs : List V} {ds : List PyData} : H a = some (.tup xs) → DqAll K H xs ds → Dq K H (.ref a) (.tuple ds)
  | dct {a : Addr} {kvs : List (Key × V)} {ds : List PyData} : H a = some (.dK kvs) → DqAll K H (kvs.map (·.2)) ds → Dq K H (.ref a) (.dict ((kvs.map fun p => kD p.1).zip ds))
inductive DqAll (K : PySem.W.Frag) (H : Hp) : List V → List PyData → Prop
  | nil : DqAll K H [] []
  | cons {v : V} {vs : List V} {d : PyData} {ds : List PyData} : Dq K H v d → DqAll K H vs ds → DqAll K H (v :: vs) (d :: ds)
end
theorem DqAll.length {K : PySem.W.Frag} {H : Hp} : ∀ {vs : List V} {ds : List PyData}, DqAll K H vs ds → vs.length = ds.length
  | _, _, .nil => rfl
  | _, _, .cons _ t => congrArg Nat.succ t.length
section
variable {X : Cx} {pins : List (Addr × Obj)} {σ : L2.St} {H : Hp} {s : Shared}
theorem not_sys (I : Inv X pins σ H s) (SM : (X.base.get? sysModules).isSome = true) {a : Addr} {o : HO} (h : H a = some o) : a ≠ sysModules := fun z => by
  obtain ⟨u, hu⟩ := Option.isSome_iff_exists.mp SM
  have := (I.bs _ _ hu).2
  rw [← z, h] at this
  cases this
theorem keys_read {P : Program} {w : World} {h : Heap} : ∀ {es : List DictEntry} {kvs : List (Key × V)} {vs : List (Key × Value)}, Pairs (mixKind P w) es vs → KV kvs vs → ReadsAll h (es.map (·.key)) (kvs.map fun p => kD p.1) []
  | _, _, _, .nil, .nil => .nil
  | _, _, _, .cons (e := e) (kv := kv) k1 _ t, .cons r q => by
    have ih := keys_read (h := h) t q
    obtain ⟨e1, _⟩ := r
    rw [List.map_cons, List.map_cons, e1]
    have k1' : keyIs kv.1 e.key = true := k1
    rcases keyIs_shape k1' with ⟨i, t, hk, hv⟩ | ⟨x, t, hk, hv⟩
    · rw [hk, hv]
      exact .cons (.int i t) ih
    · rw [hk, hv]
      exact .cons (.str x t) ih
theorem vals_read {P : Program} {w : World} : ∀ {es : List DictEntry} {kvs : List (Key × V)} {vs : List (Key × Value)}, Pairs (mixKind P w) es vs → KV kvs vs → Vals (kvs.map (·.2)) (es.map (·.val))
  | _, _, _, .nil, .nil => .nil
  | _, _, _, .cons _ k2 t, .cons r q => by
    have ih := vals_read t q
    obtain ⟨_, e2⟩ := r
    rw [List.map_cons, List.map_cons, k2]
    exact .cons e2 ih
mutual
theorem Dq.reads (I : Inv X pins σ H s) (SM : (X.base.get? sysModules).isSome = true) : ∀ {v : V} {d : PyData} {u : Value}, Dq X.K H v d → RelV v u → ∃ as, Reads s.heap u d as ∧ sysModules ∉ as
  | _, _, _, .non, r => by
    cases r
    exact ⟨_, Reads.none, by simp⟩
  | _, _, _, .bl b, r => by
    cases r
    exact ⟨_, Reads.bool b, by simp⟩
  | _, _, _, .int i, r => by
    obtain ⟨t, rfl⟩ := r
    exact ⟨_, Reads.int i t, by simp⟩
  | _, _, _, .str x, r => by
    obtain ⟨t, rfl⟩ := r
    exact ⟨_, Reads.str x t, by simp⟩
  | _, _, _, .lst (a := a) h ha, r => by
    cases r
    obtain ⟨_, its, n, rv, ho⟩ := (show ObjOk X.prog X.w H s.heap a (.lst _) from I.hok a _ h)
    obtain ⟨as, hr, hn⟩ := DqAll.reads I SM ha rv
    exact ⟨_, Reads.list ho rfl rfl hr, by
      intro z
      rcases List.mem_cons.mp z with z | z
      · exact not_sys I SM h z.symm
      · exact hn z⟩
  | _, _, _, .tup (a := a) h ha, r => by
    cases r
    obtain ⟨_, its, rv, o, ho, hc, n, hd⟩ := (show ObjOk X.prog X.w H s.heap a (.tup _) from I.hok a _ h)
    obtain ⟨as, hr, hn⟩ := DqAll.reads I SM ha rv
    exact ⟨_, Reads.tuple ho hc hd hr, hn⟩
  | _, _, _, .dct (a := a) (kvs := kvs) (ds := ds) h ha, r => by
    cases r
    obtain ⟨_, _, vs, rel, o, es, ep, ho, ex, hd, _, pr, _⟩ := (show ObjOk X.prog X.w H s.heap a (.dK kvs) from I.hok a _ h)
    obtain ⟨bs, hr, hn⟩ := DqAll.reads I SM ha (vals_read pr rel)
    have le : (kvs.map fun p => kD p.1).length = ds.length := by
      have := ha.length
      rw [List.length_map] at this ⊢
      exact this
    refine ⟨_, Reads.dict ho ex.1 hd (as := []) (bs := bs) ?_ ?_, ?_⟩
    · rw [List.map_fst_zip (by omega)]
      exact keys_read pr rel
    · rw [List.map_snd_zip (by omega)]
      exact hr
    · intro z
      rcases List.mem_cons.mp z with z | z
      · exact not_sys I SM h z.symm
      · exact hn z
theorem DqAll.reads (I : Inv X pins σ H s) (SM : (X.base.get? sysModules).isSome = true) : ∀ {vs : List V} {ds : List PyData} {us : List Value}, DqAll X.K H vs ds → Vals vs us → ∃ as, ReadsAll s.heap us ds as ∧ sysModules ∉ as
  | _, _, _, .nil, r => by
    cases r
    exact ⟨_, ReadsAll.nil, by simp⟩
  | _, _, _, .cons h t, r => by
    cases r with
    | cons r1 r2 =>
      obtain ⟨as, q1, n1⟩ := Dq.reads I SM h r1
      obtain ⟨bs, q2, n2⟩ := DqAll.reads I SM t r2
      exact ⟨_, ReadsAll.cons q1 q2, by
        intro z
        rcases List.mem_append.mp z with z | z
        · exact n1 z
        · exact n2 z⟩
end
def rRep (K : PySem.W.Frag) : List V → Hp → VK → Prop := fun xs H Q => ∃ (v : V) (d : PyData), xs = [v] ∧ Dq K H v d ∧ d.showable = true ∧ d.depth ≤ 20 ∧ d.shown.length ≤ sizeLine ∧ Q (.str d.shown) H
theorem call_repr (SM : (X.base.get? sysModules).isSome = true) (hg : X.A.guards = some []) (hu : X.A.units + 64 < cLine) : CallR X (.builtin "repr") (rRep X.K) := by
  intro pins s σ H xs us Q I r h
  obtain ⟨v, d, rfl, hd, sh, dp, sz, q⟩ := h
  cases r with
  | cons rx rr =>
    cases rr
    obtain ⟨as, hr, hn⟩ := hd.reads I SM rx
    have fin : ∀ h' u tk, (∀ b o, s.heap.get? b = some o → h'.get? b = some o) → EP X pins σ Q (.str d.shown u) { s with heap := h', toks := tk } := fun h' u tk k => ⟨.str d.shown, H, I.kept (t' := tk) k, ⟨u, rfl⟩, q⟩
    cases hd with
    | non =>
      cases rx
      exact PySem.P.repr_of_none (fin s.heap _ _ fun _ _ e => e)
    | bl b =>
      cases rx
      exact PySem.P.repr_of_bool (fin s.heap _ _ fun _ _ e => e)
    | int i =>
      obtain ⟨t, rfl⟩ := rx
      exact PySem.P.repr_of_int (of_decide_eq_true sh) (fin s.heap _ _ fun _ _ e => e)
    | str x =>
      obtain ⟨t, rfl⟩ := rx
      exact PySem.P.repr_of_str (fin s.heap _ _ fun _ _ e => e) sz
    | lst h1 h2 =>
      cases rx
      exact PySem.repr_of_reads' hr sh (fun _ => hn) hg (by omega) (fun _ _ e => e) fin sz
    | tup h1 h2 =>
      cases rx
      exact PySem.repr_of_reads' hr sh (fun _ => hn) hg (by omega) (fun _ _ e => e) fin sz
    | dct h1 h2 =>
      cases rx
      exact PySem.repr_of_reads' hr sh (fun _ => hn) hg (by omega) (fun _ _ e => e) fin sz
end
structure FnG (P : Program) (w : World) (K : PySem.W.Frag) (mg : Str → Option Value) (base : Heap) (CX : CXT) (k : Nat) (f : Addr) (fd : FuncData) (ps : List Str) (sp : Sp) : Prop where
  len : ∀ vs H Q E, sp vs H Q E → vs.length = ps.length
  run : ∀ (A : Around) (outer : List Env) (s : Shared) (H : Hp) (args : Args) (us : List Value) (vs : List V) (Q : VK) (E : XK), A.guards = some [] → Room k A → Env0 P w K mg base A outer s H → BindsTo s fd args (ps.zip us) → Vals vs us → sp vs H Q E →
    codeAny (model P w) A (.call (.ref f) args) (CR CX outer P w H s Q E) s
theorem okG {P : Program} {w : World} {K : PySem.W.Frag} {mg : Str → Option Value} {base : Heap} {x qual : Str} {st : Stmt} {f : Addr} {fd : FuncData} {N ps : List Str} {k : Nat} {sp : Sp} (F : Fun K x qual st f fd) (S : FnScope N ps (defScope st))
    (len : ∀ vs H Q E, sp vs H Q E → vs.length = ps.length)
    (body : ∀ (cdv : Value) (A : Around) (outer : List Env) (s : Shared) (H : Hp) (vs : List V) (Q : VK) (E : XK), A.guards = some [] → Room k (A.deeper (envOfC qual (defScope st) s.heap.objs.size f cdv)) → sp vs H Q E →
      ∃ t, PSs (cxOf CX0 P w K mg base N qual (defScope st) f cdv A outer s H E).nox (defBody st) t ∧ t { nx := fun _ H' => Q .non H', rt := Q } (start N vs) H) : FnG P w K mg base CX0 (k + 1) f fd ps sp := by
  obtain ⟨oc, od, kV, doc, pm, an, cdv, ct, osl, rfl, lk, hcd⟩ := F.ex
  refine ⟨len, fun A outer s H args us vs Q E hg hr e0 hb rv q => ?_⟩
  refine LamX.run_ofS lk hcd S hr e0 hb rv (len _ _ _ _ q) fun hr' => ?_
  obtain ⟨t, h1, h2⟩ := body cdv A outer s H vs Q E hg hr' q
  exact ⟨t, h1.nox, h2⟩
section
variable {X : Cx} {CX : CXT} {k : Nat} {f : Addr} {fd : FuncData} {ps : List Str} {sp : Sp} {E : XK} {x : Str} {p pos : Pos} {e : Expr} {es : List Expr} {t : TA}
theorem pe_callG (F : FnG X.prog X.w X.K X.mg X.base CX k f fd ps sp) (hG : X.A.guards = some []) (hr : Room k X.A) (hg : Gl X x) (hm : X.mg x = some (.ref f)) (hk : PySem.W.keepIn X.K (.ref f) = true) (hb : Binds X.K fd ps []) (hx : Passes CX X E)
    (ha : PA X (e :: es) t) (hdb : (x == ("__debug__" : Str)) = false := by decide) (he : starEach (e :: es) X.env = (false, eval e X.env) :: starEach es X.env := by rfl) (hpl : (backTo pos (starEach es X.env)).any (·.1) = false := by rfl) :
    PE X (.Call (.Name x p) (e :: es) [] pos) (tCall sp [] E t) := by
  refine ⟨fun pins s σ H Q I h => ?_⟩
  refine wpAny_Call_Name_kw (ld_glob I hg hm ?_ hdb)
  refine PySem.W.callWith_K (h₀ := X.base) I.ok.mod.kin hk (thn (ha.run pos pins s σ H _ I h) fun us s1 ⟨vs, H1, I1, r, q⟩ => ⟨I1.kIn, ?_⟩) he hpl
  have q : sp vs H1 Q E := by
    have z : sp (vs ++ []) H1 Q E := q
    rw [List.append_nil] at z
    exact z
  have hl : us.length = ps.length := r.length.symm.trans (F.len _ _ _ _ q)
  have hbt := hb s1 us I1.kIn (by rw [List.append_nil]; exact hl)
  rw [List.append_nil] at hbt
  refine wpAny_call (codeAny_mono (F.run X.A X.stack s1 H1 ⟨us, []⟩ us vs Q E hG hr I1.env0 hbt r q) fun r s' hq => ?_)
  cases r with
  | error e => exact hx pins σ H1 s1 e s' I1 hq
  | ok fl =>
    cases fl with
    | ret u => exact I1.after hq
    | next => exact False.elim hq
    | brk => exact False.elim hq
    | cont => exact False.elim hq
end
end RP

set_option maxHeartbeats 3900000
namespace EG
open PySem PySem.Spec PyProof.Rows L2 LamX RP
section
variable {P : Program} {w : World} {K : PySem.W.Frag} {tabs : List Addr} {a : Addr} {ob : Obj} {xs : List V}
def track (K : PySem.W.Frag) (tabs : List Addr) (a : Addr) (ob : Obj) (xs : List V) : Hp := fun b =>
  if b ∈ tabs then some (.tbl #[]) else if b = a ∧ K.lookup a = none then some (.frz ob (.lst xs)) else none
theorem track_cases (b : Addr) : (b ∈ tabs ∧ track K tabs a ob xs b = some (.tbl #[])) ∨ (b ∉ tabs ∧ b = a ∧ K.lookup a = none ∧ track K tabs a ob xs b = some (.frz ob (.lst xs))) ∨
    (b ∉ tabs ∧ (b = a → K.lookup a ≠ none) ∧ track K tabs a ob xs b = none) := by
  unfold track
  by_cases h1 : b ∈ tabs
  · exact .inl ⟨h1, if_pos h1⟩
  · by_cases h2 : b = a ∧ K.lookup a = none
    · exact .inr (.inl ⟨h1, h2.1, h2.2, by rw [if_neg h1, if_pos h2]⟩)
    · exact .inr (.inr ⟨h1, fun e z => h2 ⟨e, z⟩, by rw [if_neg h1, if_neg h2]⟩)
end
theorem end_call {P : Program} {w : World} {K : PySem.W.Frag} {mg mb : Str → Option Value} {k : Nat} {fa a : Addr} {cs : List (Addr × Addr)} {fd : FuncData} {x : Str} {sp : Sp} {s : Shared} {us : List Value} {ns : List Int}
    (kin : K.In s.heap) (gn : s.heap.Ns mainGlobals mg) (bn : s.heap.Ns builtinsNs mb) (bb : ∀ y : Str, y ≠ "__name__" → mb y = bootBuiltins y) (nl : s.heap.NoLimit) (ng : s.gens = #[])
    (tE : ∀ p ∈ cs, s.heap.get? p.2 = some { cls := .none, data := .fields #[] }) (tK : ∀ p ∈ cs, K.lookup p.2 = none) (tC : ∀ p ∈ cs, PySem.W.CodeHd s.heap p.1 p.2)
    (sys : ∃ (o : Obj) (es : Array DictEntry) (n : Nat), s.heap.get? sysModules = some o ∧ o.data = .dict es n)
    (mod : ∃ (m : Addr) (o : Obj), mg "__builtins__" = some (.ref m) ∧ m ≠ builtinsNs ∧ s.heap.get? m = some o ∧ o.cls = .type "module" ∧ o.dict = some builtinsNs ∧ o.data = .plain)
    (ia : s.heap.get? a = some { cls := .type "list", data := .seq us.toArray }) (ii : IntsAre us ns) (il : ns.length ≤ sizeLine) (room : Room k callerA)
    (F : ∀ base : Heap, K.In base → base.Ns mainGlobals mg → (∀ p ∈ cs, TabB base mg p.1 p.2) → (base.get? sysModules).isSome = true → FnG P w K mg base CX0 k fa fd [x] sp) (hb : ∀ (t : Shared) (u : Value), BindsTo t fd ⟨[u], []⟩ [(x, u)])
    (hsp : ∀ H : Hp, (∀ p ∈ cs, H p.2 = some (.tbl #[])) → SqL K H a (ns.map V.int) → sp [.ref a] H (fun v _ => v = .bl true) fun _ _ _ => False) :
    codeAny (model P w) callerA (.call (.ref fa) ⟨[.ref a], []⟩) (fun r t => r = .ok (.ret (.bool true)) ∧ OldK s.heap t.heap ∧ t.os = s.os ∧ AllBare t.gens) s := by
  have rv := vals_ints ii
  have tE' : ∀ b ∈ cs.map (·.2), s.heap.get? b = some { cls := .none, data := .fields #[] } := fun b hb => by
    obtain ⟨p, hp, rfl⟩ := List.mem_map.mp hb
    exact tE p hp
  generalize hob : ({ cls := .type "list", data := .seq us.toArray } : Obj) = ob at ia
  have na : a ∉ cs.map (·.2) := fun z => by
    have q := (tE' a z).symm.trans ia
    rw [← hob] at q
    cases q
  generalize hH : track K (cs.map (·.2)) a ob (ns.map V.int) = H
  have tc := fun b => track_cases (K := K) (tabs := cs.map (·.2)) (a := a) (ob := ob) (xs := ns.map V.int) b
  rw [hH] at tc
  -- what the heap holds is as tracked
  have ok : HOk P w H s.heap := fun b o e => by
    rcases tc b with ⟨h1, h2⟩ | ⟨h1, h2, h3, h4⟩ | ⟨_, _, h4⟩
    · rw [h2] at e
      cases e
      exact tE' b h1
    · rw [h4] at e
      cases e
      subst h2
      exact ⟨ia, by rw [List.length_map]; exact il, us, _, rv, ia.trans (congrArg some hob.symm)⟩
    · rw [h4] at e
      cases e
  -- other objects are not tracked
  have free : ∀ {b : Addr} {o : Obj}, s.heap.get? b = some o → o ≠ ob → o.data ≠ .fields #[] → H b = none := fun {b o} e d1 d2 => by
    rcases tc b with ⟨h1, _⟩ | ⟨_, h2, _, _⟩ | ⟨_, _, h4⟩
    · rw [tE' b h1] at e
      cases e
      exact (d2 rfl).elim
    · rw [h2, ia] at e
      exact (d1 (Option.some.inj e).symm).elim
    · exact h4
  have down : ∀ {b : Addr} {o : Obj}, s.heap.get? b = some o → o ≠ ob → o.data ≠ .fields #[] → (hidT s.heap H).get? b = some o := fun e d1 d2 => hidT_get e (free e d1 d2)
  have dict : ∀ {b : Addr} {m : Str → Option Value}, s.heap.Ns b m → (hidT s.heap H).Ns b m := fun {b m} ⟨o, es, ep, e, d, r⟩ =>
    ⟨o, es, ep, down e (fun z => by rw [z, ← hob] at d; cases d) (fun z => by rw [d] at z; cases z), d, r⟩
  have kB : K.In (hidT s.heap H) := fun b o e => hidT_get (kin b o e) (by
    rcases tc b with ⟨h1, _⟩ | ⟨_, h2, h3, _⟩ | ⟨_, _, h4⟩
    · obtain ⟨p, hp, rfl⟩ := List.mem_map.mp h1
      rw [tK p hp] at e
      cases e
    · rw [h2, h3] at e
      cases e
    · exact h4)
  have tabB : ∀ p ∈ cs, TabB (hidT s.heap H) mg p.1 p.2 := fun p hp => by
    obtain ⟨m, o, m1, m2, m3, m4, m5, m6⟩ := mod
    have dm : m ≠ mainGlobals := fun z => by
      obtain ⟨o', es, ep, e, d, _⟩ := gn
      rw [z, e] at m3
      cases m3
      rw [d] at m6
      cases m6
    have dp : m ≠ p.2 := fun z => by
      rw [z, tE p hp] at m3
      cases m3
      cases m6
    obtain ⟨oc, vs, file, tf, fl, tg, inF, tx, tt, c1, c2, c3, c4, cr⟩ := tC p hp
    have cne : oc ≠ ob := fun z => by
      rw [z, ← hob] at c3
      cases c3
    have cnf : oc.data ≠ .fields #[] := fun z => by
      rw [c3] at z
      cases z
      simp at c4
    have mne : o ≠ ob := fun z => by
      rw [z, ← hob] at m6
      cases m6
    have mnf : o.data ≠ .fields #[] := fun z => by
      rw [m6] at z
      cases z
    refine ⟨⟨oc, vs, file, tf, fl, tg, inF, tx, tt, down c1 cne cnf, c2, c3, c4, cr⟩, ⟨m, o, m1, m2, dm, dp, down m3 mne mnf, m4, m5, m6⟩, fun z => ?_⟩
    obtain ⟨o', es, ep, e, d, _⟩ := gn
    rw [z, tE p hp] at e
    cases e
    cases d
  have sysB : ((hidT s.heap H).get? sysModules).isSome = true := by
    obtain ⟨o, es, n, h1, h2⟩ := sys
    have q := down h1 (fun z => by rw [z, ← hob] at h2; cases h2) (fun z => by rw [h2] at z; cases z)
    rw [q]
    rfl
  have e0 : Env0 P w K mg (hidT s.heap H) callerA [] s H :=
    ⟨rfl, ⟨kB, dict gn, ⟨mb, dict bn, bb⟩, let ⟨mc, l1, l2⟩ := nl; ⟨mc, dict l1, l2⟩⟩, fun b o e => of_hidT e, Nat.le_of_eq (hidT_size _ _), trivial, fun b z => absurd (show b ∈ ([] : List Addr) from z) (by simp), ok, .of_eq ng⟩
  have seq : SqL K H a (ns.map V.int) := by
    rcases tc a with ⟨h1, _⟩ | ⟨_, _, _, h4⟩ | ⟨_, h3, _⟩
    · exact (na h1).elim
    · exact .inl (.inr ⟨ob, h4⟩)
    · cases q : K.lookup a with
      | none => exact (h3 rfl q).elim
      | some o =>
        have z := kin a o q
        rw [ia] at z
        cases z
        rw [← hob] at q
        exact .inr ⟨_, us.toArray, _, q, rfl, rfl, rfl, by rw [List.size_toArray, ii.length]; exact il, by simpa using rv⟩
  have tabs : ∀ p ∈ cs, H p.2 = some (.tbl #[]) := fun p hp => by
    have hm : p.2 ∈ cs.map (·.2) := List.mem_map.mpr ⟨p, hp, rfl⟩
    rcases tc p.2 with ⟨_, h2⟩ | ⟨h1, _⟩ | ⟨h1, _⟩
    · exact h2
    · exact (h1 hm).elim
    · exact (h1 hm).elim
  refine codeAny_mono ((F _ kB (dict gn) tabB sysB).run callerA [] s H ⟨[.ref a], []⟩ [.ref a] [.ref a] _ _ rfl room e0 (hb s (.ref a)) (.cons rfl .nil) (hsp H tabs seq)) fun r t h => ?_
  cases r with
  | error e => exact (show False from h).elim
  | ok fl =>
    cases fl with
    | next => exact False.elim h
    | brk => exact False.elim h
    | cont => exact False.elim h
    | ret u =>
      obtain ⟨v, H', os, bare, un, ok', r', q⟩ := h
      have q' : v = .bl true := q
      subst q'
      obtain rfl : u = Value.bool true := r'
      have old : ∀ b o, b ∉ cs.map (·.2) → s.heap.get? b = some o → t.heap.get? b = some o := fun b o nb e => by
        rcases tc b with ⟨h1, _⟩ | ⟨_, h2, h3, h4⟩ | ⟨_, _, h4⟩
        · exact (nb h1).elim
        · have z := un.frzs b _ _ h4
          obtain ⟨e2, _⟩ := ok' b _ z
          rw [h2, ia] at e
          cases e
          exact e2
        · exact un.keep b o e h4 (fun z => absurd (show b ∈ ([] : List Addr) from z) (by simp)) (by simp)
      have more : ∀ p ∈ cs, ∃ m : Array Value, t.heap.get? p.2 = some { cls := .none, data := .fields m } := fun p hp => by
        obtain ⟨m, z⟩ := un.tbls p.2 #[] (tabs p hp)
        exact ⟨_, ok' p.2 _ z⟩
      refine ⟨rfl, ⟨fun b o e => ?_, fun b o e => ?_⟩, os, bare⟩
      · by_cases z : b ∈ cs.map (·.2)
        · obtain ⟨p, hp, rfl⟩ := List.mem_map.mp z
          obtain ⟨m, hm⟩ := more p hp
          rw [tE p hp] at e
          cases e
          exact .inr (.inl ⟨((tC p hp).tab (tE p hp)).isCodeTable, rfl, #[], m, rfl, by rw [Array.empty_append]; exact hm⟩)
        · exact .inl (old b o z e)
      · by_cases z : b ∈ cs.map (·.2)
        · obtain ⟨p, hp, rfl⟩ := List.mem_map.mp z
          obtain ⟨m, hm⟩ := more p hp
          exact ⟨_, hm⟩
        · exact ⟨o, old b o z e⟩
theorem walkG {l : PySem.W.OpenLaw} {n k : Nat} {q : Program} {loose : List Str} {XP : (Str → Option Value) → Heap → Prop} {YP : World → Heap → Prop} {d : DefRec} {x : Str}
    (hn : l.most = some n) (hn2 : n ≤ sizeLine) (hdf : d.params.defaults = []) (room : Room k callerA)
    (F : ∀ (w : World) (mg : Str → Option Value) (fa : Addr) (h : Heap), YP w h → h.Ns mainGlobals mg → mg d.name = some (.ref fa) →
      ∃ (K : PySem.W.Frag) (cs : List (Addr × Addr)) (fd : FuncData) (sp : Sp), K.In h ∧ (∀ p ∈ cs, h.get? p.2 = some { cls := .none, data := .fields #[] }) ∧ (∀ p ∈ cs, K.lookup p.2 = none) ∧ (∀ p ∈ cs, PySem.W.CodeHd h p.1 p.2) ∧ (∃ (o : Obj) (es : Array DictEntry) (n : Nat), h.get? sysModules = some o ∧ o.data = .dict es n) ∧
        (∀ (s : Shared) (u : Value), BindsTo s fd ⟨[u], []⟩ [(x, u)]) ∧
        (∀ (H : Hp) (a : Addr) (ns : List Int), ns.length ≤ n → (∀ z ∈ ns, Builtin.Int.intBits z ≤ 1048576) → (∀ p ∈ cs, H p.2 = some (.tbl #[])) → SqL K H a (ns.map V.int) → sp [.ref a] H (fun v _ => v = .bl true) fun _ _ _ => False) ∧
        ∀ base : Heap, K.In base → base.Ns mainGlobals mg → (∀ p ∈ cs, TabB base mg p.1 p.2) → (base.get? sysModules).isSome = true → FnG l.prog w K mg base CX0 k fa fd [x] sp) :
    PySem.W.WalkO q loose XP YP l.row.toRowW d [] (fun f vs => PySem.call f vs) := by
  refine Att.attach_callB hn hdf fun w s₀ s mg mb fa o pm cd doc a vs ns G Y ho hd hcd hmg hobj hints hlen hbits hg => ?_
  obtain ⟨K, cs, fd, sp, KX, h1, h2, h3, h4, hb, hsp, hF⟩ := F w mg fa _ Y G.T.g hmg
  exact end_call KX G.T.g G.T.b G.T.builtins G.T.nolimit hg h1 h2 h3 h4 G.T.bmain hobj hints (Nat.le_trans hlen hn2) room hF hb fun H => hsp H a ns hlen hbits
end EG

set_option maxHeartbeats 3900000
namespace CB
open PySem PySem.Spec PyProof.Rows L2
theorem same_mk {H : Hp} {p : Addr} {o : HO} (h : H p = none) : Same H (upd H p o) := fun a u e => by
  rw [upd_ne (ne_of_none e h)]
  exact e
theorem same_ch {H H' : Hp} {p : Addr} {o : HO} (a : Same H H') (h : H p = none) : Same H (upd H' p o) := fun c u e => by
  rw [upd_ne (ne_of_none e h)]
  exact a c u e
section
variable {J : It} {n : Nat} {G : Hp → Prop} {Y : Nat → Hp → V → Hp → Prop} {j : Nat} {te : TE} {σ : L2.St} {H1 : Hp} {D : Addr} {Qd : Hp → Prop}
theorem wipe1 (x : V) : wipe ((wipe σ [j]).set j (some x)) [j] = wipe σ [j] := by
  show ((σ.set j none).set j (some x)).set j none = σ.set j none
  simp
theorem lcW (w : Walk J n G Y) (ys : List V) (hn : ys.length = n) (hs : n < 1000000) (hD : H1 D = none) (hG : ∀ H', Same H1 H' → G H')
    (turn : ∀ (i : Nat) (x y : V) (H2 H3 : Hp), ys[i]? = some y → Same H1 H2 → Y i H2 x H3 → ∀ Q1 : VK, (∀ H4, Same H2 H4 → Q1 y H4) → te ((wipe σ [j]).set j (some x)) H3 Q1)
    (hd : ∀ H', Same H1 H' → H' D = some (.lst ys) → Qd H') :
    ∃ W : Nat → Nat → Hp → Prop, (∃ m, W 0 m (upd H1 D (.lst []))) ∧ ∀ i m H, W i m H →
      (J.stop i H ∧ Qd H) ∨ (J.go i H ∧ ∃ Nx : Hp → Prop, (∀ H', Nx H' → ∃ m', m' < m ∧ W (i + 1) m' H') ∧ ∀ x H', J.yld i H x H' → gName j x (wipe σ [j]) H' fun σ2 H2 => wipe σ2 [j] = wipe σ [j] ∧ tYes σ2 H2 fun b H3 =>
        if b = true then te σ2 H3 fun y H4 => ∃ acc, H4 D = some (.lst acc) ∧ acc.length < sizeLine ∧ Nx (upd H4 D (.lst (acc ++ [y]))) else Nx H3) := by
  subst hn
  refine lc_it w (fun i H' => Same H1 H' ∧ H' D = some (.lst (ys.take i))) ⟨same_mk hD, upd_same⟩ (fun i H' _ q => hG H' q.1) ?_ ?_
  · rintro i x H2 H3 hi ⟨s2, hd2⟩ y
    have hy : ys[i]? = some ys[i] := List.getElem?_eq_getElem hi
    refine ⟨wipe1 x, ?_⟩
    refine turn i x ys[i] H2 H3 hy s2 y _ fun H4 s4 => ⟨_, s4 _ _ hd2, ?_, same_ch (s2.trans s4) hD, ?_⟩
    · rw [List.length_take]
      exact Nat.lt_of_lt_of_le (show min i ys.length < 1000000 by omega) (by decide)
    · rw [upd_same, List.take_succ, hy]
      rfl
  · rintro H' ⟨s, h⟩
    rw [List.take_length] at h
    exact hd H' s h
end
section
variable {K : PySem.W.Frag} {α : Type} {j : Nat} {te : TE} {σ : L2.St} {H1 : Hp} {D a : Addr} {Qd : Hp → Prop}
theorem map_two {α : Type} {zs : List α} {u g : α → V} {i : Nat} {x y : V} (hx : (zs.map u)[i]? = some x) (hy : (zs.map g)[i]? = some y) : ∃ z ∈ zs, x = u z ∧ y = g z := by
  rw [List.getElem?_map] at hx hy
  match e : zs[i]? with
  | none =>
    rw [e] at hx
    cases hx
  | some z =>
    rw [e] at hx hy
    cases hx
    cases hy
    exact ⟨z, List.mem_of_getElem? e, rfl, rfl⟩
theorem lc_mapL (zs : List α) (u g : α → V) (hs : zs.length < 1000000) (hD : H1 D = none) (ha : SqL K H1 a (zs.map u))
    (turn : ∀ z ∈ zs, ∀ H2, Same H1 H2 → ∀ Q1 : VK, (∀ H4, Same H2 H4 → Q1 (g z) H4) → te ((wipe σ [j]).set j (some (u z))) H2 Q1) (hd : ∀ H', Same H1 H' → H' D = some (.lst (zs.map g)) → Qd H') :
    ∃ W : Nat → Nat → Hp → Prop, (∃ m, W 0 m (upd H1 D (.lst []))) ∧ ∀ i m H, W i m H →
      ((Itl K a).stop i H ∧ Qd H) ∨ ((Itl K a).go i H ∧ ∃ Nx : Hp → Prop, (∀ H', Nx H' → ∃ m', m' < m ∧ W (i + 1) m' H') ∧ ∀ x H', (Itl K a).yld i H x H' → gName j x (wipe σ [j]) H' fun σ2 H2 => wipe σ2 [j] = wipe σ [j] ∧ tYes σ2 H2 fun b H3 =>
        if b = true then te σ2 H3 fun y H4 => ∃ acc, H4 D = some (.lst acc) ∧ acc.length < sizeLine ∧ Nx (upd H4 D (.lst (acc ++ [y]))) else Nx H3) := by
  refine lcW (walk_list (K := K) (a := a) (xs := zs.map u)) (zs.map g) (by rw [List.length_map, List.length_map]) (by rw [List.length_map]; exact hs) hD (fun H' s => s.seq ha) ?_ hd
  rintro i x y H2 H3 hy s ⟨rfl, hx⟩ Q1 k
  obtain ⟨z, hz, rfl, rfl⟩ := map_two hx hy
  exact turn z hz _ s Q1 k
theorem sameT {H H' : Hp} {xs : List V} (e : Same H H') (h : SqT K H a xs) : SqT K H' a xs := by
  rcases h with (h | ⟨o, h⟩) | h
  · exact .inl (.inl (e _ _ h))
  · exact .inl (.inr ⟨o, e _ _ h⟩)
  · exact .inr h
theorem lc_mapT (zs : List α) (u g : α → V) (hs : zs.length < 1000000) (hD : H1 D = none) (ha : SqT K H1 a (zs.map u))
    (turn : ∀ z ∈ zs, ∀ H2, Same H1 H2 → ∀ Q1 : VK, (∀ H4, Same H2 H4 → Q1 (g z) H4) → te ((wipe σ [j]).set j (some (u z))) H2 Q1) (hd : ∀ H', Same H1 H' → H' D = some (.lst (zs.map g)) → Qd H') :
    ∃ W : Nat → Nat → Hp → Prop, (∃ m, W 0 m (upd H1 D (.lst []))) ∧ ∀ i m H, W i m H →
      ((Itt K a).stop i H ∧ Qd H) ∨ ((Itt K a).go i H ∧ ∃ Nx : Hp → Prop, (∀ H', Nx H' → ∃ m', m' < m ∧ W (i + 1) m' H') ∧ ∀ x H', (Itt K a).yld i H x H' → gName j x (wipe σ [j]) H' fun σ2 H2 => wipe σ2 [j] = wipe σ [j] ∧ tYes σ2 H2 fun b H3 =>
        if b = true then te σ2 H3 fun y H4 => ∃ acc, H4 D = some (.lst acc) ∧ acc.length < sizeLine ∧ Nx (upd H4 D (.lst (acc ++ [y]))) else Nx H3) := by
  refine lcW (walk_tup (K := K) (a := a) (xs := zs.map u)) (zs.map g) (by rw [List.length_map, List.length_map]) (by rw [List.length_map]; exact hs) hD (fun H' s => sameT s ha) ?_ hd
  rintro i x y H2 H3 hy s ⟨rfl, hx⟩ Q1 k
  obtain ⟨z, hz, rfl, rfl⟩ := map_two hx hy
  exact turn z hz _ s Q1 k
theorem lc_mapS (z : Str) (g : Nat → V) (hs : z.length < 1000000) (hD : H1 D = none)
    (turn : ∀ c ∈ z.cps.toList, ∀ H2, Same H1 H2 → ∀ Q1 : VK, (∀ H4, Same H2 H4 → Q1 (g c) H4) → te ((wipe σ [j]).set j (some (.str ⟨#[c]⟩))) H2 Q1) (hd : ∀ H', Same H1 H' → H' D = some (.lst (z.cps.toList.map g)) → Qd H') :
    ∃ W : Nat → Nat → Hp → Prop, (∃ m, W 0 m (upd H1 D (.lst []))) ∧ ∀ i m H, W i m H →
      ((Its z).stop i H ∧ Qd H) ∨ ((Its z).go i H ∧ ∃ Nx : Hp → Prop, (∀ H', Nx H' → ∃ m', m' < m ∧ W (i + 1) m' H') ∧ ∀ x H', (Its z).yld i H x H' → gName j x (wipe σ [j]) H' fun σ2 H2 => wipe σ2 [j] = wipe σ [j] ∧ tYes σ2 H2 fun b H3 =>
        if b = true then te σ2 H3 fun y H4 => ∃ acc, H4 D = some (.lst acc) ∧ acc.length < sizeLine ∧ Nx (upd H4 D (.lst (acc ++ [y]))) else Nx H3) := by
  refine lcW (walk_str (z := z)) (z.cps.toList.map g) (by rw [List.length_map, Array.length_toList]) hs hD (fun _ _ => trivial) ?_ hd
  rintro i x y H2 H3 hy s ⟨rfl, c, hc, rfl⟩ Q1 k
  rw [List.getElem?_map, Array.getElem?_toList, hc] at hy
  cases hy
  exact turn c (by rw [Array.mem_toList_iff]; exact Array.mem_of_getElem? hc) _ s Q1 k
theorem all_of {H : Hp} {Q : VK} (zs : List α) (f : α → Bool) (h : H D = some (.lst (zs.map fun z => .bl (f z)))) (q : Q (.bl (zs.all f)) H) : rAll K [.ref D] H Q :=
  ⟨D, zs.map f, rfl, SqL.of (by rw [h, List.map_map]; rfl), by rw [List.all_map]; exact q⟩
end
section
variable {X : Cx} {o e : Expr} {es : List Expr} {to : TE} {t : TA} {name : Str} {apos cpos : Pos} {T id : String} {r : V → List V → Hp → VK → Prop}
theorem pe_bmK (K0 : PySem.W.Frag) (hK : X.K = K0) (pa : PlainAttrs T) (slot : Slot T name id) (hty : typeOf (.builtin id) = pure (.type "method_descriptor")) (hm : MtR X id r) (ho : PE X o to) (ha : PA X (e :: es) t)
    (hb : attributeBase o name X.env (eval o X.env) = eval o X.env := by rfl)
    (hf : ((backTo cpos (starEach (e :: es) X.env)).all (fun x => !x.1) && (backToKw cpos (keywordEach [] X.env)).all (fun x => x.1.isSome) && decide ((e :: es).length + ([] : List Keyword).length + (if ([] : List Keyword).isEmpty then 0 else 1) < 30)) = true := by rfl)
    (hl : (apos.endLine == cpos.line) = true := by rfl) (hs : starEach (e :: es) X.env = (false, eval e X.env) :: starEach es X.env := by rfl) (hp : (backTo cpos (starEach es X.env)).any (·.1) = false := by rfl) :
    PE X (.Call (.Attribute o name apos) (e :: es) [] cpos) (tBM K0 T r to t) := by
  subst hK
  exact pe_bm pa slot hty hm ho ha hb hf hl hs hp
end
section
variable {X : Cx} {K0 : PySem.W.Frag}
theorem pg_tupK {es : List Expr} {k : Nat} {t : TGs} {n : Nat} {pos : Pos} (hK : X.K = K0) (hc : X.calm = true) (h : PGs X es t) (hn : (assignEach es X.env).length = n := by rfl) (hs : (assignEach es X.env).findIdx? (·.1) = none := by rfl) : PG X (.Tuple es k pos) (gTup K0 n t) := by
  subst hK
  exact pg_tup hc h hn hs
theorem ix_listK (hK : X.K = K0) : IxR X (rIxL K0) := by
  subst hK
  exact ix_list
theorem ix_tupK (hK : X.K = K0) : IxR X (rIxT K0) := by
  subst hK
  exact ix_tup
end
def RowAt (H : Hp) (v : V) (xs : List V) : Prop := ∃ a, v = .ref a ∧ (H a = some (.tup xs) ∨ H a = some (.lst xs))
theorem RowAt.up {H H' : Hp} {v : V} {xs : List V} (h : RowAt H v xs) (s : Same H H') : RowAt H' v xs := by
  obtain ⟨a, e, h | h⟩ := h
  · exact ⟨a, e, .inl (s _ _ h)⟩
  · exact ⟨a, e, .inr (s _ _ h)⟩
def rIxRow : R2 := fun x y H Q => ∃ xs i v, RowAt H x xs ∧ y = .int i ∧ atI xs i = some v ∧ Q v H
def rLenRow : List V → Hp → VK → Prop := fun vs H Q => ∃ x xs, vs = [x] ∧ RowAt H x xs ∧ Q (.int (xs.length : Int)) H
def LT (H : Hp) (v : V) (b : Bool) : Prop := (b = true ∧ ∃ xs, RowAt H v xs) ∨ (b = false ∧ (v = .non ∨ (∃ z, v = .str z) ∨ (∃ i, v = .int i) ∨ ∃ c, v = .bl c))
def rLT : List V → Hp → VK → Prop := fun vs H Q => ∃ v tp b, vs = [v, .ref tp] ∧ H tp = some (.tup [.ty "list", .ty "tuple"]) ∧ LT H v b ∧ Q (.bl b) H
def rTupRow : List V → Hp → VK → Prop := fun vs H Q => ∃ v xs, vs = [v] ∧ RowAt H v xs ∧ ∀ a H', Same H H' → H' a = some (.tup xs) → Q (.ref a) H'
section
variable {X : Cx}
theorem ix_row : IxR X rIxRow := by
  intro value slice pins s σ H x y v u Q I rx ry h hs
  obtain ⟨xs, i, w, ⟨a, rfl, h1 | h1⟩, rfl, ha, q⟩ := h
  · exact ix_tup (X := X) value slice pins s σ H _ _ v u Q I rx ry ⟨a, xs, i, w, rfl, rfl, SqT.of h1, ha, q⟩ hs
  · exact ix_list (X := X) value slice pins s σ H _ _ v u Q I rx ry ⟨a, xs, i, w, rfl, rfl, SqL.of h1, ha, q⟩ hs
theorem call_len_row : CallR X (.builtin "len") rLenRow := by
  intro pins s σ H xs us Q I r h
  obtain ⟨x, ys, rfl, ⟨a, rfl, h1 | h1⟩, q⟩ := h
  · exact call_len_seq (X := X) pins s σ H _ us Q I r ⟨a, ys, rfl, .inr (SqT.of h1), q⟩
  · exact call_len_seq (X := X) pins s σ H _ us Q I r ⟨a, ys, rfl, .inl (SqL.of h1), q⟩
theorem kitLT {K : PySem.W.Frag} {n : String} {b c : Bool} (h1 : kitB n "list" = some b) (h2 : kitB n "tuple" = some c) : PySem.W.kitAny K (.type n) [.type "list", .type "tuple"] = some (b || c) :=
  kitAny_cons (kit_ty h1) (fun e => by
    subst e
    exact kitAny_cons (kit_ty h2) (fun e2 => by
      subst e2
      exact kitAny_nil) (fun e2 => by
      subst e2
      rfl)) (fun e => by
    subst e
    rfl)
theorem isi_LT : CallR X (.builtin "isinstance") rLT := by
  intro pins s σ H xs us Q I r h
  obtain ⟨v, tp, b, rfl, ht, hl, q⟩ := h
  have go : ∀ (n : String) (c : Bool), TyX X.K H v (.type n) → PySem.W.kitAny X.K (.type n) [.type "list", .type "tuple"] = some c → Q (.bl c) H → wpAny (model X.prog X.w) X.A (call (.builtin "isinstance") us) (EP X pins σ Q) X.xe s := fun n c t k q =>
    call_isiT (X := X) pins s σ H _ us Q I r ⟨v, tp, _, .type n, [.type "list", .type "tuple"], c, rfl, ht, .cons (.ty "list") (.cons (.ty "tuple") .nil), t, k, q⟩
  rcases hl with ⟨rfl, ys, a, rfl, h1 | h1⟩ | ⟨rfl, rfl | ⟨z, rfl⟩ | ⟨i, rfl⟩ | ⟨c, rfl⟩⟩
  · exact go "tuple" true (.base (.tup h1)) (kitLT (b := false) (c := true) (by decide +kernel) (by decide +kernel)) q
  · exact go "list" true (.base (.lst h1)) (kitLT (b := true) (c := false) (by decide +kernel) (by decide +kernel)) q
  · exact go "NoneType" false (.base .non) (kitLT (b := false) (c := false) (by decide +kernel) (by decide +kernel)) q
  · exact go "str" false (.base (.str z)) (kitLT (b := false) (c := false) (by decide +kernel) (by decide +kernel)) q
  · exact go "int" false (.base (.int i)) (kitLT (b := false) (c := false) (by decide +kernel) (by decide +kernel)) q
  · exact go "bool" false (.base (.bl c)) (kitLT (b := false) (c := false) (by decide +kernel) (by decide +kernel)) q
theorem call_tup_row : CallR X (.type "tuple") rTupRow := by
  intro pins s σ H xs us Q I r h
  obtain ⟨v, ys, rfl, ⟨a, rfl, h1 | h1⟩, q⟩ := h
  · exact call_tuple_of (X := X) pins s σ H _ us Q I r ⟨a, ys, rfl, .inr ⟨SqT.of h1, q a H (Same.refl H) h1⟩⟩
  · exact call_tuple_of (X := X) pins s σ H _ us Q I r ⟨a, ys, rfl, .inl ⟨SqL.of h1, fun l hl => q l _ (same_mk hl) upd_same⟩⟩
def iSeqV (K : PySem.W.Frag) (i : Nat) : TI := fun σ H R => ∃ a, σ[i]? = some (some (.ref a)) ∧ ((∃ xs, SqT K H a xs ∧ R (Itt K a) H) ∨ ∃ xs, SqL K H a xs ∧ R (Itl K a) H)
theorem pi_seqv {tg l : Expr} {i : Nat} (hl : PE X l (tVar i)) : PI X tg l (iSeqV X.K i) := by
  refine ⟨fun pins s σ H R I h => ?_⟩
  obtain ⟨a, ha, ⟨xs, q, r⟩ | ⟨xs, q, r⟩⟩ := h
  · exact (pi_tup hl).run pins s σ H R I ⟨_, ha, a, rfl, ⟨xs, q⟩, r⟩
  · exact (pi_list hl).run pins s σ H R I ⟨_, ha, a, rfl, ⟨xs, q⟩, r⟩
end
section
variable {K : PySem.W.Frag} {α : Type} {i j : Nat} {te : TE} {σ : L2.St} {H : Hp} {v : V} {Q : VK}
theorem lc_row (zs : List α) (u g : α → V) (hi : σ[i]? = some (some v)) (h : RowAt H v (zs.map u)) (hs : zs.length < 1000000)
    (turn : ∀ z ∈ zs, ∀ H2, Same H H2 → ∀ Q1 : VK, (∀ H4, Same H2 H4 → Q1 (g z) H4) → te ((wipe σ [j]).set j (some (u z))) H2 Q1) (hd : ∀ D H', Same H H' → H D = none → H' D = some (.lst (zs.map g)) → Q (.ref D) H') :
    tLc (iSeqV K i) (gName j) tYes te [j] σ H Q := by
  obtain ⟨a, rfl, h1 | h1⟩ := h
  · exact ⟨a, hi, .inl ⟨_, SqT.of h1, fun D hD => lc_mapT zs u g hs hD (SqT.of h1) turn fun H' s h2 => hd D H' s hD h2⟩⟩
  · exact ⟨a, hi, .inr ⟨_, SqL.of h1, fun D hD => lc_mapL zs u g hs hD (SqL.of h1) turn fun H' s h2 => hd D H' s hD h2⟩⟩
theorem all_row (zs : List α) (u : α → V) (f : α → Bool) (hi : σ[i]? = some (some v)) (h : RowAt H v (zs.map u)) (hs : zs.length < 1000000)
    (turn : ∀ z ∈ zs, ∀ H2, Same H H2 → ∀ Q1 : VK, (∀ H4, Same H2 H4 → Q1 (.bl (f z)) H4) → te ((wipe σ [j]).set j (some (u z))) H2 Q1) (hd : ∀ H', Same H H' → Q (.bl (zs.all f)) H') :
    tCB (rAll K) (tCons (tLc (iSeqV K i) (gName j) tYes te [j]) tNil) σ H Q := by
  show tLc (iSeqV K i) (gName j) tYes te [j] σ H fun v H1 => rAll K [v] H1 Q
  exact lc_row zs u (fun z => .bl (f z)) hi h hs turn fun D H' s _ hD => all_of zs f hD (hd H' s)
theorem set_row {y : Nat} {D0 : Ends} (zs : List α) (u g : α → V) (hi : σ[i]? = some (some v)) (h : RowAt H v (zs.map u)) (hs : zs.length < 1000000)
    (turn : ∀ z ∈ zs, ∀ H2, Same H H2 → ∀ Q1 : VK, (∀ H4, Same H2 H4 → Q1 (g z) H4) → te ((wipe σ [j]).set j (some (u z))) H2 Q1) (hd : ∀ D H', Same H H' → H D = none → H' D = some (.lst (zs.map g)) → D0.nx (σ.set y (some (.ref D))) H') :
    tAsg (tLc (iSeqV K i) (gName j) tYes te [j]) (gName y) D0 σ H := by
  show tLc (iSeqV K i) (gName j) tYes te [j] σ H fun x H1 => D0.nx (σ.set y (some x)) H1
  exact lc_row zs u g hi h hs turn hd
theorem iteY {c A B : Prop} [Decidable c] (h : c) (a : A) : if decide c = true then A else B := by
  rw [if_pos (decide_eq_true h)]
  exact a
theorem iteN {c A B : Prop} [Decidable c] (h : ¬ c) (b : B) : if decide c = true then A else B := by
  rw [if_neg (by rw [decide_eq_false h]; exact Bool.false_ne_true)]
  exact b
theorem cut_1 (xs : List V) : cutV xs (some 1) none = xs.drop 1 := by
  show (xs.drop (HT.sIx xs.length 0 (some ((1 : Nat) : Int)))).take (HT.sIx xs.length xs.length none - HT.sIx xs.length 0 (some ((1 : Nat) : Int))) = xs.drop 1
  rw [HT.sIx_nat, HT.sIx_none]
  by_cases h : 1 ≤ xs.length
  · rw [Nat.min_eq_left h, List.take_of_length_le (by rw [List.length_drop]; exact Nat.le_refl _)]
  · rw [List.drop_eq_nil_of_le (by omega), List.drop_eq_nil_of_le (by omega)]
    exact List.take_nil
end
section
variable {J : It} {n : Nat} {G : Hp → Prop} {fx fy : Nat → Option V} {i j : Nat} {te : TE} {σ : L2.St} {H1 : Hp} {D : Addr} {Qd : Hp → Prop} {K : PySem.W.Frag}
theorem wipe2 (hij : i ≠ j) (x y : V) : wipe (((wipe σ [i, j]).set i (some x)).set j (some y)) [i, j] = wipe σ [i, j] := by
  show (((((σ.set j none).set i none).set i (some x)).set j (some y)).set j none).set i none = (σ.set j none).set i none
  rw [List.set_set, List.set_set, List.set_comm _ _ hij, List.set_set, List.set_set]
theorem lcW2 (w : Walk J n G (YPair fx fy)) (hij : i ≠ j) (ys : List V) (hn : ys.length = n) (hs : n < 1000000) (hD : H1 D = none) (hG : ∀ H', Same H1 H' → G H')
    (turn : ∀ (m : Nat) (x x' y : V) (H2 : Hp), ys[m]? = some y → fx m = some x → fy m = some x' → Same H1 H2 → ∀ Q1 : VK, (∀ H4, Same H2 H4 → Q1 y H4) → te (((wipe σ [i, j]).set i (some x)).set j (some x')) H2 Q1)
    (hd : ∀ H', Same H1 H' → H' D = some (.lst ys) → Qd H') :
    ∃ W : Nat → Nat → Hp → Prop, (∃ m, W 0 m (upd H1 D (.lst []))) ∧ ∀ k m H, W k m H →
      (J.stop k H ∧ Qd H) ∨ (J.go k H ∧ ∃ Nx : Hp → Prop, (∀ H', Nx H' → ∃ m', m' < m ∧ W (k + 1) m' H') ∧ ∀ x H', J.yld k H x H' → gTup K 2 (gCons (gName i) (gCons (gName j) gNil)) x (wipe σ [i, j]) H' fun σ2 H2 => wipe σ2 [i, j] = wipe σ [i, j] ∧ tYes σ2 H2 fun b H3 =>
        if b = true then te σ2 H3 fun y H4 => ∃ acc, H4 D = some (.lst acc) ∧ acc.length < sizeLine ∧ Nx (upd H4 D (.lst (acc ++ [y]))) else Nx H3) := by
  subst hn
  refine lc_it w (fun i H' => Same H1 H' ∧ H' D = some (.lst (ys.take i))) ⟨same_mk hD, upd_same⟩ (fun i H' _ q => hG H' q.1) ?_ ?_
  · rintro m x H2 H3 hi ⟨s2, hd2⟩ ⟨T, x1, x2, rfl, hT, rfl, e1, e2⟩
    have hy : ys[m]? = some ys[m] := List.getElem?_eq_getElem hi
    refine ⟨T, _, rfl, SqT.of upd_same, rfl, x1, _, rfl, x2, _, rfl, rfl, wipe2 hij x1 x2, ?_⟩
    have s3 : Same H2 (upd H2 T (.tup [x1, x2])) := same_mk hT
    refine turn m x1 x2 ys[m] _ hy e1 e2 (s2.trans s3) _ fun H4 s4 => ⟨_, s4 _ _ (s3 _ _ hd2), ?_, same_ch ((s2.trans s3).trans s4) hD, ?_⟩
    · rw [List.length_take]
      exact Nat.lt_of_lt_of_le (show min m ys.length < 1000000 by omega) (by decide)
    · rw [upd_same, List.take_succ, hy]
      rfl
  · rintro H' ⟨s, h⟩
    rw [List.take_length] at h
    exact hd H' s h
end
section
variable {J : It} {n : Nat} {G : Hp → Prop} {Y : Nat → Hp → V → Hp → Prop} {j : Nat} {te : TE} {σ : L2.St} {H1 : Hp} {D : Addr} {Qd : Hp → Prop}
def TupS (H H' : Hp) : Prop := ∀ b xs, H b = some (.tup xs) → H' b = some (.tup xs)
theorem TupS.of {H H' : Hp} (s : Same H H') : TupS H H' := fun b xs h => s b _ h
end
section
variable {K : PySem.W.Frag} {i j : Nat} {te : TE} {σ : L2.St} {H : Hp} {v : V} {Q : VK}
end
end CB

set_option maxHeartbeats 3900000
namespace XW
open PySem PySem.Spec PyProof.Rows L2
open CB
structure ECl (K : PySem.W.Frag) (mg : Str → Option Value) (nm fl : Str) (C f : Addr) : Prop where
  mg : mg nm = some (.ref C)
  ox : OexC K C
  iC : PySem.W.findIn K (.ref C) "__init__" = some (some (.ref f))
  tI : PySem.W.typeIn K (.ref f) = some (.type "function")
  no : PySem.W.findIn K (.ref C) fl = some none
  xf : XfC K C
  te : PySem.W.exmOne K (.ref C) (.ref C) = some true
def spEIni (fl : Str) (C : Addr) : Sp := fun vs H Q _ => ∃ a x, vs = [.ref a, x] ∧ H a = some (exo a C none) ∧ ∀ dx, H dx = none → dx ≠ a → Q .non (upd (upd H dx (exd dx [(fl, x)])) a (exo a C (some dx)))
def EWant (H : Hp) (fl : Str) (C : Addr) (x : V) (E : XK) : Prop := ∀ d H', Same H H' → H d = none → H' d = some (.xd [(fl, x)]) → E (.ref C) (some d) H'
theorem del_no {H : Hp} {a b : Addr} (h : b ≠ a) : del H a b = H b := if_neg h
theorem eraise_at {H H1 : Hp} {fl : Str} {C a dx : Addr} {x : V} {E : XK} (s1 : Same H H1) (ha : H1 a = none) (hdx : upd H1 a (exo a C none) dx = none) (hne : dx ≠ a) (k : EWant H fl C x E) :
    ∃ (d : Addr) (fs : List (Str × V)), upd (upd (upd H1 a (exo a C none)) dx (exd dx [(fl, x)])) a (exo a C (some dx)) a = some (exo a C (some d)) ∧ upd (upd (upd H1 a (exo a C none)) dx (exd dx [(fl, x)])) a (exo a C (some dx)) d = some (exd d fs) ∧ H1 d = none ∧
      E (.ref C) (some d) (upd (del (upd (upd (upd H1 a (exo a C none)) dx (exd dx [(fl, x)])) a (exo a C (some dx))) a) d (.xd fs)) := by
  have hn : H1 dx = none := by
    rw [upd_ne hne] at hdx
    exact hdx
  refine ⟨dx, [(fl, x)], upd_same, by rw [upd_ne hne, upd_same], hn, k dx _ (fun b u hb => ?_) (s1.free hn) upd_same⟩
  have hb1 := s1 _ _ hb
  have n1 : b ≠ a := fun e => by rw [e, ha] at hb1; cases hb1
  have n2 : b ≠ dx := fun e => by rw [e, hn] at hb1; cases hb1
  rw [upd_ne n2, del_no n1, upd_ne n1, upd_ne n2, upd_ne n1]
  exact hb1
inductive NoText (H : Hp) : V → Prop
  | non : NoText H .non
  | int (i : Int) : NoText H (.int i)
  | bl (b : Bool) : NoText H (.bl b)
  | lst {a : Addr} {xs : List V} (h : H a = some (.lst xs)) : NoText H (.ref a)
  | tup {a : Addr} {xs : List V} (h : H a = some (.tup xs)) : NoText H (.ref a)
  | dct {a : Addr} {kvs : List (L2.Key × V)} (h : H a = some (.dK kvs)) : NoText H (.ref a)
theorem NoText.ty {K : PySem.W.Frag} {H : Hp} {v : V} (h : NoText H v) : ∃ t : String, TyX K H v (.type t) ∧ PySem.W.kitOne K (.type t) (.type "str") = some false := by
  cases h with
  | non => exact ⟨"NoneType", .base .non, kit_ty (by decide +kernel)⟩
  | int i => exact ⟨"int", .base (.int i), kit_ty (by decide +kernel)⟩
  | bl b => exact ⟨"bool", .base (.bl b), kit_ty (by decide +kernel)⟩
  | lst h => exact ⟨"list", .base (.lst h), kit_ty (by decide +kernel)⟩
  | tup h => exact ⟨"tuple", .base (.tup h), kit_ty (by decide +kernel)⟩
  | dct h => exact ⟨"dict", .base (.dK h), kit_ty (by decide +kernel)⟩
theorem NoText.up {H H' : Hp} {x : V} (h : NoText H x) (s : Same H H') : NoText H' x := by
  cases h with
  | non => exact .non
  | int i => exact .int i
  | bl b => exact .bl b
  | lst h => exact .lst (s _ _ h)
  | tup h => exact .tup (s _ _ h)
  | dct h => exact .dct (s _ _ h)
end XW

set_option maxHeartbeats 3900000
namespace XW
open PySem PySem.Spec PyProof.Rows L2 TL
open CB
end XW

set_option maxHeartbeats 0
namespace HB
open PySem PySem.Spec PyProof.Rows L2 EG RP
def oexB (K : PySem.W.Frag) (C : Addr) : Bool := match K.lookup C with
  | some ⟨.type t, _, .cls cd, sl⟩ => decide (t = "type") && ((match cd.mro with
      | .ref C' :: bm => decide (C' = C) && PySem.HandSPX.refsVE bm
      | _ => false) && (cd.hasDict && (!cd.hasDel && (match sl.toList with
      | [_, _, _, _, some (.builtin n), _] => decide (n = "ValueError.__new__")
      | _ => false))))
  | _ => false
theorem oexB_ok {K : PySem.W.Frag} {C : Addr} (h : oexB K C = true) : ∃ nm q N bs bm sn sub ab col dd k0 k1 k2 k3 k5, K.lookup C = some (excClassObj nm q C N bs bm true sn sub ab col dd k0 k1 k2 k3 k5 "ValueError.__new__") ∧ PySem.HandSPX.refsVE bm = true := by
  unfold oexB at h
  split at h
  · rename_i t dd cd sl ho
    obtain ⟨h1, h⟩ := He.ba h
    obtain ⟨h2, h⟩ := He.ba h
    obtain ⟨h3, h⟩ := He.ba h
    obtain ⟨h4, h5⟩ := He.ba h
    split at h2
    · rename_i C' bm hm
      split at h5
      · rename_i k0 k1 k2 k3 n k5 hs
        obtain ⟨h6, h7⟩ := He.ba h2
        have e1 : t = "type" := of_decide_eq_true h1
        have e2 : C' = C := of_decide_eq_true h6
        have e3 : n = "ValueError.__new__" := of_decide_eq_true h5
        have e4 : sl = #[k0, k1, k2, k3, some (.builtin n), k5] := by
          have := congrArg List.toArray hs
          simpa using this
        obtain ⟨nm, bs, mro, ns, qn, hd, sn, sub, ab, col, del⟩ := cd
        dsimp only at hm h3 h4
        have e5 : del = false := by simpa using h4
        rw [e1, e4, hm, h3, e5, e2, e3] at ho
        exact ⟨nm, qn, ns, bs, bm, sn, sub, ab, col, dd, k0, k1, k2, k3, k5, ho, h7⟩
      · cases h5
    · cases h2
  · cases h
def eqV (a b : Option (Option Value)) : Bool := decide (a = b)
def eclB (K : PySem.W.Frag) (C : Addr) (fl : Str) : Bool := oexB K C && (eqV (PySem.W.findIn K (.ref C) "__setattr__") (some (some (.builtin "object.__setattr__"))) && (decide (PySem.W.subIn K (.ref C) (.type "BaseException") = some true) && (decide (PySem.W.typeIn K (.ref C) = some (.type "type")) &&
  (PySem.W.keepIn K (.ref C) && (eqV (PySem.W.findIn K (.ref C) "__init__") (some (some (.ref (He.ma K C "__init__")))) && (decide (PySem.W.typeIn K (.ref (He.ma K C "__init__")) = some (.type "function")) && (eqV (PySem.W.findIn K (.ref C) fl) (some none) &&
  (xfB K C && decide (PySem.W.exmOne K (.ref C) (.ref C) = some true)))))))))
theorem ecl_of {K : PySem.W.Frag} {C : Addr} {mg : Str → Option Value} {nm fl : Str} (h : eclB K C fl = true) (m : mg nm = some (.ref C)) : XW.ECl K mg nm fl C (He.ma K C "__init__") := by
  obtain ⟨h1, h⟩ := He.ba h
  obtain ⟨h2, h⟩ := He.ba h
  obtain ⟨h3, h⟩ := He.ba h
  obtain ⟨h4, h⟩ := He.ba h
  obtain ⟨h5, h⟩ := He.ba h
  obtain ⟨h6, h⟩ := He.ba h
  obtain ⟨h7, h⟩ := He.ba h
  obtain ⟨h8, h⟩ := He.ba h
  obtain ⟨h9, h10⟩ := He.ba h
  exact ⟨m, ⟨oexB_ok h1, of_decide_eq_true h2, of_decide_eq_true h3, of_decide_eq_true h4, h5⟩, of_decide_eq_true h6, of_decide_eq_true h7, of_decide_eq_true h8, xfB_ok h9, of_decide_eq_true h10⟩
def clsB (K : PySem.W.Frag) (C : Addr) : Bool :=
  eqV (PySem.W.findIn K (.ref C) "__class__") (some (some (.builtin "object.__class__"))) && (decide (PySem.W.specialIn K (.builtin "object.__class__") "__get__" = some (some (.builtin "getset_descriptor.__get__"))) &&
  (decide (PySem.W.takesIn K (.builtin "object.__class__") = some true) && (decide (PySem.W.mroIn K C (.type "object") = some true) && (eqV (PySem.W.findIn K (.ref C) "__ne__") (some (some (.builtin "object.__ne__"))) &&
  (decide (PySem.W.subIn K (.ref C) (.type "object") = some true) && decide (PySem.W.kitOne K (.ref C) (.ref C) = some true))))))
structure ClsF (K : PySem.W.Frag) (C : Addr) : Prop where
  ha : PySem.W.findIn K (.ref C) "__class__" = some (some (.builtin "object.__class__"))
  hn : PySem.W.specialIn K (.builtin "object.__class__") "__get__" = some (some (.builtin "getset_descriptor.__get__"))
  ht : PySem.W.takesIn K (.builtin "object.__class__") = some true
  hm : PySem.W.mroIn K C (.type "object") = some true
  ne : PySem.W.findIn K (.ref C) "__ne__" = some (some (.builtin "object.__ne__"))
  so : PySem.W.subIn K (.ref C) (.type "object") = some true
  kC : PySem.W.kitOne K (.ref C) (.ref C) = some true
theorem clsB_ok {K : PySem.W.Frag} {C : Addr} (h : clsB K C = true) : ClsF K C := by
  obtain ⟨h1, h⟩ := He.ba h
  obtain ⟨h2, h⟩ := He.ba h
  obtain ⟨h3, h⟩ := He.ba h
  obtain ⟨h4, h⟩ := He.ba h
  obtain ⟨h5, h⟩ := He.ba h
  obtain ⟨h6, h7⟩ := He.ba h
  exact ⟨of_decide_eq_true h1, of_decide_eq_true h2, of_decide_eq_true h3, of_decide_eq_true h4, of_decide_eq_true h5, of_decide_eq_true h6, of_decide_eq_true h7⟩
end HB

set_option maxHeartbeats 0
namespace HF
open PySem PySem.Spec PyProof.Rows L2
def under (g : Addr → Option Obj) (as : List Addr) : List Addr := as.flatMap fun a => match g a with
  | none => []
  | some o => He.refsD o
def fresh (old : List Addr) : List Addr → List Addr → List Addr
  | acc, [] => acc
  | acc, a :: r => if acc.any (Nat.beq a) || old.any (Nat.beq a) then fresh old acc r else fresh old (a :: acc) r
def levels (g : Addr → Option Obj) : Nat → List Addr → List Addr → List Addr
  | 0, old, top => old ++ top
  | n + 1, old, top => levels g n (old ++ top) (fresh (old ++ top) [] (under g top))
def reach (n : Nat) (g : Addr → Option Obj) : List Addr := levels g n [] [mainGlobals]
abbrev frag (n : Nat) (g : Addr → Option Obj) : PySem.W.Frag := He.frT g (reach n g)
def look (n : Nat) (fa : List He.Fa) (fn : List He.DefD) (tf : List He.Defn) (ex : PySem.W.Frag → Bool) (g : Addr → Option Obj) : He.AlX := (He.obsT fa fn [] (frag n g), ex (frag n g) && He.tabsB g tf (frag n g))
theorem look_says {n : Nat} {fa : List He.Fa} {fn : List He.DefD} {tf : List He.Defn} {ex : PySem.W.Frag → Bool} {w : World} {h : Heap} (e : look n fa fn tf ex h.get? = He.valX fn [] w) : He.SaysX fa fn [] tf ex w h (frag n h.get?) := by
  unfold look at e
  generalize hK : frag n h.get? = K at e ⊢
  have e1 : He.obsT fa fn [] K = He.valT fn [] w := congrArg Prod.fst e
  have e2 : (ex K && He.tabsB h.get? tf K) = true := congrArg Prod.snd e
  obtain ⟨x1, x2⟩ := He.ba e2
  have tab : ∀ p ∈ tf, PySem.W.codeHdIn K (He.cT K p).1 (He.cT K p).2 = true ∧ ∃ o, h.get? (He.cT K p).2 = some o ∧ He.emptyTab o = true := fun p hp => by
    obtain ⟨a, b⟩ := He.ba (List.all_eq_true.mp x2 p hp)
    refine ⟨a, ?_⟩
    cases q : h.get? (He.cT K p).2 with
    | some o =>
      rw [q] at b
      exact ⟨o, rfl, b⟩
    | none =>
      rw [q] at b
      cases b
  refine ⟨e1, x1, fun p hp => (tab p hp).1, fun p hp => ?_, fun p hp => ?_⟩
  · obtain ⟨_, o, q, z⟩ := tab p hp
    rw [← hK] at q ⊢
    exact He.frT_none q z
  · obtain ⟨_, o, q, z⟩ := tab p hp
    rw [q, He.emptyTab_eq z]
end HF

namespace HJ
open PySem PySem.W PySem.Calls PyProof.Rows HandSHeadRun
theorem join {S B : Type} {x : Option S} {f : S → Bool} {g : S → B} {b : B} {G : S → Addr → Option Obj} {D : S → Bool} {n k : Nat} {fa fb : List He.Fa} {fn : List He.DefD} {tf : List He.Defn} {ex : PySem.W.Frag → Bool} {w : World}
    (h1 : x.map (fun s => (f s, g s, D s, fa.all fun f => f.ok (HF.frag n (G s)))) = some (true, b, true, true))
    (h2 : x.map (fun s => fb.all fun f => f.ok (HF.frag n (G s))) = some true)
    (h3 : x.map (fun s => (fn.take k).all fun d => d.ok (HF.frag n (G s))) = some true)
    (h3' : x.map (fun s => (fn.drop k).all fun d => d.ok (HF.frag n (G s))) = some true)
    (h4 : x.map (fun s => fn.map fun d => He.fnW (HF.frag n (G s)) d.at_) = some (fn.map He.DefD.val))
    (h5 : x.map (fun s => ex (HF.frag n (G s)) && He.tabsB (G s) tf (HF.frag n (G s))) = some true) :
    x.map (fun s => (f s, g s, (HF.look n (fa ++ fb) fn tf ex (G s), D s))) = some (true, b, (He.valX fn [] w, true)) := by
  cases x with
  | none => cases h1
  | some s =>
    have e1 := Option.some.inj h1
    have e2 := Option.some.inj h2
    have e3 := Option.some.inj h3
    have e3' := Option.some.inj h3'
    have e4 := Option.some.inj h4
    have e5 := Option.some.inj h5
    have ef : (fn.all fun d => d.ok (HF.frag n (G s))) = true := by
      rw [← List.take_append_drop k fn, List.all_append]
      simp only [e3, e3', Bool.and_self]
    simp only [Prod.mk.injEq] at e1
    obtain ⟨q1, q2, q3, q4⟩ := e1
    show some (f s, g s, (HF.look n (fa ++ fb) fn tf ex (G s), D s)) = _
    unfold HF.look He.obsT He.obsD He.valX He.valT He.valD
    rw [List.all_append]
    simp only [q1, q2, q3, q4, e2, ef, e4, e5, Bool.and_self]
    rfl
def isD (o : Option Obj) : Bool := match o with
  | some ⟨_, _, .dict _ _, _⟩ => true
  | _ => false
def hk (n : Nat) (fa : List He.Fa) (fn : List He.DefD) (tf : List He.Defn) (ex : PySem.W.Frag → Bool) : PySem.W.Hook where
  α := He.AlX × Bool
  obs := fun s => (HF.look n fa fn tf ex s.heap.get?, isD (s.heap.get? sysModules))
  val := fun w => (He.valX fn [] w, true)
  says := fun w h => (∃ K : PySem.W.Frag, K.In h ∧ He.SaysX fa fn [] tf ex w h K) ∧ ∃ (o : Obj) (es : Array DictEntry) (n : Nat), h.get? sysModules = some o ∧ o.data = .dict es n
  of := fun w s e => by
    refine ⟨⟨_, He.frT_in, HF.look_says (congrArg (fun z : He.AlX × Bool => z.1) e)⟩, ?_⟩
    have e2 : isD (s.heap.get? sysModules) = true := congrArg (fun z : He.AlX × Bool => z.2) e
    unfold isD at e2
    split at e2
    · rename_i c d es n sl ho
      exact ⟨_, es, n, ho, rfl⟩
    · cases e2
  keeps := fun w h h' ⟨a, o, es, n, h1, h2⟩ k => ⟨(He.hookX 5 fa fn [] tf ex).keeps w h h' a k, o, es, n, k _ _ h1, h2⟩
def ob (n : Nat) (fa : List He.Fa) (fn : List He.DefD) (tf : List He.Defn) (ex : PySem.W.Frag → Bool) (s : PySem.W.SharedT) : (hk n fa fn tf ex).α := (HF.look n fa fn tf ex (HandSHeadRun.getT s), isD (HandSHeadRun.getT s sysModules))
theorem ob_eq (n : Nat) (fa : List He.Fa) (fn : List He.DefD) (tf : List He.Defn) (ex : PySem.W.Frag → Bool) (s : PySem.W.SharedT) : ob n fa fn tf ex s = (hk n fa fn tf ex).obs s.abs := by
  have e : HandSHeadRun.getT s = s.abs.heap.get? := funext (HandSHeadRun.getT_eq s)
  show (HF.look n fa fn tf ex (HandSHeadRun.getT s), isD (HandSHeadRun.getT s sysModules)) = _
  rw [e]
  rfl
noncomputable abbrev E (r : OpenRow) (M : Nat) (w : World) (os : OsState) : Option SharedT := endF (stepQ (denQ tabQ) r.prog w) M r.prog w os
abbrev P1 (n : Nat) (r : OpenRow) (q : Program) (M : Nat) (loose : List PySem.Str) (fa : List He.Fa) (w : World) : Prop := ∀ os : OsState, (E r M w os).map (fun s => (looksF r.prog (boot_heap w.params) s.abs, seenQ q loose (importedModules r.prog.main.body) (fun s => xlAt q [] s && recOk r.toRowW.records s) s.abs, isD (getT s sysModules), fa.all fun f => f.ok (HF.frag n (getT s)))) = some (true, openGood q loose, true, true)
abbrev P2 (n : Nat) (r : OpenRow) (M : Nat) (fa : List He.Fa) (w : World) : Prop := ∀ os : OsState, (E r M w os).map (fun s => fa.all fun f => f.ok (HF.frag n (getT s))) = some true
abbrev P3 (n : Nat) (r : OpenRow) (M : Nat) (fn : List He.DefD) (w : World) : Prop := ∀ os : OsState, (E r M w os).map (fun s => fn.all fun d => d.ok (HF.frag n (getT s))) = some true
abbrev P4 (n : Nat) (r : OpenRow) (M : Nat) (fn : List He.DefD) (w : World) : Prop := ∀ os : OsState, (E r M w os).map (fun s => fn.map fun d => He.fnW (HF.frag n (getT s)) d.at_) = some (fn.map He.DefD.val)
abbrev P5 (n : Nat) (r : OpenRow) (M : Nat) (tf : List He.Defn) (ex : PySem.W.Frag → Bool) (w : World) : Prop := ∀ os : OsState, (E r M w os).map (fun s => ex (HF.frag n (getT s)) && He.tabsB (getT s) tf (HF.frag n (getT s))) = some true
theorem run {r : OpenRow} {q : Program} {n M k : Nat} {loose : List PySem.Str} {fa fb : List He.Fa} {fn : List He.DefD} {tf : List He.Defn} {ex : PySem.W.Frag → Bool} {w : World}
    (h1 : P1 n r q M loose fa w) (h2 : P2 n r M fb w) (h3 : P3 n r M (fn.take k) w) (h4 : P3 n r M (fn.drop k) w) (h5 : P4 n r M fn w) (h6 : P5 n r M tf ex w) : RunEq r q (hk n (fa ++ fb) fn tf ex) (ob n (fa ++ fb) fn tf ex) M loose w := by
  intro os
  have a1 := h1 os
  have a2 := h2 os
  have a3 := h3 os
  have a4 := h4 os
  have a5 := h5 os
  have a6 := h6 os
  exact join (G := getT) (D := fun s => isD (getT s sysModules)) a1 a2 a3 a4 a5 a6
end HJ

set_option maxHeartbeats 0
namespace T6
open PySem PySem.Spec PyProof.Rows L2 EG RP
def exB (K : PySem.W.Frag) : Bool := HB.clsB K (He.ga K "Step") && (HB.eclB K (He.ga K "BadStep") "place")
def dG (x : Str) (i : Nat) : He.DefD := ⟨(x, none), x, x, defArgs (top i), defBody (top i), defScope (top i), [], []⟩
def dI (x m q : Str) (i j : Nat) (ds : List He.Dv) : He.DefD := ⟨(x, some m), m, q, defArgs (inClass (top i) j), defBody (inClass (top i) j), defScope (inClass (top i) j), ds, []⟩
def fnL : List He.DefD := ([dG "is_name" 9, dG "is_path" 10, dG "is_place" 11, dG "is_row" 13, dG "as_look" 14, dG "can_look" 15, dG "can_show" 16, dG "is_listing" 17, dG "is_entry" 18, dG "as_sight" 19, dG "plain_tree" 21, dG "is_end" 22] : List He.DefD) ++ ([dG "look_of_ask" 23, dG "unordered" 24, dG "_law_draw" 30, dG "_law_pick" 31, dG "_law_mixed" 32, dG "_law_same" 33, dG "_law_fresh" 34, dG "_law_pool" 35, dG "_law_path" 36, dG "_law_text" 37, dG "_law_look" 38, dG "_law_looks" 39] : List He.DefD) ++ ([dG "_law_some_answer" 40, dG "_law_tree" 41, dG "_law_odd_tree" 42, dG "_law_is_right_look" 43, dG "_law_spoiled" 44, dG "_law_can_have" 45, dG "_law_first_wrong" 46, dG "_law_spoiled_more" 47, dG "law" 48, dI "BadStep" "__init__" "BadStep.__init__" 3 0 [], dI "Step" "__init__" "Step.__init__" 28 0 [], dI "Step" "tree" "Step.tree" 28 1 []] : List He.DefD)
def gloL : List Str := (["is_name", "is_path", "is_place", "is_row", "as_look", "can_look", "can_show", "is_listing", "is_entry", "as_sight", "plain_tree", "is_end"] : List PySem.Str) ++ (["look_of_ask", "unordered", "_law_draw", "_law_pick", "_law_mixed", "_law_same", "_law_fresh", "_law_pool", "_law_path", "_law_text", "_law_look", "_law_looks"] : List PySem.Str) ++ (["_law_some_answer", "_law_tree", "_law_odd_tree", "_law_is_right_look", "_law_spoiled", "_law_can_have", "_law_first_wrong", "_law_spoiled_more", "law", "BadStep", "Step"] : List PySem.Str)
def freeL : List Str := (["int", "len", "range", "list", "tuple", "any", "all", "sorted", "isinstance", "enumerate", "zip", "str"] : List Str) ++ (["repr", "min", "max", "dict", "set", "iter"] : List Str)
def conL : List He.Fa := ([.str "STROKE" "/", .str "ROOT" "", .str "LETTERS" "abcdefghijklmnopqrstuvwxyz", .int "LONGEST" 8, .mkr "Step", .meth "Step" "tree", .cls "Step", .noat "Step" "top", .noat "Step" "choices"] : List He.Fa)
def faL : List He.Fa := (gloL.map fun x => He.Fa.glo x) ++ ((freeL.map fun x => He.Fa.free x) ++ conL)
def tfL : List He.Defn := []
abbrev hkL : PySem.W.Hook := HJ.hk 4 faL fnL tfL exB
abbrev RL : PySem.W.OpenRow := PySem.W.OpenLaw.row PySem.Challenge.rw_trueagain_k13_bad_steps
abbrev obL : PySem.W.SharedT → hkL.α := HJ.ob 4 faL fnL tfL exB
theorem obL_eq (s : PySem.W.SharedT) : obL s = hkL.obs s.abs := HJ.ob_eq 4 faL fnL tfL exB s
def looseL : List PySem.Str := (["_wall", "AgainError", "BadStep", "is_name", "is_path", "is_place", "is_row", "as_look", "can_look", "can_show", "is_listing", "is_entry"] : List PySem.Str) ++ (["as_sight", "plain_tree", "is_end", "look_of_ask", "unordered", "looks_in", "parts_of", "Step", "_law_draw", "_law_pick", "_law_mixed", "_law_same"] : List PySem.Str) ++ (["_law_fresh", "_law_pool", "_law_path", "_law_text", "_law_look", "_law_looks", "_law_some_answer", "_law_tree", "_law_odd_tree", "_law_is_right_look", "_law_spoiled", "_law_can_have"] : List PySem.Str) ++ (["_law_first_wrong", "_law_spoiled_more", "LETTERS", "LONGEST", "STROKE", "ROOT"] : List PySem.Str)
theorem run1 (w : World) : HJ.P1 4 RL (PySem.W.view RL.prog [48]) 20000 looseL (gloL.map fun x => He.Fa.glo x) w := by
  intro os
  kernel_rfl
theorem run2 (w : World) : HJ.P2 4 RL 20000 ((freeL.map fun x => He.Fa.free x) ++ conL) w := by
  intro os
  kernel_rfl
theorem run3 (w : World) : HJ.P3 4 RL 20000 (fnL.take 18) w := by
  intro os
  kernel_rfl
theorem run4 (w : World) : HJ.P3 4 RL 20000 (fnL.drop 18) w := by
  intro os
  kernel_rfl
theorem run5 (w : World) : HJ.P4 4 RL 20000 fnL w := by
  intro os
  kernel_rfl
theorem run6 (w : World) : HJ.P5 4 RL 20000 tfL exB w := by
  intro os
  kernel_rfl
theorem runL (w : World) : HandSHeadRun.RunEq RL (PySem.W.view RL.prog [48]) hkL obL 20000 looseL w :=
  HJ.run (run1 w) (run2 w) (run3 w) (run4 w) (run5 w) (run6 w)
end T6

set_option maxHeartbeats 3900000
namespace T6
open PySem PySem.Spec PyProof.Rows L2 TL
open C8 (pss_cut tCut pe_gc)
def IsNm (z : Str) : Prop := 1 ≤ z.length ∧ z.length ≤ 8 ∧ ∀ c ∈ tl z, 97 ≤ c ∧ c ≤ 122
instance (z : Str) : Decidable (IsNm z) := by unfold IsNm; infer_instance
abbrev letters : Str := "abcdefghijklmnopqrstuvwxyz"
theorem letter_at : ∀ i, i < 26 → (letters.cps.toList)[i]? = some (97 + i) := by decide +kernel
theorem letters_all : ∀ c ∈ letters.cps.toList, 97 ≤ c ∧ c ≤ 122 := by decide +kernel
theorem join_one : ∀ cs : List Nat, tl (Txt.join "" (cs.map fun c => (⟨#[c]⟩ : Str))) = cs
  | [] => by
    rw [join_eq]
    rfl
  | [c] => by
    rw [join_eq]
    rfl
  | c :: d :: r => by
    have ih := join_one (d :: r)
    rw [join_eq] at ih ⊢
    have e : Str.join "" ((c :: d :: r).map fun c => (⟨#[c]⟩ : Str)) = (⟨#[c]⟩ : Str) ++ "" ++ Str.join "" ((d :: r).map fun c => (⟨#[c]⟩ : Str)) := rfl
    rw [e, tl_append, tl_append, ih]
    rfl
theorem len_tl (z : Str) : z.length = (tl z).length := by simp [Str.length, tl]
theorem name_of_letters {cs : List Nat} (h1 : 1 ≤ cs.length) (h8 : cs.length ≤ 8) (h : ∀ c ∈ cs, 97 ≤ c ∧ c ≤ 122) : IsNm (Txt.join "" (cs.map fun c => (⟨#[c]⟩ : Str))) := by
  refine ⟨?_, ?_, ?_⟩
  · rw [len_tl, join_one]
    exact h1
  · rw [len_tl, join_one]
    exact h8
  · rw [join_one]
    exact h
def spare (i : Nat) : Str := "q" ++ (⟨#[97 + i / 26]⟩ : Str) ++ (⟨#[97 + i % 26]⟩ : Str)
theorem spare_tl (i : Nat) : tl (spare i) = [113, 97 + i / 26, 97 + i % 26] := by
  unfold spare
  rw [tl_append, tl_append]
  rfl
theorem spare_nm {i : Nat} (h : i < 676) : IsNm (spare i) := by
  refine ⟨?_, ?_, ?_⟩
  · rw [len_tl, spare_tl]
    exact Nat.succ_le_succ (Nat.zero_le 2)
  · rw [len_tl, spare_tl]
    exact Nat.le_of_ble_eq_true rfl
  · rw [spare_tl]
    intro c hc
    simp only [List.mem_cons, List.not_mem_nil, or_false] at hc
    omega
theorem spare_inj {i j : Nat} (h : spare i = spare j) : i = j := by
  have e := congrArg tl h
  rw [spare_tl, spare_tl] at e
  simp only [List.cons.injEq, and_true, true_and] at e
  omega
theorem pigeon {α : Type} [DecidableEq α] : ∀ (l m : List α), l.Nodup → (∀ x ∈ l, x ∈ m) → l.length ≤ m.length
  | [], _, _, _ => Nat.zero_le _
  | x :: r, m, nd, h => by
    have hx := h x List.mem_cons_self
    have nd2 := List.nodup_cons.mp nd
    have ih := pigeon r (m.erase x) nd2.2 fun y hy => (List.mem_erase_of_ne fun z => nd2.1 (by rw [← z]; exact hy)).mpr (h y (List.mem_cons_of_mem _ hy))
    rw [List.length_erase_of_mem hx] at ih
    have := List.length_pos_of_mem hx
    rw [List.length_cons]
    omega
theorem spares_many {taken : List Str} (h : ∀ i, i < 676 → spare i ∈ taken) : 100 ≤ taken.length := by
  have q := pigeon ((List.range 100).map spare) taken ?_ ?_
  · rw [List.length_map, List.length_range] at q
    exact q
  · exact List.Pairwise.map spare (fun a b h e => h (spare_inj e)) List.nodup_range
  · intro x hx
    obtain ⟨i, hi, rfl⟩ := List.mem_map.mp hx
    exact h i (by have := List.mem_range.mp hi; omega)
theorem inV_strs (z : Str) : ∀ zs : List Str, inV (.str z) (zs.map V.str) = decide (z ∈ zs)
  | [] => rfl
  | y :: r => by
    have ih := inV_strs z r
    show (eqV (.str y) (.str z) || inV (.str z) (r.map V.str)) = decide (z ∈ y :: r)
    rw [ih]
    show ((y == z) || decide (z ∈ r)) = decide (z ∈ y :: r)
    by_cases e : y = z
    · subst e
      simp
    · have e2 : z ≠ y := fun q => e q.symm
      simp [e, e2]
theorem flat_strs : ∀ zs : List Str, (zs.map V.str).all flatV = true
  | [] => rfl
  | _ :: r => flat_strs r
end T6

set_option maxHeartbeats 3900000
namespace T6
open PySem PySem.Spec PyProof.Rows L2 TL
open C8 (pss_cut tCut pe_gc)
abbrev sLook : Stmt := top 38
abbrev sLooks : Stmt := top 39
theorem at_map {α β : Type} {f : α → β} {xs : List α} {d : Int} {x : α} (h : atI xs d = some x) : atI (xs.map f) d = some (f x) := by
  unfold atI at h ⊢
  rw [List.length_map]
  cases e : ixN xs.length d with
  | none =>
    rw [e] at h
    cases h
  | some j =>
    rw [e] at h
    have h2 : xs[j]? = some x := h
    show (xs.map f)[j]? = some (f x)
    rw [List.getElem?_map, h2]
    rfl
structure At (K : PySem.W.Frag) (mg : Str → Option Value) (x : Str) (f : Addr) (fd : FuncData) (ps : List Str) : Prop where
  m : mg x = some (.ref f)
  k : PySem.W.keepIn K (.ref f) = true
  b : L2.Binds K fd ps []
structure TB (mg : Str → Option Value) : Prop where
  int : mg "int" = none
  len : mg "len" = none
  range : mg "range" = none
  list : mg "list" = none
  tuple : mg "tuple" = none
  any : mg "any" = none
  all : mg "all" = none
  sorted : mg "sorted" = none
  isinstance : mg "isinstance" = none
  enumerate : mg "enumerate" = none
  zip : mg "zip" = none
  str : mg "str" = none
abbrev aD' (K : PySem.W.Frag) (mg : Str → Option Value) (f : Addr) (fd : FuncData) := At K mg "_law_draw" f fd ["_law_stream", "_law_many"]
def texts : List Str := ["", "x", "y", "x y", "no", "yes", "a/b", "-", "xa", "xb", "X"]
def spText : Sp := fun vs H Q _ => ∃ (st l : Addr) (c : Nat), vs = [.ref st] ∧ Strm H st l c ∧ c ≤ 1000000 ∧
  ∀ (z : Str) (H' : Hp), z ∈ texts → But st l H H' → Strm H' st l (c + 1) → Q (.str z) H'
structure Pool (H : Hp) (st l p : Addr) (zs : List Str) : Prop where
  h : H p = some (.lst (zs.map V.str))
  n1 : p ≠ st
  n2 : p ≠ l
theorem Pool.but {H H' : Hp} {st l p : Addr} {zs : List Str} (h : Pool H st l p zs) (B : But st l H H') : Pool H' st l p zs := ⟨B _ _ h.h h.n1 h.n2, h.n1, h.n2⟩
def spPath : Sp := fun vs H Q _ => ∃ (st l p : Addr) (c : Nat) (zs : List Str) (most : Int), vs = [.ref st, .ref p, .int most] ∧ Strm H st l c ∧ c ≤ 900000 ∧ Pool H st l p zs ∧ 0 < zs.length ∧ zs.length < 1000 ∧ (∀ z ∈ zs, IsNm z) ∧ 0 < most ∧ most < 1000 ∧
  ∀ (ys : List Str) (H' : Hp) (c' : Nat), 1 ≤ ys.length → (ys.length : Int) ≤ most → (∀ y ∈ ys, y ∈ zs) → But st l H H' → Strm H' st l c' → c' ≤ c + 1 + most.toNat → Q (.str (Txt.join "/" ys)) H'
def spFresh : Sp := fun vs H Q _ => ∃ (st l p : Addr) (c : Nat) (zs : List Str), vs = [.ref st, .ref p] ∧ Strm H st l c ∧ c ≤ 900000 ∧ Pool H st l p zs ∧ zs.length < 100 ∧
  ∀ (z : Str) (H' : Hp) (c' : Nat), IsNm z → z ∉ zs → But st l H H' → Strm H' st l c' → c' ≤ c + 11 → Q (.str z) H'
section
variable {P : Program} {w : World} {K : PySem.W.Frag} {mg : Str → Option Value} {base : Heap} {fD fP fPa fFr : Addr} {fdD fdP fdPa fdFr : FuncData}
theorem scTe : FnScope ["_law_stream"] ["_law_stream"] (defScope sText) := ⟨rfl, rfl, rfl, by decide +kernel, rfl, by decide +kernel, by decide +kernel⟩
theorem ok_text {f : Addr} {fd : FuncData} (F : Fun K "_law_text" "_law_text" sText f fd) (aD : aD' K mg fD fdD) (GD : FnOk P w K mg base CX0 1 fD fdD ["_law_stream", "_law_many"] spDraw) : FnOk P w K mg base CX0 2 f fd ["_law_stream"] spText := by
  refine F.ok scTe (fun vs H Q E h => ?_) (fun cdv A outer s H vs Q E hr h => ?_)
  · obtain ⟨st, l, c, rfl, _⟩ := h
    rfl
  · obtain ⟨st, l, c, rfl, S, hc, k⟩ := h
    refine ⟨_, pss_one (ps_ret (pe_ix ix_list (pe_lst (pa_cons pe_str (pa_cons pe_str (pa_cons pe_str (pa_cons pe_str (pa_cons pe_str (pa_cons pe_str (pa_cons pe_str (pa_cons pe_str (pa_cons pe_str (pa_cons pe_str (pa_cons pe_str pa_nil)))))))))))) (pe_call GD (hr.mono (by decide)) rfl aD.m aD.k aD.b .nil pass0 (pa_cons (pv 0) (pa_cons pe_int pa_nil))) (fun _ _ => rfl))), ?_⟩
    refine ⟨by show 11 ≤ sizeLine; decide, fun p hp => ?_⟩
    have np := S.ne_new hp
    refine ⟨_, rfl, st, l, c, _, rfl, S.up (same_new hp), by omega, by decide, by decide, fun d H' d0 d1 B S' => ?_⟩
    have hp' := B _ _ upd_same np.1 np.2
    obtain ⟨i, x, hx, ha⟩ := at_int (xs := texts.map V.str) d0 (by exact d1)
    obtain ⟨z, hz, rfl⟩ := List.mem_map.mp (List.mem_of_getElem? hx)
    exact ⟨p, texts.map V.str, d, .str z, rfl, rfl, SqL.of hp', ha, k _ _ hz ((But.same (same_new hp)).trans B) S'⟩
theorem scPa : FnScope ["_law_stream", "_law_pool_here", "_law_most", "_law_k"] ["_law_stream", "_law_pool_here", "_law_most"] (defScope sPath) := ⟨rfl, rfl, rfl, by decide +kernel, rfl, by decide +kernel, by decide +kernel⟩
theorem names_len {ys : List Str} (h : ∀ y ∈ ys, y.length ≤ 8) : (ys.map (·.length)).sum ≤ ys.length * 8 := by
  induction ys with
  | nil => exact Nat.le_refl _
  | cons y r ih =>
    have := ih fun z hz => h z (List.mem_cons_of_mem _ hz)
    have := h y List.mem_cons_self
    simp only [List.map_cons, List.sum_cons, List.length_cons]
    omega
theorem ok_path {f : Addr} {fd : FuncData} (F : Fun K "_law_path" "_law_path" sPath f fd) (T : TB mg) (aD : aD' K mg fD fdD) (aP : At K mg "_law_pick" fP fdP ["_law_stream", "_law_things"]) (GD : FnOk P w K mg base CX0 1 fD fdD ["_law_stream", "_law_many"] spDraw)
    (GP : FnOk P w K mg base CX0 2 fP fdP ["_law_stream", "_law_things"] spPick) : FnOk P w K mg base CX0 3 f fd ["_law_stream", "_law_pool_here", "_law_most"] spPath := by
  refine F.ok scPa (fun vs H Q E h => ?_) (fun cdv A outer s H vs Q E hr h => ?_)
  · obtain ⟨st, l, p, c, zs, most, rfl, _⟩ := h
    rfl
  · obtain ⟨st, l, p, c, zs, most, rfl, S, hc, L, z0, z1, nm, m0, m1, k⟩ := h
    refine ⟨_, pss_one (ps_ret (pe_join pe_str (pe_lc (own := [("_law_k", 3)]) (g := gName 3) (tt := tYes) rfl scPa.nd (pi_range1 rfl T.range (pa_cons (pe_op op_add pe_int (pe_call GD (hr.mono (by decide)) rfl aD.m aD.k aD.b .nil pass0 (pa_cons (pv 0) (pa_cons (pv 2) pa_nil)))) pa_nil)) (blkOk_by (own := [("_law_k", 3)]) (N := ["_law_stream", "_law_pool_here", "_law_most", "_law_k"]) (sc := defScope sPath) (by decide +kernel)) (fun _ _ _ _ _ => (pg_name (i := 3) scPa.nd rfl (Or.inl rfl))) (fun _ _ _ _ _ => pts_nil) (fun _ _ _ _ _ => (pe_call GP (hr.mono (by decide)) rfl aP.m aP.k aP.b .nil pass0 (pa_cons (pv 0) (pa_cons (pv 1) pa_nil))))))), ?_⟩
    refine ⟨⟨_, rfl⟩, _, rfl, _, rfl, st, l, c, _, rfl, S, by omega, m0, by omega, fun d H1 d0 d1 B1 S1 => ?_⟩
    obtain ⟨n, hn⟩ : ∃ n : Nat, 1 + d = (n : Int) := ⟨(1 + d).toNat, by omega⟩
    refine ⟨_, _, rfl, rfl, 1 + d, rfl, by omega, by omega, fun D hD => ?_⟩
    rw [show (1 + d).toNat = n by omega]
    refine lc_range (lo := 0) (n := n) (fun i H' => But st l H1 H' ∧ Strm H' st l (c + 1 + i) ∧ ∃ ys : List Str, ys.length = i ∧ H' D = some (.lst (ys.map V.str)) ∧ ∀ y ∈ ys, y ∈ zs)
      ⟨But.same (same_new hD), S1.up (same_new hD), [], rfl, upd_same, by simp⟩ ?_ ?_
    · rintro i H' hi ⟨B', S', ys, hy, hD', hs⟩
      have nD := S1.ne_new hD
      have L' := L.but (B1.trans B')
      refine ⟨rfl, _, rfl, _, rfl, .inl ⟨st, l, c + 1 + i, p, zs.map V.str, rfl, S', by omega, L'.h, L'.n1, L'.n2, by rw [List.length_map]; exact z0, by rw [List.length_map]; exact z1, fun j x H'' hx B'' S'' => ?_⟩⟩
      obtain ⟨z, hz, rfl⟩ := List.mem_map.mp (List.mem_of_getElem? hx)
      refine ⟨_, B'' _ _ hD' nD.1 nD.2, ?_, (B'.trans B'').put hD, S''.put nD, ys ++ [z], ?_, ?_, fun y hy' => ?_⟩
      · rw [List.length_map, hy]
        exact Nat.lt_of_lt_of_le (show i < 1001 by omega) (by decide)
      · rw [List.length_append, hy]
        rfl
      · rw [upd_same, List.map_append]
        rfl
      · rcases List.mem_append.mp hy' with q | q
        · exact hs y q
        · rw [List.mem_singleton.mp q]
          exact hz
    · rintro H' ⟨B', S', ys, hy, hD', hs⟩
      refine ⟨_, D, ys, rfl, rfl, .inl (SqL.of hD'), ?_, k ys H' (c + 1 + n) (by omega) (by omega) hs (B1.trans B') S' (by omega)⟩
      have := names_len fun y q => (nm y (hs y q)).2.1
      have e : (("/" : Str).length) = 1 := by decide
      rw [e]
      omega
def fwords : List Str := ["read", "list", "setting", "tool", "end", "main", "none"]
theorem fwords_nm : ∀ z ∈ fwords, IsNm z := by decide +kernel
def nums : List Int := [1, 1, 1, 2, 3, 8]
theorem nums_ok : ∀ n ∈ nums, 1 ≤ n ∧ n ≤ 8 := by decide
theorem scFr : FnScope ["_law_stream", "_law_taken", "_law_letters", "_law_words", "_law_k", "_law_name", "_law_spare"] ["_law_stream", "_law_taken"] (defScope sFresh) := ⟨rfl, rfl, rfl, by decide +kernel, rfl, by decide +kernel, by decide +kernel⟩
theorem ok_fresh {f : Addr} {fd : FuncData} (F : Fun K "_law_fresh" "_law_fresh" sFresh f fd) (T : TB mg) (aD : aD' K mg fD fdD) (aP : At K mg "_law_pick" fP fdP ["_law_stream", "_law_things"]) (GD : FnOk P w K mg base CX0 1 fD fdD ["_law_stream", "_law_many"] spDraw)
    (GP : FnOk P w K mg base CX0 2 fP fdP ["_law_stream", "_law_things"] spPick) : FnOk P w K mg base CX0 3 f fd ["_law_stream", "_law_taken"] spFresh := by
  refine F.ok scFr (fun vs H Q E h => ?_) (fun cdv A outer s H vs Q E hr h => ?_)
  · obtain ⟨st, l, p, c, zs, rfl, _⟩ := h
    rfl
  · obtain ⟨st, l, p, c, zs, rfl, S, hc, L, z1, k⟩ := h
    refine ⟨_, pss_cut (ps_asg (pe_tup (pa_cons pe_str (pa_cons (pe_lst (pa_cons pe_str (pa_cons pe_str (pa_cons pe_str (pa_cons pe_str (pa_cons pe_str (pa_cons pe_str (pa_cons pe_str pa_nil)))))))) pa_nil))) (pg_tup rfl (pgs_cons (pg_name (i := 2) scFr.nd rfl (Or.inr rfl)) (pgs_cons (pg_name (i := 3) scFr.nd rfl (Or.inl rfl)) pgs_nil))))
        (pss_cut (ps_set (i := 5) scFr.nd rfl (Or.inl rfl) (pe_join pe_str (pe_lc (own := [("_law_k", 4)]) (g := gName 4) (tt := tYes) rfl scFr.nd (pi_range1 rfl T.range (pa_cons (pe_ix ix_list (pe_lst (pa_cons pe_int (pa_cons pe_int (pa_cons pe_int (pa_cons pe_int (pa_cons pe_int (pa_cons pe_int pa_nil))))))) (pe_call GD (hr.mono (by decide)) rfl aD.m aD.k aD.b .nil pass0 (pa_cons (pv 0) (pa_cons pe_int pa_nil))) (fun _ _ => rfl)) pa_nil)) (blkOk_by (own := [("_law_k", 4)]) (N := ["_law_stream", "_law_taken", "_law_letters", "_law_words", "_law_k", "_law_name", "_law_spare"]) (sc := defScope sFresh) (by decide +kernel)) (fun _ _ _ _ _ => (pg_name (i := 4) scFr.nd rfl (Or.inl rfl))) (fun _ _ _ _ _ => pts_nil) (fun _ _ _ _ _ => (pe_ix ix_str (pv 2) (pe_call GD (hr.mono (by decide)) rfl aD.m aD.k aD.b .nil pass0 (pa_cons (pv 0) (pa_cons pe_int pa_nil))) (fun _ _ => rfl))))))
        (pss_cut (ps_set (i := 5) scFr.nd rfl (Or.inl rfl) (pe_ifExp (pt_cmpR op_eq (pe_call GD (hr.mono (by decide)) rfl aD.m aD.k aD.b .nil pass0 (pa_cons (pv 0) (pa_cons pe_int pa_nil))) pe_int (nomark _)) (pe_call GP (hr.mono (by decide)) rfl aP.m aP.k aP.b .nil pass0 (pa_cons (pv 0) (pa_cons (pv 3) pa_nil))) (pv 5)))
        (pss_cut (ps_for PassesOwn.never rfl (pi_range1 rfl T.range (pa_cons (pe_op op_mul pe_int (pe_callTy call_int1 (by rfl) T.int (by decide +kernel) (pa_cons (pe_cmpR op_in_seq (pv 5) (pv 1) (by rfl)) pa_nil))) pa_nil)) (pg_name (i := 4) scFr.nd rfl (Or.inl rfl)) (pss_cut (ps_set (i := 6) scFr.nd rfl (Or.inl rfl) (pe_op op_add_str (pe_op op_add_str pe_str (pe_ix ix_str (pv 2) (pe_op op_fdiv (pv 4) pe_int) (fun _ _ => rfl))) (pe_ix ix_str (pv 2) (pe_op op_mod (pv 4) pe_int) (fun _ _ => rfl))))
        (pss_one (ps_if (pt_cmpR op_notIn_seq (pv 6) (pv 1) (by rfl)) (pss_one (ps_ret (pv 6))) (pss_nil)))))
        (pss_one (ps_ret (pv 5)))))), ?_⟩
    -- letters, words
    refine ⟨fun σ H' => ∃ q, σ = [some (.ref st), some (.ref p), some (.str letters), some (.ref q), none, none, none] ∧ But st l H H' ∧ Strm H' st l c ∧ Pool H' st l q fwords, ?_, ?_⟩
    · refine ⟨by show 7 ≤ sizeLine; decide, fun q hq => ⟨by show 2 ≤ sizeLine; decide, fun t ht => ?_⟩⟩
      have nq := S.ne_new hq
      have nt : q ≠ t := ne_of_none upd_same ht
      have s1 : Same H (upd (upd H q (.lst (fwords.map V.str))) t (.tup [.str letters, .ref q])) := (same_new hq).trans (same_new ht)
      exact ⟨t, _, rfl, SqT.of upd_same, rfl, _, _, rfl, _, _, rfl, rfl, q, rfl, But.same s1, S.up s1, ⟨by rw [upd_ne nt]; exact upd_same, nq.1, nq.2⟩⟩
    rintro _ H1 ⟨q, rfl, B1, S1, Lq⟩
    -- name = ''.join(..)
    refine ⟨fun σ H' => ∃ z x4 c', σ = [some (.ref st), some (.ref p), some (.str letters), some (.ref q), x4, some (.str z), none] ∧ IsNm z ∧ But st l H H' ∧ Strm H' st l c' ∧ c' ≤ c + 9 ∧ Pool H' st l q fwords, ?_, ?_⟩
    · refine ⟨⟨_, rfl⟩, by show 6 ≤ sizeLine; decide, fun u hu => ⟨_, rfl, st, l, c, _, rfl, S1.up (same_new hu), by omega, by decide, by decide, fun d H2 d0 d1 B2 S2 => ?_⟩⟩
      have nu := S1.ne_new hu
      have hu' := B2 _ _ upd_same nu.1 nu.2
      obtain ⟨i, x, hx, ha⟩ := at_int (xs := nums) d0 (by exact d1)
      obtain ⟨x0, x8⟩ := nums_ok x (List.mem_of_getElem? hx)
      obtain ⟨n, rfl⟩ := Int.eq_ofNat_of_zero_le (show 0 ≤ x by omega)
      have ha2 : atI (nums.map V.int) d = some (.int (n : Int)) := at_map ha
      refine ⟨u, _, d, _, rfl, rfl, SqL.of hu', ha2, (n : Int), rfl, by omega, by omega, fun D hD => ?_⟩
      have B02 : But st l H1 H2 := (But.same (same_new hu)).trans B2
      have nD := S2.ne_new hD
      refine lc_range (lo := 0) (n := n) (fun i H' => But st l H2 H' ∧ Strm H' st l (c + 1 + i) ∧ ∃ ys : List Nat, ys.length = i ∧ H' D = some (.lst ((ys.map fun c => (⟨#[c]⟩ : Str)).map V.str)) ∧ ∀ y ∈ ys, 97 ≤ y ∧ y ≤ 122)
        ⟨But.same (same_new hD), S2.up (same_new hD), [], rfl, upd_same, by simp⟩ ?_ ?_
      · rintro i H' hi ⟨B', S', ys, hy, hD', hs⟩
        refine ⟨rfl, _, rfl, _, rfl, st, l, c + 1 + i, _, rfl, S', by omega, by decide, by decide, fun e H'' e0 e1 B'' S'' => ?_⟩
        obtain ⟨j, y, hj, hat⟩ := at_int (xs := letters.cps.toList) e0 (by exact e1)
        refine ⟨letters, e, y, rfl, rfl, by decide, hat, _, B'' _ _ hD' nD.1 nD.2, ?_, (B'.trans B'').put hD, S''.put nD, ys ++ [y], ?_, ?_, fun v hv => ?_⟩
        · rw [List.length_map, List.length_map, hy]
          exact Nat.lt_of_lt_of_le (show i < 1001 by omega) (by decide)
        · rw [List.length_append, hy]
          rfl
        · rw [upd_same, List.map_append, List.map_append]
          rfl
        · rcases List.mem_append.mp hv with g | g
          · exact hs v g
          · rw [List.mem_singleton.mp g]
            exact letters_all y (List.mem_of_getElem? hj)
      · rintro H' ⟨B', S', ys, hy, hD', hs⟩
        refine ⟨_, D, ys.map fun c => ⟨#[c]⟩, rfl, rfl, .inl (SqL.of hD'), ?_, _, none, c + 1 + n, rfl, name_of_letters (by omega) (by omega) hs, B1.trans (B02.trans B'), S', by omega, (Lq.but B02).but B'⟩
        have := names_len (ys := ys.map fun c => (⟨#[c]⟩ : Str)) fun y q => by
          obtain ⟨c, _, rfl⟩ := List.mem_map.mp q
          exact (by decide : 1 ≤ 8)
        have e : (("" : Str).length) = 0 := by decide
        rw [e]
        rw [List.length_map] at this ⊢
        omega
    rintro _ H2 ⟨z, x4, c2, rfl, nz, B2, S2, hc2, Lq2⟩
    -- name = pick(words) if draw(9) == 0 else name
    refine ⟨fun σ H' => ∃ z x4 c', σ = [some (.ref st), some (.ref p), some (.str letters), some (.ref q), x4, some (.str z), none] ∧ IsNm z ∧ But st l H H' ∧ Strm H' st l c' ∧ c' ≤ c + 11, ?_, ?_⟩
    · refine ⟨_, rfl, st, l, c2, _, rfl, S2, by omega, by decide, by decide, fun d H3 d0 d1 B3 S3 => ⟨rfl, _, rfl, ?_⟩⟩
      refine ite2 (fun _ => ?_) (fun _ => ?_)
      · have Lq3 := Lq2.but B3
        refine ⟨_, rfl, _, rfl, .inl ⟨st, l, c2 + 1, q, _, rfl, S3, by omega, Lq3.h, Lq3.n1, Lq3.n2, by decide, by decide, fun j x H4 hx B4 S4 => ?_⟩⟩
        obtain ⟨y, hy, rfl⟩ := List.mem_map.mp (List.mem_of_getElem? hx)
        exact ⟨y, x4, c2 + 1 + 1, rfl, fwords_nm y hy, (B2.trans B3).trans B4, S4, by omega⟩
      · exact ⟨_, rfl, z, x4, c2 + 1, rfl, nz, B2.trans B3, S3, by omega⟩
    rintro _ H3 ⟨z, x4, c3, rfl, nz, B3, S3, hc3⟩
    have L3 := L.but B3
    -- the spare names
    refine ⟨fun σ H' => ∃ x4 x6, σ = [some (.ref st), some (.ref p), some (.str letters), some (.ref q), x4, some (.str z), x6] ∧ H' = H3 ∧ z ∉ zs, ?_, ?_⟩
    · refine ⟨_, rfl, _, rfl, p, _, rfl, .inl (SqL.of L3.h), rfl, flat_strs zs, .inr ⟨_, rfl, _, _, rfl, rfl, .inl ⟨by decide, by decide⟩, ?_⟩⟩
      have fz : (if false = true then !inV (.str z) (zs.map V.str) else inV (.str z) (zs.map V.str)) = decide (z ∈ zs) := inV_strs z zs
      rw [fz]
      by_cases hz : z ∈ zs
      · rw [decide_eq_true hz]
        refine ⟨676, rfl, by decide, by decide, for_range (lo := 0) (n := 676) (fun i σ H' => ∃ x4 x6, σ = [some (.ref st), some (.ref p), some (.str letters), some (.ref q), x4, some (.str z), x6] ∧ H' = H3 ∧ ∀ j, j < i → spare j ∈ zs)
          ⟨x4, none, rfl, rfl, fun j hj => absurd hj (Nat.not_lt_zero j)⟩ ?_ ?_⟩
        · rintro i _ H4 hi ⟨y4, y6, rfl, rfl, hs⟩
          have q1 : (0 + (i : Int)) / 26 = ((i / 26 : Nat) : Int) := by omega
          have q2 : (0 + (i : Int)) % 26 = ((i % 26 : Nat) : Int) := by omega
          refine ⟨fun σ H' => σ = [some (.ref st), some (.ref p), some (.str letters), some (.ref q), some (.int (0 + i)), some (.str z), some (.str (spare i))] ∧ H' = H4, ?_, ?_⟩
          · refine ⟨_, rfl, _, rfl, _, _, rfl, rfl, ⟨by decide, by decide⟩, letters, _, 97 + i / 26, rfl, rfl, by decide, ?_, _, _, rfl, rfl, (show 2 ≤ sizeLine by decide), _, rfl, _, rfl, _, _, rfl, rfl, (by show (0 : Int) < 26; decide), letters, _, 97 + i % 26, rfl, rfl, by decide, ?_, _, _, rfl, rfl, (show 3 ≤ sizeLine by decide), rfl, rfl⟩
            · rw [q1]
              exact atI_nat (letter_at _ (by omega))
            · rw [q2]
              exact atI_nat (letter_at _ (by omega))
          rintro _ _ ⟨rfl, rfl⟩
          refine ⟨_, rfl, _, rfl, p, _, rfl, .inl (SqL.of L3.h), rfl, flat_strs zs, ?_⟩
          have fs : (if true = true then !inV (.str (spare i)) (zs.map V.str) else inV (.str (spare i)) (zs.map V.str)) = !decide (spare i ∈ zs) := congrArg (! ·) (inV_strs (spare i) zs)
          rw [fs]
          by_cases hsp : spare i ∈ zs
          · rw [decide_eq_true hsp]
            refine ⟨_, rfl, iteF ⟨_, _, rfl, rfl, fun j hj => ?_⟩⟩
            rcases Nat.lt_succ_iff_lt_or_eq.mp hj with g | g
            · exact hs j g
            · rw [g]
              exact hsp
          · rw [decide_eq_false hsp]
            exact ⟨_, rfl, iteT ⟨_, rfl, k _ _ c3 (spare_nm hi) hsp B3 S3 hc3⟩⟩
        · rintro _ _ ⟨y4, y6, rfl, rfl, hs⟩
          have := spares_many hs
          omega
      · rw [decide_eq_false hz]
        refine ⟨0, rfl, by decide, by decide, for_range (lo := 0) (n := 0) (fun i σ H' => ∃ x4 x6, σ = [some (.ref st), some (.ref p), some (.str letters), some (.ref q), x4, some (.str z), x6] ∧ H' = H3) ⟨x4, none, rfl, rfl⟩ (fun i _ _ hi => absurd hi (Nat.not_lt_zero i)) ?_⟩
        rintro _ _ ⟨y4, y6, rfl, rfl⟩
        exact ⟨y4, y6, rfl, rfl, hz⟩
    rintro _ _ ⟨x4, x6, rfl, rfl, nin⟩
    exact ⟨_, rfl, k z _ c3 nz nin B3 S3 hc3⟩
end
end T6

set_option maxHeartbeats 3900000
namespace T6
open PySem PySem.Spec PyProof.Rows L2 TL
open C8 (pss_cut tCut pe_gc)
def spPool : Sp := fun vs H Q _ => ∃ (st l : Addr) (c : Nat) (many : Int), vs = [.ref st, .int many] ∧ Strm H st l c ∧ c ≤ 800000 ∧ 0 ≤ many ∧ many ≤ 50 ∧
  ∀ (p : Addr) (zs : List Str) (H' : Hp) (c' : Nat), (zs.length : Int) = many → zs.Nodup → (∀ z ∈ zs, IsNm z) → H p = none → Pool H' st l p zs → But st l H H' → Strm H' st l c' → c' ≤ c + 11 * many.toNat → Q (.ref p) H'
inductive Lk
  | rd (p : List Str)
  | ls (p : List Str)
  | se (n : Str)
  | tl
deriving DecidableEq
abbrev js (p : List Str) : Str := Txt.join "/" p
def lkV : Lk → List V
  | .rd p => [.str "read", .str (js p)]
  | .ls p => [.str "list", .str (js p)]
  | .se n => [.str "setting", .str n]
  | .tl => [.str "tool"]
def LkOn (zs : List Str) (m : Nat) : Lk → Prop
  | .rd p => p ≠ [] ∧ p.length ≤ m ∧ ∀ y ∈ p, y ∈ zs
  | .ls p => p.length ≤ m ∧ ∀ y ∈ p, y ∈ zs
  | .se n => n ∈ zs
  | .tl => True
def spLook : Sp := fun vs H Q _ => ∃ (st l p : Addr) (c : Nat) (zs : List Str), vs = [.ref st, .ref p] ∧ Strm H st l c ∧ c ≤ 800000 ∧ Pool H st l p zs ∧ 0 < zs.length ∧ zs.length < 1000 ∧ (∀ z ∈ zs, IsNm z) ∧
  ∀ (t : Addr) (k : Lk) (H' : Hp) (c' : Nat), LkOn zs 3 k → H t = none → H' t = some (.tup (lkV k)) → But st l H H' → Strm H' st l c' → c' ≤ c + 6 → Q (.ref t) H'
section
variable {P : Program} {w : World} {K : PySem.W.Frag} {mg : Str → Option Value} {base : Heap} {fD fP fPa fFr : Addr} {fdD fdP fdPa fdFr : FuncData}
theorem scPo : FnScope ["_law_stream", "_law_many", "_law_found", "_law_k"] ["_law_stream", "_law_many"] (defScope sPool) := ⟨rfl, rfl, rfl, by decide +kernel, rfl, by decide +kernel, by decide +kernel⟩
theorem But.none {st l p : Addr} {H H' : Hp} (B : But st l H H') (h : H' p = Option.none) (n : p ≠ st ∧ p ≠ l) : H p = Option.none := by
  cases e : H p with
  | none => rfl
  | some o =>
    rw [B p o e n.1 n.2] at h
    cases h
theorem ok_pool {f : Addr} {fd : FuncData} (F : Fun K "_law_pool" "_law_pool" sPool f fd) (T : TB mg) (aFr : At K mg "_law_fresh" fFr fdFr ["_law_stream", "_law_taken"]) (GFr : FnOk P w K mg base CX0 3 fFr fdFr ["_law_stream", "_law_taken"] spFresh) : FnOk P w K mg base CX0 4 f fd ["_law_stream", "_law_many"] spPool := by
  refine F.ok scPo (fun vs H Q E h => ?_) (fun cdv A outer s H vs Q E hr h => ?_)
  · obtain ⟨st, l, c, many, rfl, _⟩ := h
    rfl
  · obtain ⟨st, l, c, many, rfl, S, hc, m0, m1, k⟩ := h
    obtain ⟨n, rfl⟩ := Int.eq_ofNat_of_zero_le m0
    refine ⟨_, pss_cut (ps_set (i := 2) scPo.nd rfl (Or.inl rfl) (pe_lst pa_nil))
        (pss_cut (ps_for PassesOwn.never rfl (pi_range1 rfl T.range (pa_cons (pv 1) pa_nil)) (pg_name (i := 3) scPo.nd rfl (Or.inl rfl)) (pss_one (ps_expr (pe_bm PySem.F.plainAttrs_list PySem.F.slot_list_append PySem.F.type_list_append mt_append (pv 2) (pa_cons (pe_call GFr (hr.mono (by decide)) rfl aFr.m aFr.k aFr.b .nil pass0 (pa_cons (pv 0) (pa_cons (pv 2) pa_nil))) pa_nil)))))
        (pss_one (ps_ret (pv 2)))), ?_⟩
    refine ⟨fun σ H' => ∃ p, σ = [some (.ref st), some (.int n), some (.ref p), none] ∧ H p = none ∧ H' = upd H p (.lst []), ⟨Nat.zero_le _, fun p hp => ⟨p, rfl, hp, rfl⟩⟩, ?_⟩
    rintro _ _ ⟨p, rfl, hp, rfl⟩
    have np := S.ne_new hp
    refine ⟨fun σ H' => ∃ x3 zs, σ = [some (.ref st), some (.int n), some (.ref p), x3] ∧ zs.length = n ∧ zs.Nodup ∧ (∀ z ∈ zs, IsNm z) ∧ Pool H' st l p zs ∧ But st l H H' ∧ ∃ c', Strm H' st l c' ∧ c' ≤ c + 11 * n, ?_, ?_⟩
    · refine ⟨_, rfl, n, rfl, by omega, by omega, for_range (lo := 0) (n := n) (fun i σ H' => ∃ x3 zs, σ = [some (.ref st), some (.int n), some (.ref p), x3] ∧ zs.length = i ∧ zs.Nodup ∧ (∀ z ∈ zs, IsNm z) ∧ Pool H' st l p zs ∧ But st l H H' ∧ ∃ c', Strm H' st l c' ∧ c' ≤ c + 11 * i)
        ⟨none, [], rfl, rfl, List.nodup_nil, by simp, ⟨upd_same, np.1, np.2⟩, But.same (same_new hp), c, S.up (same_new hp), by omega⟩ ?_ fun _ _ h => h⟩
      rintro i _ H1 hi ⟨x3, zs, rfl, hz, nd, nm, L, B, c1, S1, hc1⟩
      refine ⟨_, rfl, .inl ⟨rfl, _, SqL.of L.h⟩, _, rfl, _, rfl, st, l, p, c1, zs, rfl, S1, by omega, L, by omega, fun z H2 c2 nz nin B2 S2 hc2 => ?_⟩
      have L2 := L.but B2
      refine ⟨p, _, _, rfl, rfl, L2.h, ?_, _, zs ++ [z], rfl, by rw [List.length_append, hz]; rfl, List.nodup_append.mpr ⟨nd, List.nodup_cons.mpr ⟨by simp, List.nodup_nil⟩, ?_⟩, ?_, ⟨?_, L2.n1, L2.n2⟩, (B.trans B2).put hp, c2, S2.put np, by omega⟩
      · rw [List.length_map, hz]
        exact Nat.lt_of_lt_of_le (show i < 1001 by omega) (by decide)
      · intro a ha b hb e
        rw [e, List.mem_singleton.mp hb] at ha
        exact nin ha
      · intro y hy
        rcases List.mem_append.mp hy with q | q
        · exact nm y q
        · rw [List.mem_singleton.mp q]
          exact nz
      · rw [upd_same, List.map_append]
        rfl
    rintro _ H2 ⟨x3, zs, rfl, hz, nd, nm, L, B, c', S', hc'⟩
    exact ⟨_, rfl, k p zs H2 c' (by omega) nd nm hp L B S' (by omega)⟩
theorem scLo : FnScope ["_law_stream", "_law_pool_here", "_law_way"] ["_law_stream", "_law_pool_here"] (defScope sLook) := ⟨rfl, rfl, rfl, by decide +kernel, rfl, by decide +kernel, by decide +kernel⟩
theorem ok_look {f : Addr} {fd : FuncData} (F : Fun K "_law_look" "_law_look" sLook f fd) (T : TB mg) (aD : aD' K mg fD fdD) (aP : At K mg "_law_pick" fP fdP ["_law_stream", "_law_things"]) (aPa : At K mg "_law_path" fPa fdPa ["_law_stream", "_law_pool_here", "_law_most"]) (GD : FnOk P w K mg base CX0 1 fD fdD ["_law_stream", "_law_many"] spDraw)
    (GP : FnOk P w K mg base CX0 2 fP fdP ["_law_stream", "_law_things"] spPick) (GPa : FnOk P w K mg base CX0 3 fPa fdPa ["_law_stream", "_law_pool_here", "_law_most"] spPath) : FnOk P w K mg base CX0 4 f fd ["_law_stream", "_law_pool_here"] spLook := by
  refine F.ok scLo (fun vs H Q E h => ?_) (fun cdv A outer s H vs Q E hr h => ?_)
  · obtain ⟨st, l, p, c, zs, rfl, _⟩ := h
    rfl
  · obtain ⟨st, l, p, c, zs, rfl, S, hc, L, z0, z1, nm, k⟩ := h
    refine ⟨_, pss_cut (ps_set (i := 2) scLo.nd rfl (Or.inl rfl) (pe_call GD (hr.mono (by decide)) rfl aD.m aD.k aD.b .nil pass0 (pa_cons (pv 0) (pa_cons pe_int pa_nil))))
        (pss_cons (ps_if (pt_cmpR op_lt (pv 2) pe_int (nomark _)) (pss_one (ps_ret (pe_tup (pa_cons pe_str (pa_cons (pe_call GPa (hr.mono (by decide)) rfl aPa.m aPa.k aPa.b .nil pass0 (pa_cons (pv 0) (pa_cons (pv 1) (pa_cons pe_int pa_nil)))) pa_nil))))) (pss_nil))
        (pss_cons (ps_if (pt_cmpR op_lt (pv 2) pe_int (nomark _)) (pss_one (ps_ret (pe_tup (pa_cons pe_str (pa_cons (pe_ifExp (pt_cmpR op_eq (pe_call GD (hr.mono (by decide)) rfl aD.m aD.k aD.b .nil pass0 (pa_cons (pv 0) (pa_cons pe_int pa_nil))) pe_int (nomark _)) pe_str (pe_call GPa (hr.mono (by decide)) rfl aPa.m aPa.k aPa.b .nil pass0 (pa_cons (pv 0) (pa_cons (pv 1) (pa_cons pe_int pa_nil))))) pa_nil))))) (pss_nil))
        (pss_one (ps_ret (pe_ifExp (pt_cmpR op_eq (pv 2) pe_int (nomark _)) (pe_tup (pa_cons pe_str (pa_cons (pe_call GP (hr.mono (by decide)) rfl aP.m aP.k aP.b .nil pass0 (pa_cons (pv 0) (pa_cons (pv 1) pa_nil))) pa_nil))) (pe_tup (pa_cons pe_str pa_nil))))))), ?_⟩
    refine ⟨fun σ H' => ∃ d : Int, σ = [some (.ref st), some (.ref p), some (.int d)] ∧ But st l H H' ∧ Strm H' st l (c + 1), ⟨_, rfl, st, l, c, _, rfl, S, by omega, by decide, by decide, fun d H' d0 d1 B S' => ⟨d, rfl, B, S'⟩⟩, ?_⟩
    rintro _ H1 ⟨d, rfl, B1, S1⟩
    have L1 := L.but B1
    have fin : ∀ (k' : Lk) (H2 : Hp) (c2 : Nat) (t : Addr), LkOn zs 3 k' → But st l H1 H2 → Strm H2 st l c2 → c2 ≤ c + 6 → H2 t = none → Q (.ref t) (upd H2 t (.tup (lkV k'))) := fun k' H2 c2 t o B2 S2 hc2 ht =>
      k t k' _ c2 o (But.none (B1.trans B2) ht (S2.ne_new ht)) upd_same ((B1.trans B2).put (But.none (B1.trans B2) ht (S2.ne_new ht))) (S2.up (same_new ht)) hc2
    refine ⟨_, rfl, _, _, rfl, rfl, _, rfl, ite2 (fun _ => ?_) (fun _ => ?_)⟩
    · refine ⟨_, rfl, _, rfl, st, l, p, c + 1, zs, 3, rfl, S1, by omega, L1, z0, z1, nm, by decide, by decide, fun ys H2 c2 y1 y2 hy B2 S2 hc2 => ⟨by show 2 ≤ sizeLine; decide, fun t ht => ?_⟩⟩
      exact fin (.rd ys) H2 c2 t ⟨by rintro rfl; exact absurd y1 (by decide), by omega, hy⟩ B2 S2 (by omega) ht
    refine ⟨_, rfl, _, _, rfl, rfl, _, rfl, ite2 (fun _ => ?_) (fun _ => ?_)⟩
    · refine ⟨_, rfl, st, l, c + 1, _, rfl, S1, by omega, by decide, by decide, fun e H2 e0 e1 B2 S2 => ⟨rfl, _, rfl, ite2 (fun _ => ?_) (fun _ => ?_)⟩⟩
      · exact ⟨by show 2 ≤ sizeLine; decide, fun t ht => fin (.ls []) H2 _ t ⟨Nat.zero_le _, by simp⟩ B2 S2 (by omega) ht⟩
      · refine ⟨_, rfl, _, rfl, st, l, p, c + 1 + 1, zs, 2, rfl, S2, by omega, L1.but B2, z0, z1, nm, by decide, by decide, fun ys H3 c3 y1 y2 hy B3 S3 hc3 => ⟨by show 2 ≤ sizeLine; decide, fun t ht => ?_⟩⟩
        exact fin (.ls ys) H3 c3 t ⟨by omega, hy⟩ (B2.trans B3) S3 (by omega) ht
    refine ⟨_, rfl, rfl, _, rfl, ite2 (fun _ => ?_) (fun _ => ?_)⟩
    · refine ⟨_, rfl, _, rfl, .inl ⟨st, l, c + 1, p, _, rfl, S1, by omega, L1.h, L1.n1, L1.n2, by rw [List.length_map]; exact z0, by rw [List.length_map]; exact z1, fun i x H2 hx B2 S2 => ⟨by show 2 ≤ sizeLine; decide, fun t ht => ?_⟩⟩⟩
      obtain ⟨z, hz, rfl⟩ := List.mem_map.mp (List.mem_of_getElem? hx)
      exact fin (.se z) H2 _ t hz B2 S2 (by omega) ht
    · exact ⟨by show 1 ≤ sizeLine; decide, fun t ht => fin .tl H1 _ t trivial (fun _ _ e _ _ => e) S1 (by omega) ht⟩
end
end T6

set_option maxHeartbeats 3900000
namespace T6
open PySem PySem.Spec PyProof.Rows L2 TL
theorem tl_sl : tl ("/" : Str) = [47] := by decide +kernel
def Nms (p : List Str) : Prop := ∀ y ∈ p, IsNm y
instance (p : List Str) : Decidable (Nms p) := by unfold Nms; infer_instance
abbrev jl (p : List Str) : List Nat := joinL [47] (p.map tl)
theorem tl_js (p : List Str) : tl (js p) = jl p := by
  show tl (Txt.join "/" p) = jl p
  rw [join_eq, tl_join, tl_sl]
theorem nm_free {y : Str} (h : IsNm y) : 47 ∉ tl y := fun m => by
  have := h.2.2 47 m
  omega
theorem nm_ne {y : Str} (h : IsNm y) : tl y ≠ [] := fun e => by
  have h1 := h.1
  rw [len_tl, e] at h1
  exact absurd h1 (by decide)
theorem Nms.tail {y : Str} {p : List Str} (h : Nms (y :: p)) : Nms p := fun z hz => h z (List.mem_cons_of_mem _ hz)
theorem jl_app : ∀ {q r : List Str}, q ≠ [] → r ≠ [] → jl (q ++ r) = jl q ++ 47 :: jl r
  | [], _, h, _ => absurd rfl h
  | [y], [], _, h => absurd rfl h
  | [y], z :: r, _, _ => rfl
  | y :: z :: q, r, _, hr => by
    have ih := jl_app (q := z :: q) (r := r) (by simp) hr
    show tl y ++ ([47] ++ jl (z :: q ++ r)) = (tl y ++ ([47] ++ jl (z :: q))) ++ 47 :: jl r
    rw [ih]
    simp
theorem jl_ne {p : List Str} (hp : Nms p) (h : p ≠ []) : jl p ≠ [] := by
  match p, h with
  | y :: r, _ =>
    intro e
    have hy := nm_ne (hp y List.mem_cons_self)
    cases r with
    | nil => exact hy e
    | cons z r =>
      have e2 : tl y ++ ([47] ++ jl (z :: r)) = [] := e
      exact hy (List.append_eq_nil_iff.mp e2).1
theorem split_js {p : List Str} (hp : Nms p) (h : p ≠ []) : Txt.split (js p) "/" = p :=
  split_join (s := 47) (S := []) tl_sl (by decide +kernel) h fun y hy => nm_free (hp y hy)
theorem js_one (y : Str) : js [y] = y := ext_tl (by rw [tl_js]; rfl)
theorem js_ne {p : List Str} (hp : Nms p) (h : p ≠ []) : js p ≠ "" := fun e => by
  have e2 := congrArg tl e
  rw [tl_js] at e2
  exact jl_ne hp h e2
theorem js_inj {p q : List Str} (hp : Nms p) (hq : Nms q) (e : js p = js q) : p = q := by
  by_cases h1 : p = []
  · by_cases h2 : q = []
    · rw [h1, h2]
    · rw [h1] at e
      exact absurd e.symm (js_ne hq h2)
  · by_cases h2 : q = []
    · rw [h2] at e
      exact absurd e (js_ne hp h1)
    · rw [← split_js hp h1, e, split_js hq h2]
def ben (p q : List Str) : Bool := q.isPrefixOf p && decide (q.length < p.length)
theorem ben_iff {p q : List Str} : ben p q = true ↔ ∃ r, r ≠ [] ∧ p = q ++ r := by
  unfold ben
  rw [Bool.and_eq_true, List.isPrefixOf_iff_prefix, decide_eq_true_iff]
  constructor
  · rintro ⟨⟨r, rfl⟩, h⟩
    refine ⟨r, ?_, rfl⟩
    rintro rfl
    simp at h
  · rintro ⟨r, hr, rfl⟩
    refine ⟨⟨r, rfl⟩, ?_⟩
    have := List.length_pos_iff.mpr hr
    rw [List.length_append]
    omega
theorem spl_ne (S : List Nat) : ∀ (k : Nat) (acc l : List Nat), spl S k acc l ≠ []
  | k, acc, [] => by
    rw [spl_nil]
    simp
  | 0, acc, c :: r => by
    unfold spl
    by_cases h : pre S (c :: r) = true
    · rw [if_pos h]
      simp
    · rw [if_neg h]
      exact spl_ne S 0 _ r
  | k + 1, acc, _ :: r => spl_ne S k acc r
theorem spl_pre : ∀ {q : List Str} {t : List Nat}, q ≠ [] → Nms q → spl [47] 0 [] (jl q ++ 47 :: t) = q.map tl ++ spl [47] 0 [] t
  | [], _, h, _ => absurd rfl h
  | [y], t, _, hq => by
    have e := spl_part1 (s := 47) (S := []) (acc := []) (p := tl y) (rest := t) (nm_free (hq y List.mem_cons_self))
    exact e
  | y :: z :: r, t, _, hq => by
    have e := spl_part1 (s := 47) (S := []) (acc := []) (p := tl y) (rest := jl (z :: r) ++ 47 :: t) (nm_free (hq y List.mem_cons_self))
    have ih := spl_pre (q := z :: r) (t := t) (by simp) hq.tail
    have e2 : jl (y :: z :: r) ++ 47 :: t = tl y ++ ([47] ++ (jl (z :: r) ++ 47 :: t)) := by
      show tl y ++ ([47] ++ jl (z :: r)) ++ 47 :: t = _
      simp
    rw [e2]
    refine e.trans ?_
    rw [ih]
    rfl
theorem spl_js {p : List Str} (hp : Nms p) (h : p ≠ []) : spl [47] 0 [] (jl p) = p.map tl :=
  spl_join (s := 47) (S := []) (by simpa using h) fun z hz => by
    obtain ⟨y, hy, rfl⟩ := List.mem_map.mp hz
    exact nm_free (hp y hy)
theorem under {p q : List Str} (hp : Nms p) (hq : Nms q) (h : q ≠ []) : (jl q ++ [47]) <+: jl p ↔ ben p q = true := by
  rw [ben_iff]
  constructor
  · rintro ⟨t, e⟩
    have e1 : jl p = jl q ++ 47 :: t := by
      rw [← e]
      simp
    have hp0 : p ≠ [] := by
      rintro rfl
      have : ([] : List Nat) = jl q ++ 47 :: t := e1
      simp at this
    have e2 := spl_js hp hp0
    rw [e1, spl_pre h hq] at e2
    have e3 : (p.take q.length).map tl = q.map tl := by
      rw [List.map_take, ← e2]
      rw [show q.length = (q.map tl).length by rw [List.length_map], List.take_left']
      rfl
    have e4 := map_tl_inj e3
    refine ⟨p.drop q.length, ?_, ?_⟩
    · intro z
      have z2 : p.length ≤ q.length := List.drop_eq_nil_iff.mp z
      have z3 := congrArg List.length e2
      rw [List.length_append, List.length_map, List.length_map] at z3
      have z4 := List.length_pos_iff.mpr (spl_ne [47] 0 [] t)
      omega
    · conv => lhs; rw [← List.take_append_drop q.length p]
      rw [e4]
  · rintro ⟨r, hr, rfl⟩
    rw [jl_app h hr]
    exact ⟨jl r, by simp⟩
end T6

set_option maxHeartbeats 3900000
namespace T6
open PySem PySem.Spec PyProof.Rows L2 TL
theorem js_cons (y : Str) {r : List Str} (h : r ≠ []) : js (y :: r) = y ++ "/" ++ js r := by
  refine ext_tl ?_
  rw [tl_js, tl_append, tl_append, tl_js, tl_sl]
  show jl ([y] ++ r) = _
  rw [jl_app (by simp) h]
  show tl y ++ 47 :: jl r = _
  simp
def ent (n : Str) (b : Bool) : Str := if b = true then n ++ "/" else n
theorem tl_ent (n : Str) (b : Bool) : tl (ent n b) = tl n ++ if b = true then [47] else [] := by
  unfold ent
  cases b
  · simp
  · rw [if_pos rfl, tl_append, tl_sl, if_pos rfl]
theorem ent_inj {n m : Str} {b c : Bool} (hn : IsNm n) (hm : IsNm m) (e : ent n b = ent m c) : n = m ∧ b = c := by
  have h := congrArg tl e
  rw [tl_ent, tl_ent] at h
  cases b <;> cases c
  · simp only [Bool.false_eq_true, if_false, List.append_nil] at h
    exact ⟨ext_tl h, rfl⟩
  · simp only [Bool.false_eq_true, if_false, List.append_nil, if_true] at h
    exact absurd (by rw [h]; simp) (nm_free hn)
  · simp only [Bool.false_eq_true, if_false, List.append_nil, if_true] at h
    exact absurd (by rw [← h]; simp) (nm_free hm)
  · simp only [if_true] at h
    exact ⟨ext_tl (List.append_cancel_right h), rfl⟩
theorem ew (x y : Str) : Txt.endswith x y = (decide ((tl y).length ≤ (tl x).length) && decide ((tl x).drop ((tl x).length - (tl y).length) = tl y)) := by
  show (decide (0 + y.length ≤ x.length) && Builtin.Str.subAt x y (x.length - y.length)) = _
  rw [PySem.StrLaws.subAt_eq, len_tl, len_tl, Nat.zero_add]
  by_cases h : (tl y).length ≤ (tl x).length
  · rw [decide_eq_true h, Bool.true_and, Bool.true_and]
    have e : (((tl x).drop ((tl x).length - (tl y).length)).take (tl y).length) = (tl x).drop ((tl x).length - (tl y).length) := List.take_of_length_le (by rw [List.length_drop]; omega)
    have e5 : (((tl x).drop ((tl x).length - (tl y).length)).take (tl y).length == tl y) = ((tl x).drop ((tl x).length - (tl y).length) == tl y) := by rw [e]
    refine e5.trans ?_
    apply Bool.eq_iff_iff.mpr
    rw [beq_iff_eq, decide_eq_true_iff]
  · rw [decide_eq_false h]
    rfl
theorem last_drop (u : List Nat) (c : Nat) : (u ++ [c]).drop ((u ++ [c]).length - 1) = [c] := by
  rw [show (u ++ [c]).length - 1 = u.length by simp, List.drop_left']
  rfl
theorem last_free {u : List Nat} (h : 47 ∉ u) : u.drop (u.length - 1) ≠ [47] := fun e => h (by
  have : 47 ∈ u.drop (u.length - 1) := by
    rw [e]
    simp
  exact List.mem_of_mem_drop this)
theorem ew_ent {n : Str} (hn : IsNm n) (b : Bool) : Txt.endswith (ent n b) "/" = b := by
  rw [ew, tl_sl, tl_ent]
  cases b
  · simp only [Bool.false_eq_true, if_false, List.append_nil]
    rw [decide_eq_false (p := (tl n).drop ((tl n).length - [47].length) = [47]) (last_free (nm_free hn)), Bool.and_false]
  · simp only [if_true]
    rw [decide_eq_true (by simp), Bool.true_and]
    exact decide_eq_true (last_drop _ _)
theorem tl_sub (x : Str) (i j : Nat) : tl (Builtin.Str.strSub x i j) = ((tl x).drop i).take (j - i) := tl_strSub x i j
theorem rms {x y : Str} (h : Txt.endswith x y = true) : tl (Txt.removesuffix x y) = (tl x).take ((tl x).length - (tl y).length) := by
  have h2 : (decide (y.length ≤ x.length) && Builtin.Str.subAt x y (x.length - y.length)) = true := by
    rw [← h]
    show _ = (decide (0 + y.length ≤ x.length) && Builtin.Str.subAt x y (x.length - y.length))
    rw [Nat.zero_add]
  show tl (Txt.affix x (if (decide (y.length ≤ x.length) && Builtin.Str.subAt x y (x.length - y.length)) = true then some (0, x.length - y.length) else none)) = _
  rw [if_pos h2]
  show tl (if x.length - y.length - 0 == x.length then x else Builtin.Str.strSub x 0 (x.length - y.length)) = _
  rw [len_tl, len_tl]
  by_cases e : ((tl x).length - (tl y).length - 0 == (tl x).length) = true
  · rw [if_pos e]
    rw [beq_iff_eq] at e
    rw [List.take_of_length_le (by omega)]
  · rw [if_neg e, tl_sub, List.drop_zero]
    rfl
theorem rms_no {x y : Str} (h : Txt.endswith x y = false) : Txt.removesuffix x y = x := by
  have h2 : (decide (y.length ≤ x.length) && Builtin.Str.subAt x y (x.length - y.length)) = false := by
    rw [← h]
    show _ = (decide (0 + y.length ≤ x.length) && Builtin.Str.subAt x y (x.length - y.length))
    rw [Nat.zero_add]
  show Txt.affix x (if (decide (y.length ≤ x.length) && Builtin.Str.subAt x y (x.length - y.length)) = true then some (0, x.length - y.length) else none) = _
  rw [if_neg (by rw [h2]; simp)]
  rfl
theorem rms_ent {n : Str} (hn : IsNm n) (b : Bool) : Txt.removesuffix (ent n b) "/" = n := by
  cases b
  · exact rms_no (ew_ent hn false)
  · refine ext_tl ?_
    rw [rms (ew_ent hn true), tl_ent, tl_sl]
    simp
end T6

set_option maxHeartbeats 3900000
namespace T6
open PySem PySem.Spec PyProof.Rows L2 TL
open C8 (pss_cut tCut pe_gc)
open CB
abbrev sIsName : Stmt := top 9
abbrev sIsPath : Stmt := top 10
abbrev sIsPlace : Stmt := top 11
def Sh (z : Str) : Prop := z.length ≤ 1000
theorem Sh.line {z : Str} (h : Sh z) : z.length ≤ sizeLine := Nat.le_trans h (by decide)
theorem js_len : ∀ {p : List Str}, Nms p → (js p).length ≤ 9 * p.length
  | [], _ => Nat.le_of_eq rfl
  | [y], h => by
    rw [js_one]
    have := (h y List.mem_cons_self).2.1
    show y.length ≤ 9
    omega
  | y :: z :: r, h => by
    have ih := js_len (p := z :: r) h.tail
    have := (h y List.mem_cons_self).2.1
    rw [js_cons y (by simp), len_tl, tl_append, tl_append, List.length_append, List.length_append, tl_sl, ← len_tl, ← len_tl]
    show y.length + 1 + (js (z :: r)).length ≤ _
    rw [List.length_cons (a := y)]
    omega
theorem js_sh {p : List Str} (h : Nms p) (hl : p.length ≤ 100) : Sh (js p) := by
  have := js_len h
  unfold Sh
  omega
theorem nm_sh {y : Str} (h : IsNm y) : Sh y := by
  have := h.2.1
  unfold Sh
  omega
structure TPk (mg : Str → Option Value) : Prop where
  b : TB mg
  STROKE : ∃ t, mg "STROKE" = some (.str "/" t)
  ROOT : ∃ t, mg "ROOT" = some (.str "" t)
  LETTERS : ∃ t, mg "LETTERS" = some (.str letters t)
  LONGEST : ∃ t, mg "LONGEST" = some (.int 8 t)
def spS1 (C : Str → Prop) (g : Str → V) : Sp := fun vs H Q _ => ∃ z, vs = [.str z] ∧ C z ∧ ∀ H', Same H H' → Q (g z) H'
abbrev spIsName : Sp := spS1 Sh fun z => .bl (decide (IsNm z))
def spIsPath : Sp := fun vs H Q _ => ∃ p, vs = [.str (js p)] ∧ Nms p ∧ p.length ≤ 100 ∧ ∀ H', Same H H' → Q (.bl (decide (p ≠ []))) H'
def spIsPlace : Sp := fun vs H Q _ => ∃ p, vs = [.str (js p)] ∧ Nms p ∧ p.length ≤ 100 ∧ ∀ H', Same H H' → Q (.bl true) H'
theorem isNm_eq (z : Str) : decide (IsNm z) = (decide (1 ≤ z.length) && decide (z.length ≤ 8) && (tl z).all fun c => decide (c ∈ letters.cps.toList)) := by
  apply Bool.eq_iff_iff.mpr
  rw [decide_eq_true_iff, Bool.and_eq_true, Bool.and_eq_true, decide_eq_true_iff, decide_eq_true_iff, List.all_eq_true]
  constructor
  · rintro ⟨h1, h2, h3⟩
    refine ⟨⟨h1, h2⟩, fun c hc => decide_eq_true ?_⟩
    obtain ⟨a, b⟩ := h3 c hc
    have := letter_at (c - 97) (by omega)
    rw [show 97 + (c - 97) = c by omega] at this
    exact List.mem_of_getElem? this
  · rintro ⟨⟨h1, h2⟩, h3⟩
    exact ⟨h1, h2, fun c hc => letters_all c (of_decide_eq_true (h3 c hc))⟩
section
variable {P : Program} {w : World} {K : PySem.W.Frag} {mg : Str → Option Value} {base : Heap}
theorem scIsName : FnScope ["thing", "letter"] ["thing"] (defScope sIsName) := ⟨rfl, rfl, rfl, by decide +kernel, rfl, by decide +kernel, by decide +kernel⟩
theorem ok_isName {f : Addr} {fd : FuncData} (F : Fun K "is_name" "is_name" sIsName f fd) (T0 : TPk mg) : FnOk P w K mg base CX0 1 f fd ["thing"] spIsName := by
  have T := T0.b
  obtain ⟨t1, mLETTERS⟩ := T0.LETTERS
  obtain ⟨t2, mLONGEST⟩ := T0.LONGEST
  refine F.ok scIsName (fun vs H Q E h => ?_) (fun cdv A outer s H vs Q E hr h => ?_)
  · obtain ⟨z, rfl, _⟩ := h
    rfl
  · obtain ⟨z, rfl, hz, k⟩ := h
    refine ⟨_, pss_cons (ps_if (PW.pt (pw_or (pt_not (pt_val (pe_callB call_isi (by rfl) T.isinstance (by decide +kernel) (pa_cons (pv 0) (pa_cons (pe_bltn (v := .ty "str") (by rfl) T.str (by decide +kernel) rfl) pa_nil))))) (pw_or1 (pt_not (pt_chain op_le op_le pe_int (pe_callB call_len_str (by rfl) T.len PySem.boot_len (pa_cons (pv 0) pa_nil)) (pe_glob (v := .int 8) rfl mLONGEST ⟨_, rfl⟩)))))) (pss_one (ps_ret pe_bl)) (pss_nil))
        (pss_one (ps_ret (pe_callB (cr_all rfl) (by rfl) T.all boot_all (pa_cons (pe_lc (own := [("letter", 1)]) (g := gName 1) (tt := tYes) rfl scIsName.nd (pi_str (pv 0)) (blkOk_by (own := [("letter", 1)]) (N := ["thing", "letter"]) (sc := defScope sIsName) (by decide +kernel)) (fun _ _ _ _ _ => (pg_name (i := 1) scIsName.nd rfl (Or.inl rfl))) (fun _ _ _ _ _ => pts_nil) (fun _ _ _ _ _ => (pe_cmpR op_in_sign (pv 1) (pe_glob (v := .str letters) rfl mLETTERS ⟨_, rfl⟩) (by rfl)))) pa_nil)))), ?_⟩
    refine ⟨_, rfl, _, _, .type "str", .type "str", true, rfl, .ty "str", .base (.str _), kit_ty (by decide +kernel), _, rfl, iteF ⟨_, rfl, _, rfl, hz.line, _, _, rfl, rfl, _, rfl, ?_⟩⟩
    have k : ∀ H', Same H H' → Q (.bl (decide (IsNm z))) H' := k
    rw [isNm_eq] at k
    by_cases h1 : 1 ≤ z.length
    · rw [decide_eq_true (show (1 : Int) ≤ (z.length : Int) by omega)]
      rw [decide_eq_true h1, Bool.true_and] at k
      refine iteT ⟨_, _, rfl, rfl, _, rfl, ?_⟩
      by_cases h8 : z.length ≤ 8
      · rw [decide_eq_true (show ((z.length : Nat) : Int) ≤ (8 : Int) by omega)]
        rw [decide_eq_true h8, Bool.true_and] at k
        refine iteF ⟨_, rfl, z, rfl, fun D hD => ?_⟩
        refine lc_mapS z (fun c => .bl (decide (c ∈ letters.cps.toList))) (by omega) hD ?_ ?_
        · intro c hc H2 s2 Q1 k1
          exact ⟨_, rfl, c, letters, rfl, rfl, k1 H2 (Same.refl H2)⟩
        · intro H' s' hD'
          exact all_of _ _ hD' (k H' s')
      · rw [decide_eq_false (show ¬ ((z.length : Nat) : Int) ≤ (8 : Int) by omega)]
        rw [decide_eq_false h8, Bool.false_and] at k
        exact iteT (k H (Same.refl H))
    · rw [decide_eq_false (show ¬ (1 : Int) ≤ (z.length : Int) by omega)]
      rw [decide_eq_false h1, Bool.false_and, Bool.false_and] at k
      exact iteF ⟨_, rfl, iteT (k H (Same.refl H))⟩
theorem scIsPath : FnScope ["thing", "part"] ["thing"] (defScope sIsPath) := ⟨rfl, rfl, rfl, by decide +kernel, rfl, by decide +kernel, by decide +kernel⟩
theorem ok_isPath {f fN : Addr} {fd fdN : FuncData} (F : Fun K "is_path" "is_path" sIsPath f fd) (T0 : TPk mg) (aIsName : At K mg "is_name" fN fdN ["thing"]) (GIsName : FnOk P w K mg base CX0 1 fN fdN ["thing"] spIsName) : FnOk P w K mg base CX0 2 f fd ["thing"] spIsPath := by
  have T := T0.b
  obtain ⟨t1, mSTROKE⟩ := T0.STROKE
  refine F.ok scIsPath (fun vs H Q E h => ?_) (fun cdv A outer s H vs Q E hr h => ?_)
  · obtain ⟨z, rfl, _⟩ := h
    rfl
  · obtain ⟨p, rfl, hp, hl, k⟩ := h
    refine ⟨_, pss_one (ps_ret (pe_and (pe_callB call_isi (by rfl) T.isinstance (by decide +kernel) (pa_cons (pv 0) (pa_cons (pe_bltn (v := .ty "str") (by rfl) T.str (by decide +kernel) rfl) pa_nil))) (pe_one (pe_callB (cr_all rfl) (by rfl) T.all boot_all (pa_cons (pe_lc (own := [("part", 1)]) (g := gName 1) (tt := tYes) rfl scIsPath.nd (pi_list (pe_bm PySem.F.plainAttrs_str PySem.F.slot_str_split PySem.F.type_str_split mt_split (pv 0) (pa_cons (pe_glob (v := .str "/") rfl mSTROKE ⟨_, rfl⟩) pa_nil))) (blkOk_by (own := [("part", 1)]) (N := ["thing", "part"]) (sc := defScope sIsPath) (by decide +kernel)) (fun _ _ _ _ _ => (pg_name (i := 1) scIsPath.nd rfl (Or.inl rfl))) (fun _ _ _ _ _ => pts_nil) (fun _ _ _ _ _ => (pe_call GIsName (hr.mono (by decide)) rfl aIsName.m aIsName.k aIsName.b .nil pass0 (pa_cons (pv 1) pa_nil)))) pa_nil))))), ?_⟩
    have hs := js_sh hp hl
    obtain ⟨ys, e1, e2, e3⟩ : ∃ ys, Txt.split (js p) "/" = ys ∧ (∀ y ∈ ys, Sh y) ∧ (ys.length < 1000000 ∧ ys.all (fun y => decide (IsNm y)) = decide (p ≠ [])) := by
      by_cases h : p = []
      · subst h
        refine ⟨[""], by decide +kernel, ?_, by decide, by decide +kernel⟩
        intro y hy
        rw [List.mem_singleton.mp hy]
        exact Nat.zero_le _
      · refine ⟨p, split_js hp h, fun y hy => nm_sh (hp y hy), by omega, ?_⟩
        rw [decide_eq_true h, List.all_eq_true]
        exact fun y hy => decide_eq_true (hp y hy)
    refine ⟨_, rfl, _, _, .type "str", .type "str", true, rfl, .ty "str", .base (.str _), kit_ty (by decide +kernel), true, rfl, iteT ⟨_, rfl, rfl, js p, "/", rfl, rfl, rfl, ?_, fun l hl' => ⟨l, rfl, ⟨_, SqL.of upd_same⟩, fun D hD => ?_⟩⟩⟩
    · have := hs
      unfold Sh at this
      exact Nat.le_trans (show (js p).length + 2 ≤ 1002 by omega) (by decide)
    · rw [e1] at hD ⊢
      have s1 : Same H (upd H l (.lst (ys.map V.str))) := same_mk hl'
      refine lc_mapL ys V.str (fun y => .bl (decide (IsNm y))) e3.1 hD (SqL.of upd_same) ?_ ?_
      · intro y hy H2 s2 Q1 k1
        exact ⟨_, rfl, y, rfl, e2 y hy, k1⟩
      · intro H' s' hD'
        refine all_of _ _ hD' ?_
        rw [e3.2]
        exact k H' (s1.trans s')
theorem scIsPlace : FnScope ["thing"] ["thing"] (defScope sIsPlace) := ⟨rfl, rfl, rfl, by decide +kernel, rfl, by decide +kernel, by decide +kernel⟩
theorem ok_isPlace {f fN : Addr} {fd fdN : FuncData} (F : Fun K "is_place" "is_place" sIsPlace f fd) (T0 : TPk mg) (aIsPath : At K mg "is_path" fN fdN ["thing"]) (GIsPath : FnOk P w K mg base CX0 2 fN fdN ["thing"] spIsPath) : FnOk P w K mg base CX0 3 f fd ["thing"] spIsPlace := by
  have T := T0.b
  obtain ⟨t1, mROOT⟩ := T0.ROOT
  refine F.ok scIsPlace (fun vs H Q E h => ?_) (fun cdv A outer s H vs Q E hr h => ?_)
  · obtain ⟨z, rfl, _⟩ := h
    rfl
  · obtain ⟨p, rfl, hp, hl, k⟩ := h
    refine ⟨_, pss_one (ps_ret (pe_or (pe_call GIsPath (hr.mono (by decide)) rfl aIsPath.m aIsPath.k aIsPath.b .nil pass0 (pa_cons (pv 0) pa_nil)) (pe_one (pe_and (pe_callB call_isi (by rfl) T.isinstance (by decide +kernel) (pa_cons (pv 0) (pa_cons (pe_bltn (v := .ty "str") (by rfl) T.str (by decide +kernel) rfl) pa_nil))) (pe_one (pe_cmpR op_eq (pv 0) (pe_glob (v := .str "") rfl mROOT ⟨_, rfl⟩) (nomark _))))))), ?_⟩
    refine ⟨_, rfl, p, rfl, hp, hl, fun H1 s1 => ⟨_, rfl, ?_⟩⟩
    by_cases h : p = []
    · rw [decide_eq_false (not_not_intro h)]
      subst h
      exact iteF ⟨_, rfl, _, _, .type "str", .type "str", true, rfl, .ty "str", .base (.str _), kit_ty (by decide +kernel), _, rfl, iteT ⟨_, rfl, rfl, k H1 s1⟩⟩
    · rw [decide_eq_true h]
      exact iteT (k H1 s1)
end
end T6

set_option maxHeartbeats 3900000
namespace T6
open PySem PySem.Spec PyProof.Rows L2 TL
open C8 (pss_cut tCut pe_gc)
open CB
abbrev sRow : Stmt := top 13
abbrev sAsLook : Stmt := top 14
abbrev sCanLook : Stmt := top 15
abbrev sCanShow : Stmt := top 16
abbrev sIsListing : Stmt := top 17
abbrev sIsEntry : Stmt := top 18
abbrev sAsSight : Stmt := top 19
inductive An
  | no
  | tx (z : Str)
  | es (l : List (Str × Bool))
deriving DecidableEq
def entV (e : Str × Bool) : V := .str (ent e.1 e.2)
def AnIn (H : Hp) (v : V) : An → Prop
  | .no => v = .non
  | .tx z => v = .str z
  | .es l => RowAt H v (l.map entV)
def AnAt (H : Hp) (v : V) : An → Prop
  | .no => v = .non
  | .tx z => v = .str z
  | .es l => ∃ a, v = .ref a ∧ H a = some (.tup (l.map entV))
def SiIn (H : Hp) (v : V) (s : Lk × An) : Prop := ∃ vk va, RowAt H v [vk, va] ∧ RowAt H vk (lkV s.1) ∧ AnIn H va s.2
def SiAt (H : Hp) (v : V) (s : Lk × An) : Prop := ∃ t u va, v = .ref t ∧ H t = some (.tup [.ref u, va]) ∧ H u = some (.tup (lkV s.1)) ∧ AnAt H va s.2
theorem AnIn.up {H H' : Hp} {v : V} {a : An} (h : AnIn H v a) (s : Same H H') : AnIn H' v a := by
  cases a with
  | no => exact h
  | tx z => exact h
  | es l => exact RowAt.up h s
theorem AnAt.up {H H' : Hp} {v : V} {a : An} (h : AnAt H v a) (s : Same H H') : AnAt H' v a := by
  cases a with
  | no => exact h
  | tx z => exact h
  | es l =>
    obtain ⟨a, e, h⟩ := h
    exact ⟨a, e, s _ _ h⟩
theorem AnAt.in {H : Hp} {v : V} {a : An} (h : AnAt H v a) : AnIn H v a := by
  cases a with
  | no => exact h
  | tx z => exact h
  | es l =>
    obtain ⟨a, e, h⟩ := h
    exact ⟨a, e, .inl h⟩
def LkOk : Lk → Prop
  | .rd p => p ≠ [] ∧ Nms p ∧ p.length ≤ 90
  | .ls p => Nms p ∧ p.length ≤ 90
  | .se n => IsNm n
  | .tl => True
def Ents (l : List (Str × Bool)) : Prop := (∀ e ∈ l, IsNm e.1) ∧ (l.map (·.1)).Pairwise (fun a b : Str => a.cps.toList < b.cps.toList) ∧ l.length ≤ 1000
def AnOk : Lk → An → Prop
  | .rd _, .no => True
  | .rd _, .tx _ => True
  | .ls p, .no => p ≠ []
  | .ls p, .es l => Ents l ∧ (l ≠ [] ∨ p = [])
  | .se _, .no => True
  | .se _, .tx _ => True
  | .tl, .tx _ => True
  | _, _ => False
def SiOk (s : Lk × An) : Prop := LkOk s.1 ∧ AnOk s.1 s.2
def spRow : Sp := fun vs H Q _ => ∃ v xs n, vs = [v, .int n] ∧ RowAt H v xs ∧ ∀ H', Same H H' → Q (.bl (decide ((xs.length : Int) = n))) H'
def spAsLook : Sp := fun vs H Q _ => ∃ v k, vs = [v] ∧ RowAt H v (lkV k) ∧ LkOk k ∧ ∀ t H', Same H H' → H' t = some (.tup (lkV k)) → Q (.ref t) H'
def spCanLook : Sp := fun vs H Q _ => ∃ k, vs = lkV k ∧ vs.length = 2 ∧ LkOk k ∧ ∀ H', Same H H' → Q (.bl true) H'
def spCanShow : Sp := fun vs H Q _ => ∃ t va k a, vs = [.ref t, va] ∧ H t = some (.tup (lkV k)) ∧ AnIn H va a ∧ LkOk k ∧ AnOk k a ∧ ∀ H', Same H H' → Q (.bl true) H'
def spIsListing : Sp := fun vs H Q _ => ∃ v l, vs = [v] ∧ RowAt H v (l.map entV) ∧ Ents l ∧ ∀ H', Same H H' → Q (.bl true) H'
def spIsEntry : Sp := fun vs H Q _ => ∃ n b, vs = [.str (ent n b)] ∧ IsNm n ∧ ∀ H', Same H H' → Q (.bl true) H'
def spAsSight : Sp := fun vs H Q _ => ∃ v s, vs = [v] ∧ SiIn H v s ∧ SiOk s ∧ ∀ v' H', Same H H' → SiAt H' v' s → Q v' H'
section
variable {P : Program} {w : World} {K : PySem.W.Frag} {mg : Str → Option Value} {base : Heap}
theorem scRow : FnScope ["thing", "size"] ["thing", "size"] (defScope sRow) := ⟨rfl, rfl, rfl, by decide +kernel, rfl, by decide +kernel, by decide +kernel⟩
theorem ok_row {f : Addr} {fd : FuncData} (F : Fun K "is_row" "is_row" sRow f fd) (T : TB mg) : FnOk P w K mg base CX0 1 f fd ["thing", "size"] spRow := by
  refine F.ok scRow (fun vs H Q E h => ?_) (fun cdv A outer s H vs Q E hr h => ?_)
  · obtain ⟨v, xs, n, rfl, _⟩ := h
    rfl
  · obtain ⟨v, xs, n, rfl, hv, k⟩ := h
    refine ⟨_, pss_one (ps_ret (pe_and (pe_callB isi_LT (by rfl) T.isinstance (by decide +kernel) (pa_cons (pv 0) (pa_cons (pe_tup (pa_cons (pe_bltn (v := .ty "list") (by rfl) T.list (by decide +kernel) rfl) (pa_cons (pe_bltn (v := .ty "tuple") (by rfl) T.tuple (by decide +kernel) rfl) pa_nil))) pa_nil))) (pe_one (pe_cmpR op_eq (pe_callB call_len_row (by rfl) T.len PySem.boot_len (pa_cons (pv 0) pa_nil)) (pv 1) (nomark _))))), ?_⟩
    refine ⟨_, rfl, by show 2 ≤ sizeLine; decide, fun tp ht => ⟨v, tp, true, rfl, upd_same, .inl ⟨rfl, xs, hv.up (same_mk ht)⟩, _, rfl, iteT ⟨_, rfl, v, xs, rfl, hv.up (same_mk ht), _, rfl, rfl, ?_⟩⟩⟩
    have e : decide (V.int (xs.length : Int) = V.int n) = decide ((xs.length : Int) = n) := by
      rw [decide_eq_decide]
      exact ⟨fun z => V.int.inj z, fun z => by rw [z]⟩
    rw [e]
    exact k _ (same_mk ht)
theorem scIsEntry : FnScope ["thing"] ["thing"] (defScope sIsEntry) := ⟨rfl, rfl, rfl, by decide +kernel, rfl, by decide +kernel, by decide +kernel⟩
theorem ok_isEntry {f fN : Addr} {fd fdN : FuncData} (F : Fun K "is_entry" "is_entry" sIsEntry f fd) (T0 : TPk mg) (aIsName : At K mg "is_name" fN fdN ["thing"]) (GIsName : FnOk P w K mg base CX0 1 fN fdN ["thing"] spIsName) : FnOk P w K mg base CX0 2 f fd ["thing"] spIsEntry := by
  have T := T0.b
  obtain ⟨t1, mSTROKE⟩ := T0.STROKE
  refine F.ok scIsEntry (fun vs H Q E h => ?_) (fun cdv A outer s H vs Q E hr h => ?_)
  · obtain ⟨n, b, rfl, _⟩ := h
    rfl
  · obtain ⟨n, b, rfl, hn, k⟩ := h
    refine ⟨_, pss_one (ps_ret (pe_and (pe_callB call_isi (by rfl) T.isinstance (by decide +kernel) (pa_cons (pv 0) (pa_cons (pe_bltn (v := .ty "str") (by rfl) T.str (by decide +kernel) rfl) pa_nil))) (pe_one (pe_call GIsName (hr.mono (by decide)) rfl aIsName.m aIsName.k aIsName.b .nil pass0 (pa_cons (pe_bm PySem.F.plainAttrs_str PySem.F.slot_str_removesuffix PySem.F.type_str_removesuffix mt_removesuffix (pv 0) (pa_cons (pe_glob (v := .str "/") rfl mSTROKE ⟨_, rfl⟩) pa_nil)) pa_nil))))), ?_⟩
    refine ⟨_, rfl, _, _, .type "str", .type "str", true, rfl, .ty "str", .base (.str _), kit_ty (by decide +kernel), _, rfl, iteT ⟨_, rfl, rfl, ent n b, "/", rfl, rfl, ?_, _, rfl, ?_, fun H1 s1 => ?_⟩⟩
    · have h8 := hn.2.1
      refine Nat.le_trans (show (ent n b).length ≤ 9 from ?_) (by decide)
      rw [len_tl, tl_ent, List.length_append, ← len_tl]
      cases b <;> simp <;> omega
    · rw [rms_ent hn]
      exact nm_sh hn
    · rw [rms_ent hn]
      show Q (.bl (decide (IsNm n))) H1
      rw [decide_eq_true hn]
      exact k H1 s1
theorem scCanLook : FnScope ["word", "where"] ["word", "where"] (defScope sCanLook) := ⟨rfl, rfl, rfl, by decide +kernel, rfl, by decide +kernel, by decide +kernel⟩
theorem ok_canLook {f fN fPh fPl : Addr} {fd fdN fdPh fdPl : FuncData} (F : Fun K "can_look" "can_look" sCanLook f fd) (T0 : TPk mg) (aIsName : At K mg "is_name" fN fdN ["thing"]) (aIsPath : At K mg "is_path" fPh fdPh ["thing"]) (aIsPlace : At K mg "is_place" fPl fdPl ["thing"])
    (GIsName : FnOk P w K mg base CX0 1 fN fdN ["thing"] spIsName) (GIsPath : FnOk P w K mg base CX0 2 fPh fdPh ["thing"] spIsPath) (GIsPlace : FnOk P w K mg base CX0 3 fPl fdPl ["thing"] spIsPlace) : FnOk P w K mg base CX0 4 f fd ["word", "where"] spCanLook := by
  have T := T0.b
  refine F.ok scCanLook (fun vs H Q E h => ?_) (fun cdv A outer s H vs Q E hr h => ?_)
  · obtain ⟨k, _, h2, _⟩ := h
    exact h2
  · obtain ⟨k, rfl, h2, hk, q⟩ := h
    refine ⟨_, pss_cons (ps_if (pt_not (pt_val (pe_callB call_isi (by rfl) T.isinstance (by decide +kernel) (pa_cons (pv 0) (pa_cons (pe_bltn (v := .ty "str") (by rfl) T.str (by decide +kernel) rfl) pa_nil))))) (pss_one (ps_ret pe_bl)) (pss_nil))
            (pss_cons (ps_if (pt_cmpR op_eq (pv 0) pe_str (nomark _)) (pss_one (ps_ret (pe_call GIsPath (hr.mono (by decide)) rfl aIsPath.m aIsPath.k aIsPath.b .nil pass0 (pa_cons (pv 1) pa_nil)))) (pss_nil))
            (pss_cons (ps_if (pt_cmpR op_eq (pv 0) pe_str (nomark _)) (pss_one (ps_ret (pe_call GIsPlace (hr.mono (by decide)) rfl aIsPlace.m aIsPlace.k aIsPlace.b .nil pass0 (pa_cons (pv 1) pa_nil)))) (pss_nil))
            (pss_one (ps_ret (pe_and (pe_cmpR op_eq (pv 0) pe_str (nomark _)) (pe_one (pe_call GIsName (hr.mono (by decide)) rfl aIsName.m aIsName.k aIsName.b .nil pass0 (pa_cons (pv 1) pa_nil)))))))), ?_⟩
    cases k with
    | rd p =>
      refine ⟨_, rfl, _, _, .type "str", .type "str", true, rfl, .ty "str", .base (.str _), kit_ty (by decide +kernel), _, rfl, iteF ⟨_, rfl, rfl, _, rfl, iteY rfl ⟨_, rfl, p, rfl, hk.2.1, Nat.le_trans hk.2.2 (by decide), fun H1 s1 => ?_⟩⟩⟩
      rw [decide_eq_true hk.1]
      exact q H1 s1
    | ls p =>
      exact ⟨_, rfl, _, _, .type "str", .type "str", true, rfl, .ty "str", .base (.str _), kit_ty (by decide +kernel), _, rfl, iteF ⟨_, rfl, rfl, _, rfl, iteN (by decide +kernel) ⟨_, rfl, rfl, _, rfl, iteY rfl ⟨_, rfl, p, rfl, hk.1, Nat.le_trans hk.2 (by decide), q⟩⟩⟩⟩
    | se n =>
      refine ⟨_, rfl, _, _, .type "str", .type "str", true, rfl, .ty "str", .base (.str _), kit_ty (by decide +kernel), _, rfl, iteF ⟨_, rfl, rfl, _, rfl, iteN (by decide +kernel) ⟨_, rfl, rfl, _, rfl, iteN (by decide +kernel) ⟨_, rfl, rfl, _, rfl, iteY rfl ⟨_, rfl, n, rfl, nm_sh hk, fun H1 s1 => ?_⟩⟩⟩⟩⟩
      show Q (.bl (decide (IsNm n))) H1
      rw [decide_eq_true (show IsNm n from hk)]
      exact q H1 s1
    | tl => exact absurd h2 (by decide)
theorem scAsLook : FnScope ["thing"] ["thing"] (defScope sAsLook) := ⟨rfl, rfl, rfl, by decide +kernel, rfl, by decide +kernel, by decide +kernel⟩
theorem ok_asLook {f fR fC : Addr} {fd fdR fdC : FuncData} (F : Fun K "as_look" "as_look" sAsLook f fd) (T : TB mg) (aRow : At K mg "is_row" fR fdR ["thing", "size"]) (aCanLook : At K mg "can_look" fC fdC ["word", "where"])
    (GRow : FnOk P w K mg base CX0 1 fR fdR ["thing", "size"] spRow) (GCanLook : FnOk P w K mg base CX0 4 fC fdC ["word", "where"] spCanLook) : FnOk P w K mg base CX0 5 f fd ["thing"] spAsLook := by
  refine F.ok scAsLook (fun vs H Q E h => ?_) (fun cdv A outer s H vs Q E hr h => ?_)
  · obtain ⟨v, k, rfl, _⟩ := h
    rfl
  · obtain ⟨v, k, rfl, hv, hk, q⟩ := h
    refine ⟨_, pss_cons (ps_if (PW.pt (pw_and (pt_val (pe_call GRow (hr.mono (by decide)) rfl aRow.m aRow.k aRow.b .nil pass0 (pa_cons (pv 0) (pa_cons pe_int pa_nil)))) (pw_and (pt_val (pe_callB call_isi (by rfl) T.isinstance (by decide +kernel) (pa_cons (pe_ix ix_row (pv 0) pe_int (fun _ _ => rfl)) (pa_cons (pe_bltn (v := .ty "str") (by rfl) T.str (by decide +kernel) rfl) pa_nil)))) (pw_and1 (pt_cmpR op_eq (pe_ix ix_row (pv 0) pe_int (fun _ _ => rfl)) pe_str (nomark _)))))) (pss_one (ps_ret (pe_tup (pa_cons pe_str pa_nil)))) (pss_nil))
            (pss_cons (ps_if (PW.pt (pw_and (pt_val (pe_call GRow (hr.mono (by decide)) rfl aRow.m aRow.k aRow.b .nil pass0 (pa_cons (pv 0) (pa_cons pe_int pa_nil)))) (pw_and1 (pt_val (pe_call GCanLook (hr.mono (by decide)) rfl aCanLook.m aCanLook.k aCanLook.b .nil pass0 (pa_cons (pe_ix ix_row (pv 0) pe_int (fun _ _ => rfl)) (pa_cons (pe_ix ix_row (pv 0) pe_int (fun _ _ => rfl)) pa_nil))))))) (pss_one (ps_ret (pe_tup (pa_cons (pe_ix ix_row (pv 0) pe_int (fun _ _ => rfl)) (pa_cons (pe_ix ix_row (pv 0) pe_int (fun _ _ => rfl)) pa_nil))))) (pss_nil))
            (pss_one (ps_ret pe_non))), ?_⟩
    have two : ∀ (x y : V), lkV k = [x, y] → ∃ Z : Prop, True := fun _ _ _ => ⟨True, trivial⟩
    by_cases e : k = .tl
    · subst e
      refine ⟨_, rfl, v, _, 1, rfl, hv, fun H1 s1 => ⟨_, rfl, iteY rfl ⟨_, rfl, _, 0, _, hv.up s1, rfl, atI_nat (j := 0) rfl, _, _, .type "str", .type "str", true, rfl, .ty "str", .base (.str _), kit_ty (by decide +kernel), _, rfl, iteT ⟨_, rfl, _, 0, _, hv.up s1, rfl, atI_nat (j := 0) rfl, rfl, _, rfl, iteY rfl ⟨by show 1 ≤ sizeLine; decide, fun t ht => ?_⟩⟩⟩⟩⟩
      exact q t _ (same_ch s1 (s1.free ht)) upd_same
    · obtain ⟨x, y, exy⟩ : ∃ x y, lkV k = [x, y] := by
        cases k with
        | tl => exact absurd rfl e
        | _ => exact ⟨_, _, rfl⟩
      rw [exy] at hv
      refine ⟨_, rfl, v, _, 1, rfl, hv, fun H1 s1 => ⟨_, rfl, iteN (by show ¬ ((2 : Nat) : Int) = 1; decide) ⟨_, rfl, v, _, 2, rfl, hv.up s1, fun H2 s2 => ⟨_, rfl, iteY rfl ?_⟩⟩⟩⟩
      have v2 := (hv.up s1).up s2
      refine ⟨_, rfl, _, 0, _, v2, rfl, atI_nat (j := 0) rfl, _, rfl, _, 1, _, v2, rfl, atI_nat (j := 1) rfl, k, exy.symm, rfl, hk, fun H3 s3 => ⟨_, rfl, iteT ?_⟩⟩
      have v3 := v2.up s3
      refine ⟨_, rfl, _, 0, _, v3, rfl, atI_nat (j := 0) rfl, _, rfl, _, 1, _, v3, rfl, atI_nat (j := 1) rfl, by show 2 ≤ sizeLine; decide, fun t ht => ?_⟩
      refine q t _ (same_ch ((s1.trans s2).trans s3) (((s1.trans s2).trans s3).free ht)) ?_
      rw [exy]
      exact upd_same
theorem scIsListing : FnScope ["thing", "names", "entry", "one", "other"] ["thing"] (defScope sIsListing) := ⟨rfl, rfl, rfl, by decide +kernel, rfl, by decide +kernel, by decide +kernel⟩
theorem ok_isListing {f fE : Addr} {fd fdE : FuncData} (F : Fun K "is_listing" "is_listing" sIsListing f fd) (T0 : TPk mg) (aIsEntry : At K mg "is_entry" fE fdE ["thing"]) (GIsEntry : FnOk P w K mg base CX0 2 fE fdE ["thing"] spIsEntry) : FnOk P w K mg base CX0 3 f fd ["thing"] spIsListing := by
  have T := T0.b
  obtain ⟨t1, mSTROKE⟩ := T0.STROKE
  refine F.ok scIsListing (fun vs H Q E h => ?_) (fun cdv A outer s H vs Q E hr h => ?_)
  · obtain ⟨v, l, rfl, _⟩ := h
    rfl
  · obtain ⟨v, l, rfl, hv, hl, k⟩ := h
    refine ⟨_, pss_cons (ps_if (PW.pt (pw_or (pt_not (pt_val (pe_callB isi_LT (by rfl) T.isinstance (by decide +kernel) (pa_cons (pv 0) (pa_cons (pe_tup (pa_cons (pe_bltn (v := .ty "list") (by rfl) T.list (by decide +kernel) rfl) (pa_cons (pe_bltn (v := .ty "tuple") (by rfl) T.tuple (by decide +kernel) rfl) pa_nil))) pa_nil))))) (pw_or1 (pt_not (pt_val (pe_callB (cr_all rfl) (by rfl) T.all boot_all (pa_cons (pe_lc (own := [("entry", 2)]) (g := gName 2) (tt := tYes) rfl scIsListing.nd (pi_seqv (pv 0)) (blkOk_by (own := [("entry", 2)]) (N := ["thing", "names", "entry", "one", "other"]) (sc := defScope sIsListing) (by decide +kernel)) (fun _ _ _ _ _ => (pg_name (i := 2) scIsListing.nd rfl (Or.inl rfl))) (fun _ _ _ _ _ => pts_nil) (fun _ _ _ _ _ => (by exact (pe_call GIsEntry (hr.mono (by decide)) rfl aIsEntry.m aIsEntry.k aIsEntry.b .nil pass0 (pa_cons (pv 2) pa_nil))))) pa_nil))))))) (pss_one (ps_ret pe_bl)) (pss_nil))
            (pss_cons (ps_setLc (i := 1) (own := [("entry", 2)]) (g := gName 2) (tt := tYes) rfl scIsListing.nd rfl rfl (sw_true rfl rfl rfl (by decide +kernel)) (pi_seqv (pv 0)) (blkOk_by (own := [("entry", 2)]) (N := ["thing", "names", "entry", "one", "other"]) (sc := defScope sIsListing) (by decide +kernel)) (fun _ _ _ _ _ => (pg_name (i := 2) scIsListing.nd rfl (Or.inl rfl))) (fun _ _ _ _ _ => pts_nil) (fun _ _ _ _ _ => (by exact (pe_bmK K rfl PySem.F.plainAttrs_str PySem.F.slot_str_removesuffix PySem.F.type_str_removesuffix mt_removesuffix (pv 2) (pa_cons (pe_glob (v := .str "/") rfl mSTROKE ⟨_, rfl⟩) pa_nil)))))
            (pss_one (ps_ret (pe_callB (cr_all rfl) (by rfl) T.all boot_all (pa_cons (pe_lc (own := [("one", 3), ("other", 4)]) (g := gTup K 2 (gCons (gName 3) (gCons (gName 4) gNil))) (tt := tYes) rfl scIsListing.nd (pi_zip (by rfl) T.zip (pa_cons (pv 1) (pa_cons (pe_slice sl_list (pv 1) (po_some pe_int) po_none) pa_nil))) (blkOk_by (own := [("one", 3), ("other", 4)]) (N := ["thing", "names", "entry", "one", "other"]) (sc := defScope sIsListing) (by decide +kernel)) (fun _ _ _ _ _ => (pg_tupK (K0 := K) rfl rfl (pgs_cons (pg_name (i := 3) scIsListing.nd rfl (Or.inl rfl)) (pgs_cons (pg_name (i := 4) scIsListing.nd rfl (Or.inl rfl)) pgs_nil)))) (fun _ _ _ _ _ => pts_nil) (fun _ _ _ _ _ => (by exact (pe_cmpR op_lt_str (pv 3) (pv 4) (nomark _))))) pa_nil))))), ?_⟩
    have hs : l.length < 1000000 := Nat.lt_of_le_of_lt hl.2.2 (by decide)
    have at1 : (l.all fun _ => true) = true := List.all_eq_true.mpr fun _ _ => rfl
    refine ⟨_, rfl, by show 2 ≤ sizeLine; decide, fun tp ht => ⟨v, tp, true, rfl, upd_same, .inl ⟨rfl, _, hv.up (same_mk ht)⟩, _, rfl, iteF ?_⟩⟩
    refine all_row l entV (fun _ => true) rfl (hv.up (same_mk ht)) hs ?_ ?_
    · intro e he H2 s2 Q1 k1
      exact ⟨_, rfl, e.1, e.2, rfl, hl.1 e he, k1⟩
    intro H1 s1
    rw [at1]
    refine ⟨_, rfl, iteF ?_⟩
    have sa := (same_mk ht).trans s1
    refine set_row l entV (fun e => .str e.1) rfl (hv.up sa) hs ?_ ?_
    · intro e he H2 s2 Q1 k1
      refine ⟨_, rfl, rfl, ent e.1 e.2, "/", rfl, rfl, ?_, ?_⟩
      · have h8 := (hl.1 e he).2.1
        refine Nat.le_trans (show (ent e.1 e.2).length ≤ 9 from ?_) (by decide)
        rw [len_tl, tl_ent, List.length_append, ← len_tl]
        cases e.2 <;> simp <;> omega
      · rw [rms_ent (hl.1 e he)]
        exact k1 H2 (Same.refl H2)
    intro D H2 s2 hD hD2
    refine ⟨_, rfl, _, rfl, 1, rfl, D, _, rfl, SqL.of hD2, fun p hp => ?_⟩
    have hD3 := same_mk (o := .lst (cutV (l.map fun e => V.str e.1) (some 1) none)) hp _ _ hD2
    refine ⟨D, p, _, _, rfl, SqL.of hD3, SqL.of upd_same, fun D2 hD2' => ?_⟩
    rw [cut_1] at hD2' ⊢
    rw [cut_1] at hD3
    have le : (List.replicate (min (l.map fun e => V.str e.1).length ((l.map fun e => V.str e.1).drop 1).length) (V.bl true)).length = min (l.map fun e => V.str e.1).length ((l.map fun e => V.str e.1).drop 1).length := List.length_replicate
    refine lcW2 (walk_zip rfl) (by decide) _ le ?_ hD2' (fun H' s' => ⟨s'.seq (SqL.of hD3), s'.seq (SqL.of upd_same)⟩) ?_ ?_
    · rw [List.length_map]
      omega
    · intro m x x' y H4 hy ex ex' s4 Q1 k1
      obtain ⟨e1, he1, rfl⟩ : ∃ e, l[m]? = some e ∧ x = .str e.1 := by
        rw [List.getElem?_map] at ex
        cases q : l[m]? with
        | none => rw [q] at ex; cases ex
        | some e => rw [q] at ex; cases ex; exact ⟨e, rfl, rfl⟩
      obtain ⟨e2, he2, rfl⟩ : ∃ e, l[m + 1]? = some e ∧ x' = .str e.1 := by
        rw [List.getElem?_drop, List.getElem?_map, Nat.add_comm] at ex'
        cases q : l[m + 1]? with
        | none => rw [q] at ex'; cases ex'
        | some e => rw [q] at ex'; cases ex'; exact ⟨e, rfl, rfl⟩
      have yt : y = .bl true := by
        have := List.mem_of_getElem? hy
        exact (List.mem_replicate.mp this).2
      subst yt
      refine ⟨_, rfl, _, rfl, e1.1, e2.1, rfl, rfl, ?_⟩
      have lt : e1.1.cps.toList < e2.1.cps.toList := by
        have pw := hl.2.1
        rw [List.pairwise_iff_getElem] at pw
        obtain ⟨h1, g1⟩ := List.getElem?_eq_some_iff.mp he1
        obtain ⟨h2, g2⟩ := List.getElem?_eq_some_iff.mp he2
        have := pw m (m + 1) (by rw [List.length_map]; exact h1) (by rw [List.length_map]; exact h2) (Nat.lt_succ_self m)
        rw [List.getElem_map, List.getElem_map, g1, g2] at this
        exact this
      rw [decide_eq_true lt]
      exact k1 H4 (Same.refl H4)
    · intro H5 s5 hD5
      refine all_of (List.replicate (min (l.map fun e => V.str e.1).length ((l.map fun e => V.str e.1).drop 1).length) true) id (by rw [hD5, List.map_replicate]; rfl) ?_
      have ar : ∀ n, (List.replicate n true).all id = true := fun n => List.all_eq_true.mpr fun b hb => (List.mem_replicate.mp hb).2
      rw [ar]
      exact k H5 ((sa.trans s2).trans ((same_mk hp).trans s5))
def strD (l : List Str) : PyData := .tuple (l.map .str)
abbrev Okz (z : Str) : Prop := PyData.strOk z = true
theorem okz_of {z : Str} (h : ∀ c ∈ tl z, c < 1114112) : Okz z := by
  show (z.cps.all fun c => decide (c < 1114112)) = true
  rw [Array.all_eq_true_iff_forall_mem]
  intro c hc
  exact decide_eq_true (h c (Array.mem_toList_iff.mpr hc))
theorem jl_small : ∀ {p : List Str}, Nms p → ∀ c ∈ jl p, c < 128
  | [], _ => by intro c hc; cases hc
  | [y], h => fun c hc => by
    have := (h y List.mem_cons_self).2.2 c hc
    omega
  | y :: z :: r, h => fun c hc => by
    have e : jl (y :: z :: r) = tl y ++ ([47] ++ jl (z :: r)) := rfl
    rw [e] at hc
    rcases List.mem_append.mp hc with q | q
    · have := (h y List.mem_cons_self).2.2 c q
      omega
    · rcases List.mem_append.mp q with q | q
      · rw [List.mem_singleton.mp q]
        decide
      · exact jl_small h.tail c q
theorem okz_js {p : List Str} (h : Nms p) : Okz (js p) := okz_of fun c hc => by
  rw [tl_js] at hc
  have := jl_small h c hc
  omega
theorem okz_nm {z : Str} (h : IsNm z) : Okz z := okz_of fun c hc => by
  have := h.2.2 c hc
  omega
theorem okz_ent {z : Str} (h : IsNm z) (b : Bool) : Okz (ent z b) := okz_of fun c hc => by
  rw [tl_ent] at hc
  rcases List.mem_append.mp hc with q | q
  · have := h.2.2 c q
    omega
  · cases b
    · cases q
    · rw [List.mem_singleton.mp q]
      decide
theorem lay_strs : ∀ l : List Str, (∀ z ∈ l, Okz z) → PyData.canLayAll0 (l.map .str) = true
  | [], _ => by simp [PyData.canLayAll0]
  | z :: r, h => by
    have h1 : PyData.strOk z = true := h z List.mem_cons_self
    simp [PyData.canLayAll0, PyData.canLay0, lay_strs r fun y hy => h y (List.mem_cons_of_mem _ hy), h1]
theorem dep_strs : ∀ l : List Str, PyData.depthAll (l.map .str) ≤ 1
  | [] => by simp [PyData.depthAll]
  | z :: r => by
    have := dep_strs r
    simp only [List.map_cons, PyData.depthAll, PyData.depth]
    omega
theorem shaped_strs (l : List Str) (hl : ∀ z ∈ l, Okz z) : SeqAt.shaped (strD l) = true := by
  have h := dep_strs l
  have h2 : PyData.depth (.tuple (l.map .str)) ≤ 64 := by
    simp only [PyData.depth]
    omega
  show (PyData.canLay0 (.tuple (l.map .str)) && decide (PyData.depth (.tuple (l.map .str)) ≤ 64)) = true
  rw [Bool.and_eq_true]
  exact ⟨by simp only [PyData.canLay0]; exact lay_strs l hl, decide_eq_true h2⟩
theorem dp_strs {H : Hp} : ∀ l : List Str, DpAll K H (l.map V.str) (l.map PyData.str)
  | [] => .nil
  | z :: r => .cons (.str z) (dp_strs r)
theorem eqv_str2 (a b c d : Str) : PyData.eqv (strD [a, b]) (strD [c, d]) = ((a == c) && (b == d)) := by
  simp [strD, PyData.eqv, PyData.eqvAll]
theorem scCanShow : FnScope ["look", "answer", "word"] ["look", "answer"] (defScope sCanShow) := ⟨rfl, rfl, rfl, by decide +kernel, rfl, by decide +kernel, by decide +kernel⟩
theorem ok_canShow {f fL : Addr} {fd fdL : FuncData} (F : Fun K "can_show" "can_show" sCanShow f fd) (T0 : TPk mg) (aIsListing : At K mg "is_listing" fL fdL ["thing"]) (GIsListing : FnOk P w K mg base CX0 3 fL fdL ["thing"] spIsListing) : FnOk P w K mg base CX0 4 f fd ["look", "answer"] spCanShow := by
  have T := T0.b
  obtain ⟨t1, mROOT⟩ := T0.ROOT
  refine F.ok scCanShow (fun vs H Q E h => ?_) (fun cdv A outer s H vs Q E hr h => ?_)
  · obtain ⟨t, va, k, a, rfl, _⟩ := h
    rfl
  · have hu := hr.units
    obtain ⟨t, va, k, a, rfl, ht, ha, hk, ok, q⟩ := h
    refine ⟨_, pss_cons (ps_set (i := 2) scCanShow.nd rfl (Or.inl rfl) (pe_ix ix_tup (pv 0) pe_int (fun _ _ => rfl)))
            (pss_cons (ps_if (pt_cmp (pc_isN (pv 1))) (pss_one (ps_ret (pe_and (pe_cmpR op_ne (pv 2) pe_str (nomark _)) (pe_one (pe_cmpR (op_neD hu) (pv 0) (pe_tup (pa_cons pe_str (pa_cons (pe_glob (v := .str "") rfl mROOT ⟨_, rfl⟩) pa_nil))) (nomark _)))))) (pss_nil))
            (pss_cons (ps_if (pt_cmpR op_eq (pv 2) pe_str (nomark _)) (pss_one (ps_ret (pe_and (pe_call GIsListing (hr.mono (by decide)) rfl aIsListing.m aIsListing.k aIsListing.b .nil pass0 (pa_cons (pv 1) pa_nil)) (pe_one (pe_or (pe_cmpR op_gt (pe_callB call_len_row (by rfl) T.len PySem.boot_len (pa_cons (pv 1) pa_nil)) pe_int (nomark _)) (pe_one (pe_cmpR op_eq (pe_ix ix_tup (pv 0) pe_int (fun _ _ => rfl)) (pe_glob (v := .str "") rfl mROOT ⟨_, rfl⟩) (nomark _)))))))) (pss_nil))
            (pss_one (ps_ret (pe_callB call_isi (by rfl) T.isinstance (by decide +kernel) (pa_cons (pv 1) (pa_cons (pe_bltn (v := .ty "str") (by rfl) T.str (by decide +kernel) rfl) pa_nil))))))), ?_⟩
    have neD : ∀ (x y : Str) (p : Addr) (H2 : Hp), H2 t = some (.tup [.str x, .str y]) → H2 p = some (.tup [.str "list", .str ""]) → Okz y → (x = "list" → y ≠ "") → Okz x → ∀ Q1 : VK, Q1 (.bl true) H2 → rNeD K (.ref t) (.ref p) H2 Q1 := fun x y p H2 e1 e2 oy ne ox Q1 q1 => by
      refine ⟨strD [x, y], strD ["list", ""], .tup (SqT.of e1) (dp_strs [x, y]), .tup (SqT.of e2) (dp_strs ["list", ""]), shaped_strs _ (by simpa using ⟨ox, oy⟩), shaped_strs _ (by decide +kernel), ?_⟩
      rw [eqv_str2]
      have : ((x == "list") && (y == "")) = false := by
        rw [Bool.and_eq_false_iff]
        by_cases e : x = "list"
        · exact .inr (beq_eq_false_iff_ne.mpr (ne e))
        · exact .inl (beq_eq_false_iff_ne.mpr e)
      rw [this]
      exact q1
    cases k with
    | rd p =>
      refine ⟨_, rfl, t, _, 0, _, rfl, rfl, SqT.of ht, atI_nat (j := 0) rfl, ?_⟩
      cases a with
      | no =>
        cases (show va = .non from ha)
        refine ⟨_, rfl, _, rfl, iteT ⟨_, rfl, rfl, _, rfl, iteT ⟨_, rfl, by show 2 ≤ sizeLine; decide, fun p hp => ?_⟩⟩⟩
        exact neD _ _ p _ (same_mk hp _ _ ht) upd_same (okz_js hk.2.1) (fun z => absurd z (by decide +kernel)) (by decide +kernel) _ (q _ (same_mk hp))
      | tx z =>
        cases (show va = .str z from ha)
        exact ⟨_, rfl, _, rfl, iteN (by intro z; cases z) ⟨_, rfl, rfl, _, rfl, iteN (by decide +kernel) ⟨_, rfl, _, _, .type "str", .type "str", true, rfl, .ty "str", .base (.str _), kit_ty (by decide +kernel), q H (Same.refl H)⟩⟩⟩
      | es l => exact ok.elim
    | ls p =>
      refine ⟨_, rfl, t, _, 0, _, rfl, rfl, SqT.of ht, atI_nat (j := 0) rfl, ?_⟩
      cases a with
      | no =>
        cases (show va = .non from ha)
        refine ⟨_, rfl, _, rfl, iteT ⟨_, rfl, rfl, _, rfl, iteT ⟨_, rfl, by show 2 ≤ sizeLine; decide, fun p hp => ?_⟩⟩⟩
        exact neD _ _ p _ (same_mk hp _ _ ht) upd_same (okz_js hk.1) (fun _ => js_ne hk.1 ok) (by decide +kernel) _ (q _ (same_mk hp))
      | tx z => exact ok.elim
      | es l =>
        obtain ⟨b, rfl, hb⟩ := (show RowAt H va (l.map entV) from ha)
        refine ⟨_, rfl, _, rfl, iteN (by intro z; cases z) ⟨_, rfl, rfl, _, rfl, iteY rfl ⟨_, rfl, .ref b, l, rfl, ⟨b, rfl, hb⟩, ok.1, fun H1 s1 => ⟨_, rfl, iteT ⟨_, rfl, .ref b, _, rfl, RowAt.up ⟨b, rfl, hb⟩ s1, _, _, rfl, rfl, _, rfl, ?_⟩⟩⟩⟩⟩
        rw [List.length_map]
        by_cases e : l = []
        · subst e
          refine iteN (by decide) ⟨_, rfl, t, _, 1, _, rfl, rfl, SqT.of (s1 _ _ ht), atI_nat (j := 1) rfl, rfl, ?_⟩
          have pe : p = [] := ok.2.resolve_left (fun z => z rfl)
          subst pe
          exact q H1 s1
        · have := List.length_pos_iff.mpr e
          refine iteY (by omega) ?_
          exact q H1 s1
    | se n =>
      refine ⟨_, rfl, t, _, 0, _, rfl, rfl, SqT.of ht, atI_nat (j := 0) rfl, ?_⟩
      cases a with
      | no =>
        cases (show va = .non from ha)
        refine ⟨_, rfl, _, rfl, iteT ⟨_, rfl, rfl, _, rfl, iteT ⟨_, rfl, by show 2 ≤ sizeLine; decide, fun p hp => ?_⟩⟩⟩
        exact neD _ _ p _ (same_mk hp _ _ ht) upd_same (okz_nm hk) (fun z => absurd z (by decide +kernel)) (by decide +kernel) _ (q _ (same_mk hp))
      | tx z =>
        cases (show va = .str z from ha)
        exact ⟨_, rfl, _, rfl, iteN (by intro z; cases z) ⟨_, rfl, rfl, _, rfl, iteN (by decide +kernel) ⟨_, rfl, _, _, .type "str", .type "str", true, rfl, .ty "str", .base (.str _), kit_ty (by decide +kernel), q H (Same.refl H)⟩⟩⟩
      | es l => exact ok.elim
    | tl =>
      refine ⟨_, rfl, t, _, 0, _, rfl, rfl, SqT.of ht, atI_nat (j := 0) rfl, ?_⟩
      cases a with
      | no => exact ok.elim
      | tx z =>
        cases (show va = .str z from ha)
        exact ⟨_, rfl, _, rfl, iteN (by intro z; cases z) ⟨_, rfl, rfl, _, rfl, iteN (by decide +kernel) ⟨_, rfl, _, _, .type "str", .type "str", true, rfl, .ty "str", .base (.str _), kit_ty (by decide +kernel), q H (Same.refl H)⟩⟩⟩
      | es l => exact ok.elim
theorem scAsSight : FnScope ["thing", "look"] ["thing"] (defScope sAsSight) := ⟨rfl, rfl, rfl, by decide +kernel, rfl, by decide +kernel, by decide +kernel⟩
theorem ok_asSight {f fR fL fS : Addr} {fd fdR fdL fdS : FuncData} (F : Fun K "as_sight" "as_sight" sAsSight f fd) (T : TB mg) (aRow : At K mg "is_row" fR fdR ["thing", "size"]) (aAsLook : At K mg "as_look" fL fdL ["thing"]) (aCanShow : At K mg "can_show" fS fdS ["look", "answer"])
    (GRow : FnOk P w K mg base CX0 1 fR fdR ["thing", "size"] spRow) (GAsLook : FnOk P w K mg base CX0 5 fL fdL ["thing"] spAsLook) (GCanShow : FnOk P w K mg base CX0 4 fS fdS ["look", "answer"] spCanShow) : FnOk P w K mg base CX0 6 f fd ["thing"] spAsSight := by
  refine F.ok scAsSight (fun vs H Q E h => ?_) (fun cdv A outer s H vs Q E hr h => ?_)
  · obtain ⟨v, k, rfl, _⟩ := h
    rfl
  · obtain ⟨v, ⟨k, a⟩, rfl, ⟨vk, va, hv, hk, ha⟩, ⟨ok1, ok2⟩, q⟩ := h
    refine ⟨_, pss_cons (ps_if (pt_not (pt_val (pe_call GRow (hr.mono (by decide)) rfl aRow.m aRow.k aRow.b .nil pass0 (pa_cons (pv 0) (pa_cons pe_int pa_nil))))) (pss_one (ps_ret pe_non)) (pss_nil))
            (pss_cons (ps_set (i := 1) scAsSight.nd rfl (Or.inl rfl) (pe_call GAsLook (hr.mono (by decide)) rfl aAsLook.m aAsLook.k aAsLook.b .nil pass0 (pa_cons (pe_ix ix_row (pv 0) pe_int (fun _ _ => rfl)) pa_nil)))
            (pss_cons (ps_if (PW.pt (pw_or (pt_cmp (pc_isN (pv 1))) (pw_or1 (pt_not (pt_val (pe_call GCanShow (hr.mono (by decide)) rfl aCanShow.m aCanShow.k aCanShow.b .nil pass0 (pa_cons (pv 1) (pa_cons (pe_ix ix_row (pv 0) pe_int (fun _ _ => rfl)) pa_nil)))))))) (pss_one (ps_ret pe_non)) (pss_nil))
            (pss_cons (ps_if (pt_val (pe_callB isi_LT (by rfl) T.isinstance (by decide +kernel) (pa_cons (pe_ix ix_row (pv 0) pe_int (fun _ _ => rfl)) (pa_cons (pe_tup (pa_cons (pe_bltn (v := .ty "list") (by rfl) T.list (by decide +kernel) rfl) (pa_cons (pe_bltn (v := .ty "tuple") (by rfl) T.tuple (by decide +kernel) rfl) pa_nil))) pa_nil)))) (pss_one (ps_ret (pe_tup (pa_cons (pv 1) (pa_cons (pe_callTy call_tup_row (by rfl) T.tuple (by decide +kernel) (pa_cons (pe_ix ix_row (pv 0) pe_int (fun _ _ => rfl)) pa_nil)) pa_nil))))) (pss_nil))
            (pss_one (ps_ret (pe_tup (pa_cons (pv 1) (pa_cons (pe_ix ix_row (pv 0) pe_int (fun _ _ => rfl)) pa_nil)))))))), ?_⟩
    refine ⟨_, rfl, v, _, 2, rfl, hv, fun H1 s1 => ⟨_, rfl, iteF ?_⟩⟩
    have v1 := hv.up s1
    refine ⟨_, rfl, _, 0, _, v1, rfl, atI_nat (j := 0) rfl, vk, k, rfl, RowAt.up hk s1, ok1, fun t H2 s2 ht => ?_⟩
    have v2 := v1.up s2
    have a2 := (ha.up s1).up s2
    refine ⟨_, rfl, _, rfl, iteN (by intro z; cases z) ⟨_, rfl, _, rfl, _, 1, _, v2, rfl, atI_nat (j := 1) rfl, t, va, k, a, rfl, ht, a2, ok1, ok2, fun H3 s3 => ⟨_, rfl, iteF ?_⟩⟩⟩
    have v3 := v2.up s3
    have a3 := a2.up s3
    have ht3 := s3 _ _ ht
    have s123 := (s1.trans s2).trans s3
    have fin : ∀ (H5 : Hp), Same H3 H5 → AnAt H5 va a → (∀ p, H5 p = none → Q (.ref p) (upd H5 p (.tup [.ref t, va]))) := fun H5 s5 hA p hp => by
      refine q (.ref p) _ (same_ch (s123.trans s5) ((s123.trans s5).free hp)) ⟨p, t, va, rfl, upd_same, same_mk hp _ _ (s5 _ _ ht3), hA.up (same_mk hp)⟩
    refine ⟨_, rfl, _, 1, _, v3, rfl, atI_nat (j := 1) rfl, by show 2 ≤ sizeLine; decide, fun tp htp => ?_⟩
    have sp := same_mk (o := .tup [.ty "list", .ty "tuple"]) htp
    cases a with
    | no =>
      cases (show va = .non from ha)
      exact ⟨_, tp, false, rfl, upd_same, .inr ⟨rfl, .inl rfl⟩, _, rfl, iteF ⟨_, rfl, _, rfl, _, 1, _, v3.up sp, rfl, atI_nat (j := 1) rfl, by show 2 ≤ sizeLine; decide, fun p hp => fin _ sp rfl p hp⟩⟩
    | tx z =>
      cases (show va = .str z from ha)
      exact ⟨_, tp, false, rfl, upd_same, .inr ⟨rfl, .inr (.inl ⟨z, rfl⟩)⟩, _, rfl, iteF ⟨_, rfl, _, rfl, _, 1, _, v3.up sp, rfl, atI_nat (j := 1) rfl, by show 2 ≤ sizeLine; decide, fun p hp => fin _ sp rfl p hp⟩⟩
    | es l =>
      refine ⟨_, tp, true, rfl, upd_same, .inl ⟨rfl, _, RowAt.up a3 sp⟩, _, rfl, iteT ⟨_, rfl, _, rfl, _, 1, _, v3.up sp, rfl, atI_nat (j := 1) rfl, va, l.map entV, rfl, RowAt.up a3 sp, fun b H4 s4 hb => ⟨by show 2 ≤ sizeLine; decide, fun p hp => ?_⟩⟩⟩
      have s34 := sp.trans s4
      exact q (.ref p) _ (same_ch (s123.trans s34) ((s123.trans s34).free hp)) ⟨p, t, .ref b, rfl, upd_same, same_mk hp _ _ (s34 _ _ ht3), ⟨b, rfl, same_mk hp _ _ hb⟩⟩
end
end T6

set_option maxHeartbeats 3900000
namespace T6
open PySem PySem.Spec PyProof.Rows L2 TL
open CB
def lkS : Lk → List Str
  | .rd p => ["read", js p]
  | .ls p => ["list", js p]
  | .se n => ["setting", n]
  | .tl => ["tool"]
theorem lkV_S (k : Lk) : lkV k = (lkS k).map V.str := by cases k <;> rfl
def lkD (k : Lk) : PyData := strD (lkS k)
def anD : An → PyData
  | .no => .none
  | .tx z => .str z
  | .es l => strD (l.map fun e => ent e.1 e.2)
def siD (s : Lk × An) : PyData := .tuple [lkD s.1, anD s.2]
def LkW : Lk → Prop
  | .rd p => Nms p ∧ p.length ≤ 100
  | .ls p => Nms p ∧ p.length ≤ 100
  | .se n => IsNm n
  | .tl => True
def AnW : An → Prop
  | .no => True
  | .tx z => Okz z
  | .es l => (∀ e ∈ l, IsNm e.1) ∧ l.length ≤ 1000
def SiW (s : Lk × An) : Prop := LkW s.1 ∧ AnW s.2
theorem LkOk.w {k : Lk} (h : LkOk k) : LkW k := by
  cases k with
  | rd p => exact ⟨h.2.1, Nat.le_trans h.2.2 (by decide)⟩
  | ls p => exact ⟨h.1, Nat.le_trans h.2 (by decide)⟩
  | se n => exact h
  | tl => trivial
theorem lkS_ok {k : Lk} (h : LkW k) : ∀ z ∈ lkS k, Okz z := by
  intro z hz
  cases k with
  | rd p =>
    rcases List.mem_cons.mp hz with e | e
    · rw [e]
      decide +kernel
    · rw [List.mem_singleton.mp e]
      exact okz_js h.1
  | ls p =>
    rcases List.mem_cons.mp hz with e | e
    · rw [e]
      decide +kernel
    · rw [List.mem_singleton.mp e]
      exact okz_js h.1
  | se n =>
    rcases List.mem_cons.mp hz with e | e
    · rw [e]
      decide +kernel
    · rw [List.mem_singleton.mp e]
      exact okz_nm h
  | tl =>
    rw [List.mem_singleton.mp hz]
    decide +kernel
theorem lay_strD (l : List Str) (h : ∀ z ∈ l, Okz z) : (strD l).canLay0 = true := by
  simp only [strD, PyData.canLay0]
  exact lay_strs l h
theorem dep_strD (l : List Str) : (strD l).depth ≤ 2 := by
  have := dep_strs l
  simp only [strD, PyData.depth]
  omega
theorem anD_lay {a : An} (h : AnW a) : (anD a).canLay0 = true := by
  cases a with
  | no => simp [anD, PyData.canLay0]
  | tx z =>
    have h2 : PyData.strOk z = true := h
    simp [anD, PyData.canLay0, h2]
  | es l =>
    refine lay_strD _ fun z hz => ?_
    obtain ⟨e, he, rfl⟩ := List.mem_map.mp hz
    exact okz_ent (h.1 e he) e.2
theorem anD_dep (a : An) : (anD a).depth ≤ 2 := by
  cases a with
  | no => simp [anD, PyData.depth]
  | tx z => simp [anD, PyData.depth]
  | es l => exact dep_strD _
theorem shaped_mk {d : PyData} (h1 : d.canLay0 = true) (h2 : d.depth ≤ 64) : SeqAt.shaped d = true := by
  show (d.canLay0 && decide (d.depth ≤ 64)) = true
  rw [Bool.and_eq_true]
  exact ⟨h1, decide_eq_true h2⟩
theorem anD_shaped {a : An} (h : AnW a) : SeqAt.shaped (anD a) = true := shaped_mk (anD_lay h) (Nat.le_trans (anD_dep a) (by decide))
theorem lkD_shaped {k : Lk} (h : LkW k) : SeqAt.shaped (lkD k) = true := shaped_strs _ (lkS_ok h)
theorem siD_lay {s : Lk × An} (h : SiW s) : (siD s).canLay0 = true := by
  have h1 : (lkD s.1).canLay0 = true := lay_strD _ (lkS_ok h.1)
  have h2 := anD_lay h.2
  simp [siD, PyData.canLay0, PyData.canLayAll0, h1, h2]
theorem siD_dep (s : Lk × An) : (siD s).depth ≤ 3 := by
  have h1 : (lkD s.1).depth ≤ 2 := dep_strD _
  have h2 := anD_dep s.2
  simp only [siD, PyData.depth, PyData.depthAll]
  omega
section
variable {K : PySem.W.Frag} {H : Hp}
theorem lk_dp {u : Addr} {k : Lk} (h : H u = some (.tup (lkV k))) : Dp K H (.ref u) (lkD k) := .tup (SqT.of (by rw [h, lkV_S])) (dp_strs (lkS k))
theorem an_dp {v : V} {a : An} (h : AnAt H v a) : Dp K H v (anD a) := by
  cases a with
  | no =>
    cases (show v = .non from h)
    exact .non
  | tx z =>
    cases (show v = .str z from h)
    exact .str z
  | es l =>
    obtain ⟨b, rfl, hb⟩ := h
    refine .tup (SqT.of (xs := (l.map fun e => ent e.1 e.2).map V.str) ?_) (dp_strs _)
    rw [hb, List.map_map]
    rfl
end
theorem eqv_strs : ∀ l m : List Str, PyData.eqvAll (l.map .str) (m.map .str) = decide (l = m)
  | [], [] => by simp [PyData.eqvAll]
  | [], z :: m => by simp [PyData.eqvAll]
  | z :: l, [] => by simp [PyData.eqvAll]
  | y :: l, z :: m => by
    have ih := eqv_strs l m
    simp only [List.map_cons, PyData.eqvAll, PyData.eqv, ih]
    by_cases e : y = z
    · subst e
      simp
    · have : (y == z) = false := beq_eq_false_iff_ne.mpr e
      simp [this, e]
theorem eqv_strD (l m : List Str) : PyData.eqv (strD l) (strD m) = decide (l = m) := by
  simp only [strD, PyData.eqv]
  exact eqv_strs l m
theorem lkS_inj {k k' : Lk} (h : LkW k) (h' : LkW k') (e : lkS k = lkS k') : k = k' := by
  cases k <;> cases k' <;> simp only [lkS, List.cons.injEq, and_true, reduceCtorEq, and_false] at e
  · rw [js_inj h.1 h'.1 e.2]
  · exact absurd e.1 (by decide +kernel)
  · exact absurd e.1 (by decide +kernel)
  · exact absurd e.1 (by decide +kernel)
  · rw [js_inj h.1 h'.1 e.2]
  · exact absurd e.1 (by decide +kernel)
  · exact absurd e.1 (by decide +kernel)
  · exact absurd e.1 (by decide +kernel)
  · rw [e.2]
  · rfl
theorem ents_inj : ∀ {l m : List (Str × Bool)}, (∀ e ∈ l, IsNm e.1) → (∀ e ∈ m, IsNm e.1) → (l.map fun e => ent e.1 e.2) = (m.map fun e => ent e.1 e.2) → l = m
  | [], [], _, _, _ => rfl
  | [], _ :: _, _, _, e => by simp at e
  | _ :: _, [], _, _, e => by simp at e
  | (a, b) :: l, (c, d) :: m, hl, hm, e => by
    simp only [List.map_cons, List.cons.injEq] at e
    obtain ⟨e1, e2⟩ := ent_inj (hl _ List.mem_cons_self) (hm _ List.mem_cons_self) e.1
    rw [ents_inj (fun x hx => hl x (List.mem_cons_of_mem _ hx)) (fun x hx => hm x (List.mem_cons_of_mem _ hx)) e.2]
    simp only at e1
    rw [e1, e2]
theorem eqv_lk {k k' : Lk} (h : LkW k) (h' : LkW k') : PyData.eqv (lkD k) (lkD k') = decide (k = k') := by
  show PyData.eqv (strD _) (strD _) = _
  rw [eqv_strD, decide_eq_decide]
  exact ⟨lkS_inj h h', fun e => by rw [e]⟩
theorem eqv_an {a a' : An} (h : AnW a) (h' : AnW a') : PyData.eqv (anD a) (anD a') = decide (a = a') := by
  cases a <;> cases a' <;> simp only [anD, strD, PyData.eqv]
  · simp
  · simp
  · simp
  · simp
  · rename_i y z
    by_cases e : y = z
    · subst e
      simp
    · have : (y == z) = false := beq_eq_false_iff_ne.mpr e
      simp [this, e]
  · simp
  · simp
  · simp
  · rename_i l m
    refine (eqv_strs _ _).trans ?_
    rw [decide_eq_decide]
    exact ⟨fun e => by rw [ents_inj h.1 h'.1 e], fun e => by
      cases e
      rfl⟩
end T6

set_option maxHeartbeats 3900000
namespace T6
open PySem PySem.Spec PyProof.Rows L2 TL
open C8 (pss_cut tCut pe_gc)
open CB
def lostF (q : List Str) : Lk → Bool
  | .rd p => ben p q || ben q p
  | .ls p => decide (p = q) || ben p q
  | _ => false
def lostP (q : List Str) (l : List (Str × Bool)) (w : Bool) (p : List Str) : Bool :=
  if ben p q = true then
    match p.drop q.length with
    | [] => true
    | n :: r => if (n, true) ∈ l then w && decide (r = []) else if (n, false) ∈ l then !w || !decide (r = []) else true
  else w && (decide (q = p) || ben q p)
def lostN (q : List Str) (l : List (Str × Bool)) : Lk → Bool
  | .rd p => lostP q l true p
  | .ls p => lostP q l false p
  | _ => false
def follL (s : Lk × An) (k : Lk) : Bool := match s with
  | (.rd _, .no) => false
  | (.rd q, _) => lostF q k
  | (.ls q, .no) => match k with
    | .rd p => ben p q
    | .ls p => ben p q
    | _ => false
  | (.ls q, .es l) => lostN q l k
  | _ => false
def SisL (H : Hp) (D : Addr) (ss : List (Lk × An)) : Prop := ∃ vs : List V, H D = some (.lst vs) ∧ vs.length = ss.length ∧ ∀ (i : Nat) (v : V) (s : Lk × An), vs[i]? = some v → ss[i]? = some s → SiAt H v s
def SiOk' (s : Lk × An) : Prop := SiOk s ∧ SiW s
section
variable {P : Program} {w : World} {K : PySem.W.Frag} {mg : Str → Option Value} {base : Heap}
end
end T6

set_option maxHeartbeats 3900000
namespace T6
open PySem PySem.Spec PyProof.Rows L2 TL
open C8 (pss_cut tCut pe_gc)
open CB
section
variable {P : Program} {w : World} {K : PySem.W.Frag} {mg : Str → Option Value} {base : Heap}
end
end T6

set_option maxHeartbeats 3900000
namespace CB
open PySem PySem.Spec PyProof.Rows L2 PyProof.V
section
variable {X : Cx}
variable {K0 : PySem.W.Frag}
theorem len_seqK (hK : X.K = K0) : CallR X (.builtin "len") (fun xs H Q => ∃ p ys, xs = [V.ref p] ∧ (SqL K0 H p ys ∨ SqT K0 H p ys) ∧ Q (V.int (ys.length : Int)) H) := by
  subst hK
  exact call_len_seq
end
end CB

set_option maxHeartbeats 3900000
namespace T6
open PySem PySem.Spec PyProof.Rows L2 TL
open C8 (pss_cut tCut pe_gc)
open CB
abbrev sSome : Stmt := top 40
theorem er_perm : ∀ (l : List Str) (m : Nat) (h : m < l.length), (l[m] :: l.eraseIdx m).Perm l
  | x :: r, 0, _ => List.Perm.refl _
  | x :: r, m + 1, h => by
    have hm : m < r.length := by simpa using h
    have ih := er_perm r m hm
    show (r[m]'hm :: x :: r.eraseIdx m).Perm (x :: r)
    exact (List.Perm.swap x (r[m]'hm) (r.eraseIdx m)).trans (List.Perm.cons x ih)
theorem er_map : ∀ (l : List Str) (m : Nat), (l.map V.str).eraseIdx m = (l.eraseIdx m).map V.str
  | [], _ => rfl
  | _ :: _, 0 => rfl
  | x :: r, m + 1 => by
    show V.str x :: (r.map V.str).eraseIdx m = V.str x :: (r.eraseIdx m).map V.str
    rw [er_map r m]
def spMixed : Sp := fun vs H Q _ => ∃ (st l p : Addr) (c : Nat) (zs : List Str), vs = [.ref st, .ref p] ∧ Strm H st l c ∧ c ≤ 900000 ∧ Pool H st l p zs ∧ zs.length < 1000 ∧
  ∀ (D : Addr) (ys : List Str) (H' : Hp), ys.Perm zs → H D = none → Pool H' st l D ys → But st l H H' → Strm H' st l (c + zs.length) → Q (.ref D) H'
def LksL (H : Hp) (D : Addr) (ks : List Lk) : Prop := ∃ vs : List V, H D = some (.lst vs) ∧ vs.length = ks.length ∧ ∀ (i : Nat) (v : V) (k : Lk), vs[i]? = some v → ks[i]? = some k → ∃ t, v = .ref t ∧ H t = some (.tup (lkV k))
def spLooks : Sp := fun vs H Q _ => ∃ (st l p : Addr) (c : Nat) (zs : List Str) (many : Int), vs = [.ref st, .ref p, .int many] ∧ Strm H st l c ∧ c ≤ 700000 ∧ Pool H st l p zs ∧ 0 < zs.length ∧ zs.length < 1000 ∧ (∀ z ∈ zs, IsNm z) ∧ 0 ≤ many ∧ many ≤ 100 ∧
  ∀ (D : Addr) (ks : List Lk) (H' : Hp) (c' : Nat), (ks.length : Int) ≤ many → (∀ k ∈ ks, LkOn zs 3 k) → ks.Nodup → H D = none → LksL H' D ks → But st l H H' → Strm H' st l c' → c' ≤ c + 6 * many.toNat → Q (.ref D) H'
abbrev Oka (z : Str) : Prop := Okz z ∧ z.length ≤ 20
def AnOn (zs : List Str) : An → Prop
  | .no => True
  | .tx z => Oka z
  | .es l => (∀ e ∈ l, e.1 ∈ zs) ∧ l.length ≤ 20
def spSome : Sp := fun vs H Q _ => ∃ (st l p t : Addr) (c : Nat) (zs : List Str) (k : Lk), vs = [.ref st, .ref p, .ref t] ∧ Strm H st l c ∧ c ≤ 700000 ∧ Pool H st l p zs ∧ zs.Nodup ∧ 0 < zs.length ∧ zs.length < 20 ∧ (∀ z ∈ zs, IsNm z) ∧ H t = some (.tup (lkV k)) ∧ LkW k ∧
  ∀ (v : V) (a : An) (H' : Hp) (c' : Nat), AnAt H' v a → AnOk k a → AnOn zs a → But st l H H' → Strm H' st l c' → c' ≤ c + 60 → Q v H'
section
variable {P : Program} {w : World} {K : PySem.W.Frag} {mg : Str → Option Value} {base : Heap} {fD fP fPa fFr fMx fTe fLo : Addr} {fdD fdP fdPa fdFr fdMx fdTe fdLo : FuncData}
theorem scMx : FnScope ["_law_stream", "_law_things", "_law_left", "_law_k"] ["_law_stream", "_law_things"] (defScope sMixed) := ⟨rfl, rfl, rfl, by decide +kernel, rfl, by decide +kernel, by decide +kernel⟩
theorem ok_mixed {f : Addr} {fd : FuncData} (F : Fun K "_law_mixed" "_law_mixed" sMixed f fd) (T : TB mg) (aD : aD' K mg fD fdD) (GD : FnOk P w K mg base CX0 1 fD fdD ["_law_stream", "_law_many"] spDraw) : FnOk P w K mg base CX0 2 f fd ["_law_stream", "_law_things"] spMixed := by
  refine F.ok scMx (fun vs H Q E h => ?_) (fun cdv A outer s H vs Q E hr h => ?_)
  · obtain ⟨st, l, p, c, zs, rfl, _⟩ := h
    rfl
  · obtain ⟨st, l, p, c, zs, rfl, S, hc, L, z1, k⟩ := h
    refine ⟨_, pss_cons (ps_set (i := 2) scMx.nd rfl (Or.inr rfl) (pe_callTy call_list_of (by rfl) T.list (by decide +kernel) (pa_cons (pv 1) pa_nil)))
            (pss_one (ps_ret (pe_lc (own := [("_law_k", 3)]) (g := gName 3) (tt := tYes) rfl scMx.nd (pi_range1 rfl T.range (pa_cons (pe_callB call_len_seq (by rfl) T.len PySem.boot_len (pa_cons (pv 2) pa_nil)) pa_nil)) (blkOk_by (own := [("_law_k", 3)]) (N := ["_law_stream", "_law_things", "_law_left", "_law_k"]) (sc := defScope sMixed) (by decide +kernel)) (fun _ _ _ _ _ => (pg_name (i := 3) scMx.nd rfl (Or.inl rfl))) (fun _ _ _ _ _ => pts_nil) (fun _ _ _ _ _ => (by exact (pe_bmK K rfl PySem.F.plainAttrs_list PySem.F.slot_list_pop PySem.F.type_list_pop mt_popAt (pv 2) (pa_cons (pe_call GD (hr.mono (by decide)) rfl aD.m aD.k aD.b .nil pass0 (pa_cons (pv 0) (pa_cons (pe_callB (len_seqK (K0 := K) rfl) (by rfl) T.len PySem.boot_len (pa_cons (pv 2) pa_nil)) pa_nil))) pa_nil))))))), ?_⟩
    refine ⟨_, rfl, p, _, rfl, .inl (SqL.of L.h), fun u hu => ?_⟩
    have nu := S.ne_new hu
    have S0 := S.up (same_mk (o := .lst (zs.map V.str)) hu)
    refine ⟨_, rfl, u, _, rfl, .inl (SqL.of upd_same), _, rfl, by omega, by rw [List.length_map]; omega, fun D hD => ?_⟩
    rw [List.length_map]
    have nD := S0.ne_new hD
    have uD : u ≠ D := ne_of_none upd_same hD
    have s01 : Same H (upd H u (.lst (zs.map V.str))) := same_mk hu
    have hDH : H D = none := s01.free hD
    refine lc_range (lo := 0) (n := ((zs.length : Nat) : Int).toNat) (fun i H' => But st l H H' ∧ Strm H' st l (c + i) ∧ ∃ rem ys : List Str, ys.length = i ∧ (ys ++ rem).Perm zs ∧ H' u = some (.lst (rem.map V.str)) ∧ H' D = some (.lst (ys.map V.str)))
      ⟨But.same (s01.trans (same_mk hD)), S0.up (same_mk hD), zs, [], rfl, List.Perm.refl _, by rw [upd_ne uD]; exact upd_same, upd_same⟩ ?_ ?_
    · rintro i H' hi ⟨B', S', rem, ys, hy, pm, hu', hD'⟩
      have hi' : i < zs.length := by simpa using hi
      have rl : rem.length = zs.length - i := by
        have := pm.length_eq
        rw [List.length_append] at this
        omega
      refine ⟨rfl, _, rfl, .inl ⟨rfl, _, SqL.of hu'⟩, _, rfl, _, rfl, u, _, rfl, .inl (SqL.of hu'), st, l, c + i, _, rfl, S', by omega, by rw [List.length_map]; omega, by rw [List.length_map]; omega, fun d H'' d0 d1 B'' S'' => ?_⟩
      rw [List.length_map] at d1
      obtain ⟨m, rfl⟩ := Int.eq_ofNat_of_zero_le d0
      have hm : m < rem.length := by omega
      have hu2 := B'' _ _ hu' nu.1 nu.2
      have hD2 := B'' _ _ hD' nD.1 nD.2
      have sx : seqIndex? (m : Int) (rem.map V.str).length = some m := by
        rw [List.length_map]
        have h0 : ¬ ((m : Int) < 0) := by omega
        simp [seqIndex?, h0, hm]
      refine ⟨u, _, m, m, .str rem[m], rfl, rfl, hu2, by omega, by omega, sx, by rw [List.getElem?_map, List.getElem?_eq_getElem hm]; rfl, _, by rw [upd_ne uD.symm]; exact hD2, ?_, ?_, ?_, rem.eraseIdx m, ys ++ [rem[m]], ?_, ?_, ?_, ?_⟩
      · rw [List.length_map, hy]
        exact Nat.lt_of_lt_of_le (show i < 1000 by omega) (by decide)
      · intro b o hb n1 n2
        by_cases e1 : b = D
        · rw [e1, hDH] at hb
          cases hb
        · rw [upd_ne e1]
          by_cases e2 : b = u
          · rw [e2, hu] at hb
            cases hb
          · rw [upd_ne e2]
            exact B'' _ _ (B' _ _ hb n1 n2) n1 n2
      · exact (S''.put nu).put nD
      · rw [List.length_append, hy]
        rfl
      · rw [List.append_assoc]
        exact (List.Perm.append_left ys (er_perm rem m hm)).trans pm
      · rw [upd_ne uD, upd_same, er_map]
      · rw [upd_same, List.map_append]
        rfl
    · rintro H' ⟨B', S', rem, ys, hy, pm, hu', hD'⟩
      have hy' : ys.length = zs.length := by simpa using hy
      have rl : rem.length = 0 := by
        have := pm.length_eq
        rw [List.length_append] at this
        omega
      rw [List.length_eq_zero_iff.mp rl, List.append_nil] at pm
      exact k D ys H' pm hDH ⟨hD', nD.1, nD.2⟩ B' (by simpa using S')
theorem dp_lks {H : Hp} : ∀ {vs : List V} {ks : List Lk}, vs.length = ks.length → (∀ (i : Nat) (v : V) (k : Lk), vs[i]? = some v → ks[i]? = some k → ∃ t, v = .ref t ∧ H t = some (.tup (lkV k))) → DpAll K H vs (ks.map lkD)
  | [], [], _, _ => .nil
  | [], _ :: _, h, _ => by cases h
  | _ :: _, [], h, _ => by cases h
  | v :: vs, k :: ks, h, a => by
    obtain ⟨t, rfl, ht⟩ := a 0 v k rfl rfl
    exact .cons (lk_dp ht) (dp_lks (Nat.succ.inj h) fun i v' k' hv hk => a (i + 1) v' k' hv hk)
theorem lay_lks : ∀ ks : List Lk, (∀ k ∈ ks, LkW k) → PyData.canLayAll0 (ks.map lkD) = true
  | [], _ => by simp [PyData.canLayAll0]
  | k :: r, h => by
    have h1 : (lkD k).canLay0 = true := lay_strD _ (lkS_ok (h k List.mem_cons_self))
    simp [PyData.canLayAll0, lay_lks r fun y hy => h y (List.mem_cons_of_mem _ hy), h1]
theorem dep_lks : ∀ ks : List Lk, PyData.depthAll (ks.map lkD) ≤ 2
  | [] => by simp [PyData.depthAll]
  | k :: r => by
    have h1 : (lkD k).depth ≤ 2 := dep_strD _
    have := dep_lks r
    simp only [List.map_cons, PyData.depthAll]
    omega
theorem shaped_lks (ks : List Lk) (h : ∀ k ∈ ks, LkW k) : SeqAt.shaped (.list (ks.map lkD)) = true := by
  refine shaped_mk ?_ ?_
  · simp only [PyData.canLay0]
    exact lay_lks ks h
  · have := dep_lks ks
    simp only [PyData.depth]
    omega
theorem lkOn_w {zs : List Str} {m : Nat} {k : Lk} (hz : ∀ z ∈ zs, IsNm z) (hm : m ≤ 100) (h : LkOn zs m k) : LkW k := by
  cases k with
  | rd p => exact ⟨fun y hy => hz y (h.2.2 y hy), Nat.le_trans h.2.1 hm⟩
  | ls p => exact ⟨fun y hy => hz y (h.2 y hy), Nat.le_trans h.1 hm⟩
  | se n => exact hz n h
  | tl => trivial
theorem scLs : FnScope ["_law_stream", "_law_pool_here", "_law_many", "_law_found", "_law_k", "_law_look_here"] ["_law_stream", "_law_pool_here", "_law_many"] (defScope sLooks) := ⟨rfl, rfl, rfl, by decide +kernel, rfl, by decide +kernel, by decide +kernel⟩
theorem ok_looks {f : Addr} {fd : FuncData} (F : Fun K "_law_looks" "_law_looks" sLooks f fd) (T : TB mg) (aLo : At K mg "_law_look" fLo fdLo ["_law_stream", "_law_pool_here"]) (GLo : FnOk P w K mg base CX0 4 fLo fdLo ["_law_stream", "_law_pool_here"] spLook) : FnOk P w K mg base CX0 5 f fd ["_law_stream", "_law_pool_here", "_law_many"] spLooks := by
  refine F.ok scLs (fun vs H Q E h => ?_) (fun cdv A outer s H vs Q E hr h => ?_)
  · obtain ⟨st, l, p, c, zs, many, rfl, _⟩ := h
    rfl
  · obtain ⟨st, l, p, c, zs, many, rfl, S, hc, L, z0, z1, nm, m0, m1, k⟩ := h
    obtain ⟨n, rfl⟩ := Int.eq_ofNat_of_zero_le m0
    have hu5 := hr.un
    have hu5 : (A.deeper (envOfC "_law_looks" (defScope sLooks) s.heap.objs.size f cdv)).units + 65 < cLine := by omega
    refine ⟨_, pss_cons (ps_set (i := 3) scLs.nd rfl (Or.inl rfl) (pe_lst pa_nil))
            (pss_cons (ps_for PassesOwn.never rfl (pi_range1 rfl T.range (pa_cons (pv 2) pa_nil)) (pg_name (i := 4) scLs.nd rfl (Or.inl rfl)) (pss_cons (ps_set (i := 5) scLs.nd rfl (Or.inl rfl) (pe_call GLo (hr.mono (by decide)) rfl aLo.m aLo.k aLo.b .nil pass0 (pa_cons (pv 0) (pa_cons (pv 1) pa_nil))))
            (pss_one (ps_expr (pe_bm PySem.F.plainAttrs_list PySem.F.slot_list_extend PySem.F.type_list_extend mt_extend (pv 3) (pa_cons (pe_op op_rep (pe_lst (pa_cons (pv 5) pa_nil)) (pe_callTy call_int1 (by rfl) T.int (by decide +kernel) (pa_cons (pe_cmpR (op_notInD hu5) (pv 5) (pv 3) (by rfl)) pa_nil))) pa_nil))))))
            (pss_one (ps_ret (pv 3)))), ?_⟩
    refine ⟨Nat.zero_le _, fun D hD => ?_⟩
    have nD := S.ne_new hD
    refine ⟨_, rfl, n, rfl, by omega, by omega, for_range (lo := 0) (n := n) (fun i σ H' => ∃ x4 x5 ks, σ = [some (.ref st), some (.ref p), some (.int n), some (.ref D), x4, x5] ∧ ks.length ≤ i ∧ (∀ k ∈ ks, LkOn zs 3 k) ∧ ks.Nodup ∧ LksL H' D ks ∧ But st l H H' ∧ ∃ c', Strm H' st l c' ∧ c' ≤ c + 6 * i)
      ⟨none, none, [], rfl, Nat.zero_le _, by simp, List.nodup_nil, ⟨[], upd_same, rfl, fun i v k h => by cases h⟩, But.same (same_mk hD), c, S.up (same_mk hD), by omega⟩ ?_ ?_⟩
    · rintro i _ H1 hi ⟨x4, x5, ks, rfl, hkl, hks, nd, ⟨ws, hw, hwl, hwa⟩, B1, c1, S1, hc1⟩
      refine ⟨_, rfl, _, rfl, st, l, p, c1, zs, rfl, S1, by omega, L.but B1, z0, z1, nm, fun t k' H2 c2 ok' ht0 ht B2 S2 hc2 => ?_⟩
      have hw2 := B2 _ _ hw nD.1 nD.2
      have hwa2 : ∀ (i : Nat) (v : V) (k : Lk), ws[i]? = some v → ks[i]? = some k → ∃ t, v = .ref t ∧ H2 t = some (.tup (lkV k)) := fun i v k hv hk => by
        obtain ⟨t, e, h⟩ := hwa i v k hv hk
        obtain ⟨ns, a, m, ⟨h1, h2⟩, _⟩ := S1.ex
        exact ⟨t, e, B2 _ _ h (ne_of h h1 (by intro z; cases z)) (ne_of h h2 (by intro z; cases z))⟩
      have kw : ∀ k ∈ ks, LkW k := fun k hk => lkOn_w nm (by decide) (hks k hk)
      refine ⟨_, rfl, .inl ⟨rfl, _, SqL.of hw2⟩, _, rfl, by show 1 ≤ sizeLine; decide, fun q hq => ?_⟩
      have sq := same_mk (o := .lst [.ref t]) hq
      have hw3 := sq _ _ hw2
      refine ⟨_, rfl, _, rfl, lkD k', ks.map lkD, lk_dp (sq _ _ ht), .lst (SqL.of hw3) (dp_lks hwl fun i v k hv hk => ?_), lkD_shaped (lkOn_w nm (by decide) ok'), shaped_lks ks kw, .inr ⟨_, rfl, q, _, [.ref t], rfl, rfl, upd_same, ?_⟩⟩
      · obtain ⟨t', e, h⟩ := hwa2 i v k hv hk
        exact ⟨t', e, sq _ _ h⟩
      have eb : (!(ks.map lkD).any fun z => PyData.eqv z (lkD k')) = decide (k' ∉ ks) := by
        have e1 : ((ks.map lkD).any fun z => PyData.eqv z (lkD k')) = decide (k' ∈ ks) := by
          rw [List.any_map, Bool.eq_iff_iff, List.any_eq_true, decide_eq_true_iff]
          constructor
          · rintro ⟨x, hx, e⟩
            have e2 := eqv_lk (kw x hx) (lkOn_w nm (by decide) ok')
            rw [show PyData.eqv (lkD x) (lkD k') = true from e] at e2
            obtain rfl := of_decide_eq_true e2.symm
            exact hx
          · intro hx
            exact ⟨k', hx, (eqv_lk (kw k' hx) (kw k' hx)).trans (decide_eq_true rfl)⟩
        rw [e1, decide_not]
      generalize (!(ks.map lkD).any fun z => PyData.eqv z (lkD k')) = b at eb ⊢
      refine ⟨by cases b <;> decide, by cases b <;> decide, by cases b <;> first | exact Nat.zero_le _ | exact (show 1 ≤ sizeLine by decide), fun r hr' => ?_⟩
      have sr := same_mk (o := .lst (List.replicate (if b = true then 1 else 0 : Int).toNat [V.ref t]).flatten) hr'
      have hw4 := sr _ _ hw3
      have nq := S2.ne_new hq
      have S3 := S2.up sq
      have nr := S3.ne_new hr'
      have Dr : D ≠ r := ne_of_none hw3 hr'
      have HD : H D = none := hD
      have wl : ws.length ≤ 100 := by omega
      refine ⟨D, r, ws, _, rfl, rfl, hw4, upd_same, ?_, _, _, if b = true then ks ++ [k'] else ks, rfl, ?_, ?_, ?_, ⟨ws ++ (List.replicate (if b = true then 1 else 0 : Int).toNat [V.ref t]).flatten, upd_same, ?_, ?_⟩, ?_, c2, ?_, by omega⟩
      · cases b
        · exact Nat.le_trans (show ws.length + 0 ≤ 101 by omega) (by decide)
        · exact Nat.le_trans (show ws.length + 1 ≤ 101 by omega) (by decide)
      · cases b
        · exact Nat.le_succ_of_le hkl
        · show (ks ++ [k']).length ≤ i + 1
          rw [List.length_append]
          exact Nat.succ_le_succ hkl
      · intro x hx
        cases b
        · exact hks x hx
        · rcases List.mem_append.mp hx with e | e
          · exact hks x e
          · rw [List.mem_singleton.mp e]
            exact ok'
      · cases b
        · exact nd
        · have no := of_decide_eq_true eb.symm
          exact List.nodup_append.mpr ⟨nd, List.nodup_cons.mpr ⟨List.not_mem_nil, List.nodup_nil⟩, fun x hx y hy e => no (by rw [List.mem_singleton.mp hy] at e; rw [← e]; exact hx)⟩
      · cases b
        · show (ws ++ []).length = ks.length
          rw [List.append_nil, hwl]
        · show (ws ++ [V.ref t]).length = (ks ++ [k']).length
          rw [List.length_append, List.length_append, hwl]
          rfl
      · have up : ∀ t' k, H2 t' = some (.tup (lkV k)) → upd (upd (upd H2 q (.lst [.ref t])) r (.lst (List.replicate (if b = true then 1 else 0 : Int).toNat [V.ref t]).flatten)) D (.lst (ws ++ (List.replicate (if b = true then 1 else 0 : Int).toNat [V.ref t]).flatten)) t' = some (.tup (lkV k)) := fun t' k h => by
          rw [upd_ne (ne_of h hw2 (by intro z; cases z))]
          exact sr _ _ (sq _ _ h)
        intro m v k'' hv hk
        cases b
        · have hv : (ws ++ [])[m]? = some v := hv
          rw [List.append_nil] at hv
          obtain ⟨t', e, h⟩ := hwa2 m v k'' hv hk
          exact ⟨t', e, up _ _ h⟩
        · have hv : (ws ++ [V.ref t])[m]? = some v := hv
          have hk : (ks ++ [k'])[m]? = some k'' := hk
          by_cases e : m < ws.length
          · rw [List.getElem?_append_left e] at hv
            rw [List.getElem?_append_left (by omega)] at hk
            obtain ⟨t', e, h⟩ := hwa2 m v k'' hv hk
            exact ⟨t', e, up _ _ h⟩
          · rw [List.getElem?_append_right (by omega)] at hv hk
            have := (List.getElem?_eq_some_iff.mp hv).1
            rw [List.length_singleton] at this
            have e0 : m - ws.length = 0 := by omega
            have e1 : m - ks.length = 0 := by omega
            rw [e0] at hv
            rw [e1] at hk
            cases hv
            cases hk
            exact ⟨t, rfl, up _ _ ht⟩
      · intro x o hx n1 n2
        have xD : x ≠ D := fun z => by
          rw [z, HD] at hx
          cases hx
        rw [upd_ne xD]
        exact sr _ _ (sq _ _ (B2 _ _ (B1 _ _ hx n1 n2) n1 n2))
      · exact (S3.up sr).put nD
    · rintro _ H2 ⟨x4, x5, ks, rfl, hkl, hks, nd, hL, B2, c2, S2, hc2⟩
      exact ⟨_, rfl, k D ks H2 c2 (by omega) hks nd hD hL B2 S2 (by omega)⟩
end
end T6

set_option maxHeartbeats 3900000
namespace T6
open PySem PySem.Spec PyProof.Rows L2 TL
open C8 (pss_cut tCut pe_gc)
open CB
theorem lt_tri : ∀ a b : List Nat, a < b ∨ a = b ∨ b < a
  | [], [] => .inr (.inl rfl)
  | [], y :: b => .inl (List.nil_lt_cons y b)
  | x :: a, [] => .inr (.inr (List.nil_lt_cons x a))
  | x :: a, y :: b => by
    rcases Nat.lt_trichotomy x y with h | h | h
    · exact .inl (List.cons_lt_cons_iff.mpr (.inl h))
    · subst h
      rcases lt_tri a b with g | g | g
      · exact .inl (List.cons_lt_cons_iff.mpr (.inr ⟨rfl, g⟩))
      · exact .inr (.inl (by rw [g]))
      · exact .inr (.inr (List.cons_lt_cons_iff.mpr (.inr ⟨rfl, g⟩)))
    · exact .inr (.inr (List.cons_lt_cons_iff.mpr (.inl h)))
theorem lt_tr : ∀ a b c : List Nat, a < b → b < c → a < c := fun _ _ _ h g => List.lt_trans h g
theorem rising_pw : ∀ (p : Str) (l : List Str), risingS p l = true → (p :: l).Nodup → (p :: l).Pairwise (fun a b : Str => a.cps.toList < b.cps.toList)
  | p, [], _, _ => List.pairwise_singleton _ _
  | p, x :: r, h, nd => by
    have h : (!ltCps x.cps.toList p.cps.toList && risingS x r) = true := h
    rw [Bool.and_eq_true] at h
    obtain ⟨h1, h2⟩ := h
    rw [ltCps_eq] at h1
    have nd2 := List.nodup_cons.mp nd
    have ih := rising_pw x r h2 nd2.2
    have px : p.cps.toList < x.cps.toList := by
      rcases lt_tri p.cps.toList x.cps.toList with g | g | g
      · exact g
      · exact absurd (by rw [ext_tl g]; exact List.mem_cons_self) nd2.1
      · rw [decide_eq_true g] at h1
        cases h1
    refine List.pairwise_cons.mpr ⟨fun y hy => ?_, ih⟩
    rcases List.mem_cons.mp hy with e | e
    · rw [e]
      exact px
    · exact lt_tr _ _ _ px ((List.pairwise_cons.mp ih).1 y e)
theorem sorted_pw {l : List Str} (h : sortedS l = true) (nd : l.Nodup) : l.Pairwise (fun a b : Str => a.cps.toList < b.cps.toList) := by
  cases l with
  | nil => exact .nil
  | cons p r => exact rising_pw p r h nd
theorem cut_take (xs : List V) (d : Nat) : cutV xs none (some (d : Int)) = xs.take d := by
  show (xs.drop (HT.sIx xs.length 0 none)).take (HT.sIx xs.length xs.length (some (d : Int)) - HT.sIx xs.length 0 none) = xs.take d
  rw [HT.sIx_none, HT.sIx_nat, List.drop_zero, Nat.sub_zero]
  by_cases h : d ≤ xs.length
  · rw [Nat.min_eq_left h]
  · rw [Nat.min_eq_right (by omega), List.take_of_length_le (Nat.le_refl _), List.take_of_length_le (by omega)]
section
variable {P : Program} {w : World} {K : PySem.W.Frag} {mg : Str → Option Value} {base : Heap} {fD fP fPa fFr fMx fTe fLo : Addr} {fdD fdP fdPa fdFr fdMx fdTe fdLo : FuncData}
theorem scSo : FnScope ["_law_stream", "_law_pool_here", "_law_look_here", "_law_names", "_law_found", "_law_name"] ["_law_stream", "_law_pool_here", "_law_look_here"] (defScope sSome) := ⟨rfl, rfl, rfl, by decide +kernel, rfl, by decide +kernel, by decide +kernel⟩
theorem ok_some {f : Addr} {fd : FuncData} (F : Fun K "_law_some_answer" "_law_some_answer" sSome f fd) (T : TB mg) (aD : aD' K mg fD fdD) (aMx : At K mg "_law_mixed" fMx fdMx ["_law_stream", "_law_things"]) (aTe : At K mg "_law_text" fTe fdTe ["_law_stream"])
    (GD : FnOk P w K mg base CX0 1 fD fdD ["_law_stream", "_law_many"] spDraw) (GMx : FnOk P w K mg base CX0 2 fMx fdMx ["_law_stream", "_law_things"] spMixed) (GTe : FnOk P w K mg base CX0 2 fTe fdTe ["_law_stream"] spText) : FnOk P w K mg base CX0 3 f fd ["_law_stream", "_law_pool_here", "_law_look_here"] spSome := by
  refine F.ok scSo (fun vs H Q E h => ?_) (fun cdv A outer s H vs Q E hr h => ?_)
  · obtain ⟨st, l, p, t, c, zs, k, rfl, _⟩ := h
    rfl
  · have hu := hr.units
    obtain ⟨st, l, p, t, c, zs, k, rfl, S, hc, L, znd, z0, z1, nm, ht, kw, fin⟩ := h
    refine ⟨_, pss_cons (ps_if (pt_cmpR op_eq (pe_ix ix_tup (pv 2) pe_int (fun _ _ => rfl)) pe_str (nomark _)) (pss_cut (ps_if (PW.pt (pw_and (pt_cmpR op_ne (pe_ix ix_tup (pv 2) pe_int (fun _ _ => rfl)) pe_str (nomark _)) (pw_and1 (pt_cmpR op_eq (pe_call GD (hr.mono (by decide)) rfl aD.m aD.k aD.b .nil pass0 (pa_cons (pv 0) (pa_cons pe_int pa_nil))) pe_int (nomark _))))) (pss_one (ps_ret pe_non)) (pss_nil))
            (pss_cons (ps_set (i := 3) scSo.nd rfl (Or.inl rfl) (pe_callB cr_sortedS (by rfl) T.sorted (by decide +kernel) (pa_cons (pe_slice sl_list (pe_call GMx (hr.mono (by decide)) rfl aMx.m aMx.k aMx.b .nil pass0 (pa_cons (pv 0) (pa_cons (pv 1) pa_nil))) po_none (po_some (pe_call GD (hr.mono (by decide)) rfl aD.m aD.k aD.b .nil pass0 (pa_cons (pv 0) (pa_cons pe_int pa_nil))))) pa_nil)))
            (pss_cons (ps_set (i := 4) scSo.nd rfl (Or.inl rfl) (pe_callTy call_tuple_of (by rfl) T.tuple (by decide +kernel) (pa_cons (pe_lc (own := [("_law_name", 5)]) (g := gName 5) (tt := tYes) rfl scSo.nd (pi_list (pv 3)) (blkOk_by (own := [("_law_name", 5)]) (N := ["_law_stream", "_law_pool_here", "_law_look_here", "_law_names", "_law_found", "_law_name"]) (sc := defScope sSome) (by decide +kernel)) (fun _ _ _ _ _ => (pg_name (i := 5) scSo.nd rfl (Or.inl rfl))) (fun _ _ _ _ _ => pts_nil) (fun _ _ _ _ _ => (by exact (pe_op op_add_str (pv 5) (pe_ix (ix_listK (K0 := K) rfl) (pe_lst (pa_cons pe_str (pa_cons pe_str pa_nil))) (pe_call GD (hr.mono (by decide)) rfl aD.m aD.k aD.b .nil pass0 (pa_cons (pv 0) (pa_cons pe_int pa_nil))) (fun _ _ => rfl)))))) pa_nil)))
            (pss_one (ps_ret (pe_ifExp (PW.pt (pw_or (pt_cmpR (op_neD hu) (pv 4) (pe_tup pa_nil) (nomark _)) (pw_or1 (pt_cmpR op_eq (pe_ix ix_tup (pv 2) pe_int (fun _ _ => rfl)) pe_str (nomark _))))) (pv 4) (pe_tup (pa_cons (pe_ix ix_list (pv 1) pe_int (fun _ _ => rfl)) pa_nil)))))))) (pss_nil))
            (pss_cons (ps_if (PW.pt (pw_and (pt_cmpR op_ne (pe_ix ix_tup (pv 2) pe_int (fun _ _ => rfl)) pe_str (nomark _)) (pw_and1 (pt_cmpR op_eq (pe_call GD (hr.mono (by decide)) rfl aD.m aD.k aD.b .nil pass0 (pa_cons (pv 0) (pa_cons pe_int pa_nil))) pe_int (nomark _))))) (pss_one (ps_ret pe_non)) (pss_nil))
            (pss_one (ps_ret (pe_ifExp (pt_cmpR op_eq (pe_ix ix_tup (pv 2) pe_int (fun _ _ => rfl)) pe_str (nomark _)) (pe_ix ix_list (pe_lst (pa_cons pe_str (pa_cons pe_str (pa_cons pe_str pa_nil)))) (pe_call GD (hr.mono (by decide)) rfl aD.m aD.k aD.b .nil pass0 (pa_cons (pv 0) (pa_cons pe_int pa_nil))) (fun _ _ => rfl)) (pe_call GTe (hr.mono (by decide)) rfl aTe.m aTe.k aTe.b .nil pass0 (pa_cons (pv 0) pa_nil)))))), ?_⟩
    have nt : t ≠ st ∧ t ≠ l := by
      obtain ⟨ns, a, m, ⟨h1, h2⟩, _⟩ := S.ex
      exact ⟨ne_of ht h1 (by intro z; cases z), ne_of ht h2 (by intro z; cases z)⟩
    have tx_ok : ∀ z ∈ texts, Oka z := by decide +kernel
    by_cases isl : ∃ q, k = .ls q
    · obtain ⟨q, rfl⟩ := isl
      -- a folder
      refine ⟨_, rfl, t, _, 0, _, rfl, rfl, SqT.of ht, atI_nat (j := 0) rfl, rfl, _, rfl, iteY rfl ?_⟩
      -- if look[1] != '' and draw(3) == 0: return None
      refine ⟨fun σ H1 => σ = [some (.ref st), some (.ref p), some (.ref t), none, none, none] ∧ But st l H H1 ∧ ∃ c1, Strm H1 st l c1 ∧ c1 ≤ c + 1, ⟨_, rfl, t, _, 1, _, rfl, rfl, SqT.of ht, atI_nat (j := 1) rfl, rfl, _, rfl, ?_⟩, ?_⟩
      · by_cases eq : q = []
        · subst eq
          exact iteF ⟨rfl, fun _ _ e _ _ => e, c, S, by omega⟩
        · rw [decide_eq_false (show ¬ V.str (js q) = V.str "" from fun z => js_ne kw.1 eq (V.str.inj z))]
          refine iteT ⟨_, rfl, st, l, c, _, rfl, S, by omega, by decide, by decide, fun d H1 d0 d1 B1 S1 => ⟨rfl, _, rfl, ite2 (fun _ => ?_) (fun _ => ⟨rfl, B1, c + 1, S1, by omega⟩)⟩⟩
          exact fin .non .no H1 (c + 1) rfl eq trivial B1 S1 (by omega)
      rintro _ H1 ⟨rfl, B1, c1, S1, hc1⟩
      -- names = sorted(mixed(..)[:draw(3)])
      refine ⟨_, rfl, _, rfl, st, l, p, c1, zs, rfl, S1, by omega, L.but B1, by omega, fun D ys H2 pm hD LD B2 S2 => ⟨_, rfl, st, l, c1 + zs.length, _, rfl, S2, by omega, by decide, by decide, fun d H3 d0 d1 B3 S3 => ?_⟩⟩
      obtain ⟨n, rfl⟩ := Int.eq_ofNat_of_zero_le d0
      have LD3 := LD.but B3
      refine ⟨_, rfl, D, _, rfl, SqL.of LD3.h, fun u hu => ?_⟩
      rw [cut_take, ← List.map_take]
      have su := same_mk (o := .lst ((ys.take n).map V.str)) hu
      have ynd : ys.Nodup := pm.nodup_iff.mpr znd
      refine ⟨u, ys.take n, rfl, SqL.of upd_same, ?_, fun xs p' pm' so hp' => ?_⟩
      · rw [List.length_take]
        omega
      have xnd : xs.Nodup := pm'.nodup_iff.mpr (ynd.sublist (List.take_sublist n ys))
      have xlen : xs.length ≤ 2 := by
        have := pm'.length_eq
        rw [List.length_take] at this
        omega
      have xz : ∀ x ∈ xs, x ∈ zs := fun x hx => pm.mem_iff.mp (List.mem_of_mem_take (pm'.mem_iff.mp hx))
      have xpw := sorted_pw so xnd
      have sp := same_mk (o := .lst (xs.map V.str)) hp'
      have B4 : But st l H1 (upd (upd H3 u (.lst ((ys.take n).map V.str))) p' (.lst (xs.map V.str))) := ((B2.trans B3).trans (But.same su)).trans (But.same sp)
      have S4 := (S3.up su).up sp
      have np' := (S3.up su).ne_new hp'
      -- found = tuple([name + ['', '/'][draw(2)] for name in names])
      refine ⟨_, rfl, p', rfl, ⟨_, SqL.of upd_same⟩, fun D2 hD2 => ?_⟩
      have nD2 := S4.ne_new hD2
      have hp4 : (upd (upd H3 u (.lst ((ys.take n).map V.str))) p' (.lst (xs.map V.str))) p' = some (.lst (xs.map V.str)) := upd_same
      generalize hH4 : (upd (upd H3 u (.lst ((ys.take n).map V.str))) p' (.lst (xs.map V.str))) = H4 at *
      have pD2 : p' ≠ D2 := ne_of_none hp4 hD2
      refine lc_list (K := K) (a := p') (xs := xs.map V.str) (fun i H' => But st l H4 H' ∧ Strm H' st l (c1 + zs.length + 1 + i) ∧ ∃ bs : List (Str × Bool), bs.map Prod.fst = xs.take i ∧ H' D2 = some (.lst (bs.map entV)))
        ⟨But.same (same_mk hD2), S4.up (same_mk hD2), [], rfl, upd_same⟩ (fun i H' _ q => SqL.of (q.1 _ _ hp4 np'.1 np'.2)) ?_ ?_
      · rintro i x H5 hx ⟨B5, S5, bs, hbs, hb5⟩
        rw [List.getElem?_map] at hx
        match hxi : xs[i]? with
        | none =>
          rw [hxi] at hx
          cases hx
        | some y =>
          rw [hxi] at hx
          cases hx
          have hi := (List.getElem?_eq_some_iff.mp hxi).1
          have ny : IsNm y := nm y (xz y (List.mem_of_getElem? hxi))
          refine ⟨wipe1 _, _, rfl, by show 2 ≤ sizeLine; decide, fun r hr' => ⟨_, rfl, st, l, c1 + zs.length + 1 + i, _, rfl, S5.up (same_mk hr'), by omega, by decide, by decide, fun d H6 e0 e1 B6 S6 => ?_⟩⟩
          have nr := S5.ne_new hr'
          have hr6 := B6 _ _ upd_same nr.1 nr.2
          have hb6 := B6 _ _ (same_mk (o := .lst [.str "", .str "/"]) hr' _ _ hb5) nD2.1 nD2.2
          have done : ∀ b : Bool, ∃ acc, H6 D2 = some (.lst acc) ∧ acc.length < sizeLine ∧ (But st l H4 (upd H6 D2 (.lst (acc ++ [.str (ent y b)]))) ∧ Strm (upd H6 D2 (.lst (acc ++ [.str (ent y b)]))) st l (c1 + zs.length + 1 + (i + 1)) ∧
              ∃ bs : List (Str × Bool), bs.map Prod.fst = xs.take (i + 1) ∧ upd H6 D2 (.lst (acc ++ [.str (ent y b)])) D2 = some (.lst (bs.map entV))) := fun b => by
            have bl : bs.length ≤ 2 := by
              have := congrArg List.length hbs
              rw [List.length_map, List.length_take] at this
              omega
            refine ⟨_, hb6, ?_, ((B5.trans (But.same (same_mk hr'))).trans B6).put hD2, (by have := S6.put (p := D2) (o := .lst (bs.map entV ++ [.str (ent y b)])) nD2; exact this), bs ++ [(y, b)], ?_, ?_⟩
            · rw [List.length_map]
              exact Nat.lt_of_lt_of_le (show bs.length < 3 by omega) (by decide)
            · rw [List.map_append, hbs, List.take_succ, hxi]
              rfl
            · rw [upd_same, List.map_append]
              rfl
          obtain ⟨m, rfl⟩ := Int.eq_ofNat_of_zero_le e0
          have n8 := ny.2.1
          match m, e1 with
          | 0, _ =>
            refine ⟨r, _, _, _, rfl, rfl, SqL.of hr6, atI_nat (j := 0) rfl, y, "", rfl, rfl, Nat.le_trans (show y.length + 0 ≤ 8 by omega) (by decide), ?_⟩
            rw [show y ++ ("" : Str) = ent y false from ext_tl (by rw [tl_append]; exact List.append_nil _)]
            exact done false
          | 1, _ =>
            refine ⟨r, _, _, _, rfl, rfl, SqL.of hr6, atI_nat (j := 1) rfl, y, "/", rfl, rfl, Nat.le_trans (show y.length + 1 ≤ 9 by omega) (by decide), ?_⟩
            exact done true
          | m + 2, e1 => omega
      rintro H5 ⟨B5, S5, bs, hbs, hb5⟩
      rw [List.length_map] at hbs S5
      rw [List.take_length] at hbs
      have bz : ∀ e ∈ bs, e.1 ∈ xs := fun e he => by
        rw [← hbs]
        exact List.mem_map.mpr ⟨e, he, rfl⟩
      have bl : bs.length ≤ 2 := by
        have := congrArg List.length hbs
        rw [List.length_map] at this
        omega
      have bents : Ents bs := ⟨fun e he => nm _ (xz _ (bz e he)), by rw [hbs]; exact xpw, by omega⟩
      refine ⟨D2, _, rfl, .inl ⟨SqL.of hb5, fun f hf => ?_⟩⟩
      have sf := same_mk (o := .tup (bs.map entV)) hf
      have Bf : But st l H (upd H5 f (.tup (bs.map entV))) := B1.trans ((B4.trans B5).trans (But.same sf))
      have Sf := S5.up sf
      have htf := Bf _ _ ht nt.1 nt.2
      have Lf := L.but Bf
      refine ⟨_, rfl, by exact Nat.zero_le _, fun g hg => ?_⟩
      have sg := same_mk (o := .tup []) hg
      have dpb : Dp K (upd (upd H5 f (.tup (bs.map entV))) g (.tup [])) (.ref f) (anD (.es bs)) := an_dp (a := .es bs) ⟨f, rfl, sg _ _ upd_same⟩
      refine ⟨_, strD [], dpb, .tup (SqT.of (xs := []) upd_same) .nil, anD_shaped ⟨bents.1, by omega⟩, shaped_strs [] (by simp), ?_⟩
      rw [show PyData.eqv (anD (.es bs)) (strD []) = decide (bs = []) by
        show PyData.eqv (strD _) (strD []) = _
        rw [eqv_strD, decide_eq_decide]
        exact List.map_eq_nil_iff]
      have Bg : But st l H (upd (upd H5 f (.tup (bs.map entV))) g (.tup [])) := Bf.trans (But.same sg)
      have Sg := Sf.up sg
      have out : (bs ≠ [] ∨ q = []) → Q (.ref f) (upd (upd H5 f (.tup (bs.map entV))) g (.tup [])) := fun ho => fin (.ref f) (.es bs) _ _ ⟨f, rfl, sg _ _ upd_same⟩ ⟨bents, ho⟩ ⟨fun e he => xz _ (bz e he), by omega⟩ Bg Sg (by omega)
      by_cases eb : bs = []
      · rw [decide_eq_true eb]
        refine ⟨_, rfl, iteF ⟨_, rfl, t, _, 1, _, rfl, rfl, SqT.of (sg _ _ htf), atI_nat (j := 1) rfl, rfl, _, rfl, ?_⟩⟩
        by_cases eq : q = []
        · subst eq
          exact iteY rfl ⟨_, rfl, out (.inr rfl)⟩
        · refine iteN (fun z => js_ne kw.1 eq (V.str.inj z)) ⟨_, rfl, p, zs.map V.str, 0, .str zs[0], rfl, rfl, SqL.of (sg _ _ Lf.h), atI_nat (j := 0) (by rw [List.getElem?_map, List.getElem?_eq_getElem z0]; rfl), by show 1 ≤ sizeLine; decide, fun e he => ?_⟩
          have mz : zs[0] ∈ zs := List.getElem_mem z0
          have se := same_mk (o := .tup [.str zs[0]]) he
          exact fin (.ref e) (.es [(zs[0], false)]) _ _ ⟨e, rfl, upd_same⟩ ⟨⟨fun x hx => by rw [List.mem_singleton.mp hx]; exact nm _ mz, List.pairwise_singleton _ _, (show 1 ≤ 1000 by decide)⟩, .inl (by simp)⟩ ⟨fun x hx => by rw [List.mem_singleton.mp hx]; exact mz, (show 1 ≤ 20 by decide)⟩ (Bg.trans (But.same se)) (Sg.up se) (by omega)
      · rw [decide_eq_false eb]
        exact ⟨_, rfl, iteT ⟨_, rfl, out (.inl eb)⟩⟩
    by_cases ist : k = .tl
    · subst ist
      refine ⟨_, rfl, t, _, 0, _, rfl, rfl, SqT.of ht, atI_nat (j := 0) rfl, rfl, _, rfl, iteN (by decide +kernel) ⟨_, rfl, t, _, 0, _, rfl, rfl, SqT.of ht, atI_nat (j := 0) rfl, rfl, _, rfl, iteF ?_⟩⟩
      refine ⟨_, rfl, t, _, 0, _, rfl, rfl, SqT.of ht, atI_nat (j := 0) rfl, rfl, _, rfl, iteY rfl ⟨by show 3 ≤ sizeLine; decide, fun u hu => ?_⟩⟩
      have nu := S.ne_new hu
      have su := same_mk (o := .lst [.str "", .str "1", .str "2"]) hu
      refine ⟨_, rfl, st, l, c, _, rfl, S.up su, by omega, by decide, by decide, fun d H1 d0 d1 B1 S1 => ?_⟩
      have hu1 := B1 _ _ upd_same nu.1 nu.2
      have d3 : d < (([("" : Str), "1", "2"] : List Str).length : Int) := d1
      obtain ⟨i, z, hi, ha⟩ := at_int (xs := ([("" : Str), "1", "2"] : List Str)) d0 d3
      have hz : Oka z := by
        have := List.mem_of_getElem? hi
        have all : ∀ z ∈ ([("" : Str), "1", "2"] : List Str), Oka z := by decide +kernel
        exact all z this
      exact ⟨u, _, d, .str z, rfl, rfl, SqL.of hu1, at_map (f := V.str) ha, fin (.str z) (.tx z) H1 (c + 1) rfl trivial hz ((But.same su).trans B1) S1 (by omega)⟩
    obtain ⟨wd, r, hkv, n1, n2, o1, o2⟩ : ∃ (wd : Str) (r : List V), lkV k = .str wd :: r ∧ wd ≠ "list" ∧ wd ≠ "tool" ∧ AnOk k .no ∧ ∀ z, AnOk k (.tx z) := by
      cases k with
      | rd q => exact ⟨"read", _, rfl, by decide +kernel, by decide +kernel, trivial, fun _ => trivial⟩
      | ls q => exact absurd ⟨q, rfl⟩ isl
      | se n => exact ⟨"setting", _, rfl, by decide +kernel, by decide +kernel, trivial, fun _ => trivial⟩
      | tl => exact absurd rfl ist
    rw [hkv] at ht
    refine ⟨_, rfl, t, _, 0, _, rfl, rfl, SqT.of ht, atI_nat (j := 0) rfl, rfl, _, rfl, iteN (fun z => n1 (V.str.inj z)) ⟨_, rfl, t, _, 0, _, rfl, rfl, SqT.of ht, atI_nat (j := 0) rfl, rfl, _, rfl, ?_⟩⟩
    rw [decide_eq_false (show ¬ V.str wd = V.str "tool" from fun z => n2 (V.str.inj z))]
    refine iteT ⟨_, rfl, st, l, c, _, rfl, S, by omega, by decide, by decide, fun d H1 d0 d1 B1 S1 => ⟨rfl, _, rfl, ite2 (fun _ => ?_) (fun _ => ?_)⟩⟩
    · exact fin .non .no H1 (c + 1) rfl o1 trivial B1 S1 (by omega)
    · exact ⟨_, rfl, t, _, 0, _, rfl, rfl, SqT.of (B1 _ _ ht nt.1 nt.2), atI_nat (j := 0) rfl, rfl, _, rfl, iteN (fun z => n2 (V.str.inj z)) ⟨_, rfl, st, l, c + 1, rfl, S1, by omega, fun z H2 hz B2 S2 => fin (.str z) (.tx z) H2 (c + 1 + 1) rfl (o2 z) (tx_ok z hz) (B1.trans B2) S2 (by omega)⟩⟩
end
end T6

set_option maxHeartbeats 3900000
namespace T6
open PySem PySem.Spec PyProof.Rows L2 TL
open C8 (pss_cut tCut pe_gc)
open CB
def TxtOf : Lk × An → List Str → Prop
  | (.rd _, .no), _ => False
  | (.rd q, _), p => p = q
  | (.ls q, .es l), p => ∃ n, (n, false) ∈ l ∧ p = q ++ [n]
  | _, _ => False
def pV (p : List Str) : V := .str (js p)
def pkey (p : List Str) : L2.Key := Sum.inr (js p)
def KA (kvs : List (L2.Key × V)) (B : Nat) (T : List Str → Prop) : Prop := (∀ kv ∈ kvs, ∃ p, kv.1 = pkey p ∧ Nms p ∧ p.length ≤ B) ∧ ∀ p, Nms p → ((valV kvs (pkey p)).isSome = true ↔ T p)
def DA (xs : List (List Str)) (B : Nat) (D : List Str → Prop) : Prop := (∀ p ∈ xs, Nms p ∧ p.length ≤ B) ∧ ∀ p, p ∈ xs ↔ D p
theorem pkey_inj {p q : List Str} (hp : Nms p) (hq : Nms q) : pkey p = pkey q ↔ p = q := ⟨fun e => js_inj hp hq (Sum.inr.inj e), fun e => by rw [e]⟩
theorem KA.put {kvs : List (L2.Key × V)} {B : Nat} {T : List Str → Prop} (h : KA kvs B T) {p : List Str} (hp : Nms p) (hl : p.length ≤ B) (v : V) : KA (putK kvs (pkey p) v) B (fun x => T x ∨ x = p) := by
  refine ⟨fun kv hkv => ?_, fun x hx => ?_⟩
  · unfold putK at hkv
    by_cases a : (kvs.any fun kv => decide (kv.1 = pkey p)) = true
    · rw [if_pos a] at hkv
      obtain ⟨kv', h1, rfl⟩ := List.mem_map.mp hkv
      by_cases e : kv'.1 = pkey p
      · rw [if_pos e]
        exact h.1 kv' h1
      · rw [if_neg e]
        exact h.1 kv' h1
    · rw [if_neg a] at hkv
      rcases List.mem_append.mp hkv with g | g
      · exact h.1 kv g
      · rw [List.mem_singleton.mp g]
        exact ⟨p, rfl, hp, hl⟩
  · rw [valV_put]
    by_cases e : x = p
    · subst e
      rw [if_pos rfl]
      exact ⟨fun _ => .inr rfl, fun _ => rfl⟩
    · rw [if_neg fun z => e ((pkey_inj hx hp).mp z), h.2 x hx]
      exact ⟨.inl, fun z => z.resolve_right e⟩
theorem KA.keys : ∀ {kvs : List (L2.Key × V)} {B : Nat}, (∀ kv ∈ kvs, ∃ p, kv.1 = pkey p ∧ Nms p ∧ p.length ≤ B) → ∃ tp : List (List Str), (kvs.map fun kv => kV kv.1) = tp.map pV ∧ tp.length = kvs.length ∧ (∀ p ∈ tp, Nms p ∧ p.length ≤ B) ∧ ∀ p, p ∈ tp → (valV kvs (pkey p)).isSome = true
  | [], _, _ => ⟨[], rfl, rfl, by simp, by simp⟩
  | kv :: r, B, h => by
    obtain ⟨tp, h1, h2, h3, h4⟩ := KA.keys (kvs := r) (B := B) fun x hx => h x (List.mem_cons_of_mem _ hx)
    obtain ⟨p, e, hp, hl⟩ := h kv List.mem_cons_self
    refine ⟨p :: tp, ?_, by rw [List.length_cons, List.length_cons, h2], ?_, ?_⟩
    · rw [List.map_cons, List.map_cons, h1, e]
      rfl
    · intro x hx
      rcases List.mem_cons.mp hx with g | g
      · rw [g]
        exact ⟨hp, hl⟩
      · exact h3 x g
    · intro x hx
      by_cases q : kv.1 = pkey x
      · rw [valV_pos q]
        rfl
      · rw [valV_neg q]
        rcases List.mem_cons.mp hx with g | g
        · exact absurd (by rw [e, g]) q
        · exact h4 x g
theorem KA.has : ∀ {kvs : List (L2.Key × V)} {tp : List (List Str)} {p : List Str}, (kvs.map fun kv => kV kv.1) = tp.map pV → (valV kvs (pkey p)).isSome = true → (∀ x ∈ tp, Nms x) → Nms p → p ∈ tp
  | [], _, _, _, h, _, _ => by cases h
  | kv :: r, [], _, e, _, _, _ => by cases e
  | kv :: r, x :: tp, p, e, h, n, hp => by
    simp only [List.map_cons, List.cons.injEq] at e
    by_cases q : kv.1 = pkey p
    · rw [q] at e
      have e1 : V.str (js p) = V.str (js x) := e.1
      rw [js_inj hp (n x List.mem_cons_self) (V.str.inj e1)]
      exact List.mem_cons_self
    · rw [valV_neg q] at h
      exact List.mem_cons_of_mem _ (KA.has e.2 h (fun y hy => n y (List.mem_cons_of_mem _ hy)) hp)
def MS (H H' : Hp) (d e : Addr) (T D : List Str → Prop) (n : Nat) : Prop := Same H H' ∧ ∃ (kvs : List (L2.Key × V)) (dp : List (List Str)), H' d = some (.dK kvs) ∧ KA kvs 40 T ∧ kvs.length ≤ n ∧ H' e = some (.lst (dp.map pV)) ∧ DA dp 40 D ∧ dp.length ≤ n
def Sz (s : Lk × An) : Prop := (match s.1 with | .rd p => p.length ≤ 20 | .ls p => p.length ≤ 20 | _ => True) ∧ (match s.2 with | .es l => l.length ≤ 20 | _ => True)
section
variable {P : Program} {w : World} {K : PySem.W.Frag} {mg : Str → Option Value} {base : Heap}
end
end T6

set_option maxHeartbeats 3900000
namespace T6
open PySem PySem.Spec PyProof.Rows L2 TL
open C8 (pss_cut tCut pe_gc)
open CB
section
variable {P : Program} {w : World} {K : PySem.W.Frag} {mg : Str → Option Value} {base : Heap}
end
end T6

set_option maxHeartbeats 3900000
namespace T6
open PySem PySem.Spec PyProof.Rows L2 TL
open CB
def fd (s : Lk × An) (p : List Str) : Bool := decide (s = (.ls p, .no)) || follL s (.ls p)
end T6

set_option maxHeartbeats 3900000
namespace T6
open PySem PySem.Spec PyProof.Rows L2 TL
open C8 (pss_cut tCut pe_gc)
open CB
inductive NoRow (H : Hp) : V → Prop
  | non : NoRow H .non
  | str (z : Str) : NoRow H (.str z)
  | int (i : Int) : NoRow H (.int i)
  | bl (b : Bool) : NoRow H (.bl b)
  | dct {a : Addr} {kvs : List (L2.Key × V)} (h : H a = some (.dK kvs)) : NoRow H (.ref a)
theorem NoRow.up {H H' : Hp} {x : V} (h : NoRow H x) (s : Same H H') : NoRow H' x := by
  cases h with
  | non => exact .non
  | str z => exact .str z
  | int i => exact .int i
  | bl b => exact .bl b
  | dct h => exact .dct (s _ _ h)
def rLT2 : List V → Hp → VK → Prop := fun vs H Q => ∃ v tp, vs = [v, .ref tp] ∧ H tp = some (.tup [.ty "list", .ty "tuple"]) ∧ NoRow H v ∧ Q (.bl false) H
theorem isi_LT2 {X : Cx} : CallR X (.builtin "isinstance") rLT2 := by
  intro pins s σ H xs us Q I r h
  obtain ⟨v, tp, rfl, ht, hl, q⟩ := h
  have go : ∀ (n : String), TyX X.K H v (.type n) → PySem.W.kitAny X.K (.type n) [.type "list", .type "tuple"] = some false → wpAny (model X.prog X.w) X.A (call (.builtin "isinstance") us) (EP X pins σ Q) X.xe s := fun n t k =>
    call_isiT (X := X) pins s σ H _ us Q I r ⟨v, tp, _, .type n, [.type "list", .type "tuple"], false, rfl, ht, .cons (.ty "list") (.cons (.ty "tuple") .nil), t, k, q⟩
  cases hl with
  | non => exact go "NoneType" (.base .non) (kitLT (b := false) (c := false) (by decide +kernel) (by decide +kernel))
  | str z => exact go "str" (.base (.str z)) (kitLT (b := false) (c := false) (by decide +kernel) (by decide +kernel))
  | int i => exact go "int" (.base (.int i)) (kitLT (b := false) (c := false) (by decide +kernel) (by decide +kernel))
  | bl b => exact go "bool" (.base (.bl b)) (kitLT (b := false) (c := false) (by decide +kernel) (by decide +kernel))
  | dct h => exact go "dict" (.base (.dK h)) (kitLT (b := false) (c := false) (by decide +kernel) (by decide +kernel))
def PathNo (z : Str) : Prop := ∃ ys, Txt.split z "/" = ys ∧ Sh z ∧ (∀ y ∈ ys, Sh y) ∧ ys.length < 1000000 ∧ (ys.all fun y => decide (IsNm y)) = false
inductive CanNot : Str → V → Prop
  | rd {z : Str} (h : PathNo z) : CanNot "read" (.str z)
  | ls0 : CanNot "list" .non
  | ls {z : Str} (h : PathNo z) (n : z ≠ "") : CanNot "list" (.str z)
  | se {z : Str} (h : ¬ IsNm z) (s : Sh z) : CanNot "setting" (.str z)
  | se5 (i : Int) : CanNot "setting" (.int i)
  | oth {a : Str} {b : V} (h1 : a ≠ "read") (h2 : a ≠ "list") (h3 : a ≠ "setting") : CanNot a b
inductive OddR : List V → Prop
  | zero : OddR []
  | one {z : Str} (h : z ≠ "tool") : OddR [.str z]
  | two {a : Str} {b : V} (h : CanNot a b) : OddR [.str a, b]
  | three (a b c : V) : OddR [a, b, c]
inductive OddL (H : Hp) : V → Prop
  | no {x : V} (h : NoRow H x) : OddL H x
  | row {x : V} {xs : List V} (h : RowAt H x xs) (o : OddR xs) : OddL H x
theorem OddL.up {H H' : Hp} {x : V} (h : OddL H x) (s : Same H H') : OddL H' x := by
  cases h with
  | no h => exact .no (h.up s)
  | row h o => exact .row (h.up s) o
def spRowO : Sp := fun vs H Q _ => ∃ v n, vs = [v, .int n] ∧ NoRow H v ∧ ∀ H', Same H H' → Q (.bl false) H'
def spRow2 : Sp := fun vs H Q E => spRow vs H Q E ∨ spRowO vs H Q E
def spIsNameO : Sp := fun vs H Q _ => ∃ i, vs = [.int i] ∧ Q (.bl false) H
def spIsPathO : Sp := fun vs H Q _ => ∃ x, vs = [x] ∧ (x = .non ∨ ∃ z, x = .str z ∧ PathNo z) ∧ ∀ H', Same H H' → Q (.bl false) H'
def spIsPlaceO : Sp := fun vs H Q _ => ∃ x, vs = [x] ∧ (x = .non ∨ ∃ z, x = .str z ∧ PathNo z ∧ z ≠ "") ∧ ∀ H', Same H H' → Q (.bl false) H'
def spCanLookO : Sp := fun vs H Q _ => ∃ a b, vs = [.str a, b] ∧ CanNot a b ∧ ∀ H', Same H H' → Q (.bl false) H'
def spAsLookO : Sp := fun vs H Q _ => ∃ x, vs = [x] ∧ OddL H x ∧ ∀ H', Same H H' → Q .non H'
section
variable {P : Program} {w : World} {K : PySem.W.Frag} {mg : Str → Option Value} {base : Heap}
theorem ok_rowO {f : Addr} {fd : FuncData} (F : Fun K "is_row" "is_row" sRow f fd) (T : TB mg) : FnOk P w K mg base CX0 1 f fd ["thing", "size"] spRowO := by
  refine F.ok scRow (fun vs H Q E h => ?_) (fun cdv A outer s H vs Q E hr h => ?_)
  · obtain ⟨v, n, rfl, _⟩ := h
    rfl
  · obtain ⟨v, n, rfl, hv, k⟩ := h
    refine ⟨_, pss_one (ps_ret (pe_and (pe_callB isi_LT2 (by rfl) T.isinstance (by decide +kernel) (pa_cons (pv 0) (pa_cons (pe_tup (pa_cons (pe_bltn (v := .ty "list") (by rfl) T.list (by decide +kernel) rfl) (pa_cons (pe_bltn (v := .ty "tuple") (by rfl) T.tuple (by decide +kernel) rfl) pa_nil))) pa_nil))) (pe_one (pe_cmpR op_eq (pe_callB call_len_row (by rfl) T.len PySem.boot_len (pa_cons (pv 0) pa_nil)) (pv 1) (nomark _))))), ?_⟩
    exact ⟨_, rfl, by show 2 ≤ sizeLine; decide, fun tp ht => ⟨v, tp, rfl, upd_same, hv.up (same_mk ht), _, rfl, iteF (k _ (same_mk ht))⟩⟩
theorem ok_isNameO {f : Addr} {fd : FuncData} (F : Fun K "is_name" "is_name" sIsName f fd) (T0 : TPk mg) : FnOk P w K mg base CX0 1 f fd ["thing"] spIsNameO := by
  have T := T0.b
  obtain ⟨t1, mLETTERS⟩ := T0.LETTERS
  obtain ⟨t2, mLONGEST⟩ := T0.LONGEST
  refine F.ok scIsName (fun vs H Q E h => ?_) (fun cdv A outer s H vs Q E hr h => ?_)
  · obtain ⟨z, rfl, _⟩ := h
    rfl
  · obtain ⟨i, rfl, k⟩ := h
    refine ⟨_, pss_cons (ps_if (PW.pt (pw_or (pt_not (pt_val (pe_callB call_isi (by rfl) T.isinstance (by decide +kernel) (pa_cons (pv 0) (pa_cons (pe_bltn (v := .ty "str") (by rfl) T.str (by decide +kernel) rfl) pa_nil))))) (pw_or1 (pt_not (pt_chain op_le op_le pe_int (pe_callB call_len_str (by rfl) T.len PySem.boot_len (pa_cons (pv 0) pa_nil)) (pe_glob (v := .int 8) rfl mLONGEST ⟨_, rfl⟩)))))) (pss_one (ps_ret pe_bl)) (pss_nil))
        (pss_one (ps_ret (pe_callB (cr_all rfl) (by rfl) T.all boot_all (pa_cons (pe_lc (own := [("letter", 1)]) (g := gName 1) (tt := tYes) rfl scIsName.nd (pi_str (pv 0)) (blkOk_by (own := [("letter", 1)]) (N := ["thing", "letter"]) (sc := defScope sIsName) (by decide +kernel)) (fun _ _ _ _ _ => (pg_name (i := 1) scIsName.nd rfl (Or.inl rfl))) (fun _ _ _ _ _ => pts_nil) (fun _ _ _ _ _ => (pe_cmpR op_in_sign (pv 1) (pe_glob (v := .str letters) rfl mLETTERS ⟨_, rfl⟩) (by rfl)))) pa_nil)))), ?_⟩
    exact ⟨_, rfl, _, _, .type "int", .type "str", false, rfl, .ty "str", .base (.int i), kit_ty (by decide +kernel), _, rfl, iteT k⟩
theorem ok_isPathO {f fN : Addr} {fd fdN : FuncData} (F : Fun K "is_path" "is_path" sIsPath f fd) (T0 : TPk mg) (aIsName : At K mg "is_name" fN fdN ["thing"]) (GIsName : FnOk P w K mg base CX0 1 fN fdN ["thing"] spIsName) : FnOk P w K mg base CX0 2 f fd ["thing"] spIsPathO := by
  have T := T0.b
  obtain ⟨t1, mSTROKE⟩ := T0.STROKE
  refine F.ok scIsPath (fun vs H Q E h => ?_) (fun cdv A outer s H vs Q E hr h => ?_)
  · obtain ⟨z, rfl, _⟩ := h
    rfl
  · obtain ⟨x, rfl, hx, k⟩ := h
    refine ⟨_, pss_one (ps_ret (pe_and (pe_callB call_isi (by rfl) T.isinstance (by decide +kernel) (pa_cons (pv 0) (pa_cons (pe_bltn (v := .ty "str") (by rfl) T.str (by decide +kernel) rfl) pa_nil))) (pe_one (pe_callB (cr_all rfl) (by rfl) T.all boot_all (pa_cons (pe_lc (own := [("part", 1)]) (g := gName 1) (tt := tYes) rfl scIsPath.nd (pi_list (pe_bm PySem.F.plainAttrs_str PySem.F.slot_str_split PySem.F.type_str_split mt_split (pv 0) (pa_cons (pe_glob (v := .str "/") rfl mSTROKE ⟨_, rfl⟩) pa_nil))) (blkOk_by (own := [("part", 1)]) (N := ["thing", "part"]) (sc := defScope sIsPath) (by decide +kernel)) (fun _ _ _ _ _ => (pg_name (i := 1) scIsPath.nd rfl (Or.inl rfl))) (fun _ _ _ _ _ => pts_nil) (fun _ _ _ _ _ => (pe_call GIsName (hr.mono (by decide)) rfl aIsName.m aIsName.k aIsName.b .nil pass0 (pa_cons (pv 1) pa_nil)))) pa_nil))))), ?_⟩
    rcases hx with rfl | ⟨z, rfl, ys, e1, hs, e2, e3, e4⟩
    · exact ⟨_, rfl, _, _, .type "NoneType", .type "str", false, rfl, .ty "str", .base .non, kit_ty (by decide +kernel), _, rfl, iteF (k H (Same.refl H))⟩
    refine ⟨_, rfl, _, _, .type "str", .type "str", true, rfl, .ty "str", .base (.str _), kit_ty (by decide +kernel), true, rfl, iteT ⟨_, rfl, rfl, z, "/", rfl, rfl, rfl, ?_, fun l hl' => ⟨l, rfl, ⟨_, SqL.of upd_same⟩, fun D hD => ?_⟩⟩⟩
    · have := hs
      unfold Sh at this
      exact Nat.le_trans (show z.length + 2 ≤ 1002 by omega) (by decide)
    · rw [e1] at hD ⊢
      have s1 : Same H (upd H l (.lst (ys.map V.str))) := same_mk hl'
      refine lc_mapL ys V.str (fun y => .bl (decide (IsNm y))) e3 hD (SqL.of upd_same) ?_ ?_
      · intro y hy H2 s2 Q1 k1
        exact ⟨_, rfl, y, rfl, e2 y hy, k1⟩
      · intro H' s' hD'
        refine all_of _ _ hD' ?_
        rw [e4]
        exact k H' (s1.trans s')
theorem ok_isPlaceO {f fN : Addr} {fd fdN : FuncData} (F : Fun K "is_place" "is_place" sIsPlace f fd) (T0 : TPk mg) (aIsPath : At K mg "is_path" fN fdN ["thing"]) (GIsPath : FnOk P w K mg base CX0 2 fN fdN ["thing"] spIsPathO) : FnOk P w K mg base CX0 3 f fd ["thing"] spIsPlaceO := by
  have T := T0.b
  obtain ⟨t1, mROOT⟩ := T0.ROOT
  refine F.ok scIsPlace (fun vs H Q E h => ?_) (fun cdv A outer s H vs Q E hr h => ?_)
  · obtain ⟨z, rfl, _⟩ := h
    rfl
  · obtain ⟨x, rfl, hx, k⟩ := h
    refine ⟨_, pss_one (ps_ret (pe_or (pe_call GIsPath (hr.mono (by decide)) rfl aIsPath.m aIsPath.k aIsPath.b .nil pass0 (pa_cons (pv 0) pa_nil)) (pe_one (pe_and (pe_callB call_isi (by rfl) T.isinstance (by decide +kernel) (pa_cons (pv 0) (pa_cons (pe_bltn (v := .ty "str") (by rfl) T.str (by decide +kernel) rfl) pa_nil))) (pe_one (pe_cmpR op_eq (pv 0) (pe_glob (v := .str "") rfl mROOT ⟨_, rfl⟩) (nomark _))))))), ?_⟩
    rcases hx with rfl | ⟨z, rfl, hz, nz⟩
    · exact ⟨_, rfl, _, rfl, .inl rfl, fun H1 s1 => ⟨_, rfl, iteF ⟨_, rfl, _, _, .type "NoneType", .type "str", false, rfl, .ty "str", .base .non, kit_ty (by decide +kernel), _, rfl, iteF (k H1 s1)⟩⟩⟩
    · refine ⟨_, rfl, _, rfl, .inr ⟨z, rfl, hz⟩, fun H1 s1 => ⟨_, rfl, iteF ⟨_, rfl, _, _, .type "str", .type "str", true, rfl, .ty "str", .base (.str _), kit_ty (by decide +kernel), _, rfl, iteT ⟨_, rfl, rfl, ?_⟩⟩⟩⟩
      rw [decide_eq_false (show ¬ V.str z = V.str "" from fun q => nz (V.str.inj q))]
      exact k H1 s1
theorem ok_canLookO {f fN fPh fPl : Addr} {fd fdN fdPh fdPl : FuncData} (F : Fun K "can_look" "can_look" sCanLook f fd) (T0 : TPk mg) (aIsName : At K mg "is_name" fN fdN ["thing"]) (aIsPath : At K mg "is_path" fPh fdPh ["thing"]) (aIsPlace : At K mg "is_place" fPl fdPl ["thing"])
    (GIsName : FnOk P w K mg base CX0 1 fN fdN ["thing"] spIsName) (GIsNameO : FnOk P w K mg base CX0 1 fN fdN ["thing"] spIsNameO) (GIsPath : FnOk P w K mg base CX0 2 fPh fdPh ["thing"] spIsPathO) (GIsPlace : FnOk P w K mg base CX0 3 fPl fdPl ["thing"] spIsPlaceO) : FnOk P w K mg base CX0 4 f fd ["word", "where"] spCanLookO := by
  have T := T0.b
  refine F.ok scCanLook (fun vs H Q E h => ?_) (fun cdv A outer s H vs Q E hr h => ?_)
  · obtain ⟨a, b, rfl, _⟩ := h
    rfl
  · obtain ⟨a, b, rfl, hk, q⟩ := h
    have e1 : ∀ a b : Str, decide (V.str a = V.str b) = decide (a = b) := fun a b => decide_eq_decide.mpr ⟨V.str.inj, fun q => by rw [q]⟩
    by_cases hi : ∃ i, b = .int i
    · obtain ⟨i, rfl⟩ := hi
      refine ⟨_, pss_cons (ps_if (pt_not (pt_val (pe_callB call_isi (by rfl) T.isinstance (by decide +kernel) (pa_cons (pv 0) (pa_cons (pe_bltn (v := .ty "str") (by rfl) T.str (by decide +kernel) rfl) pa_nil))))) (pss_one (ps_ret pe_bl)) (pss_nil))
            (pss_cons (ps_if (pt_cmpR op_eq (pv 0) pe_str (nomark _)) (pss_one (ps_ret (pe_call GIsPath (hr.mono (by decide)) rfl aIsPath.m aIsPath.k aIsPath.b .nil pass0 (pa_cons (pv 1) pa_nil)))) (pss_nil))
            (pss_cons (ps_if (pt_cmpR op_eq (pv 0) pe_str (nomark _)) (pss_one (ps_ret (pe_call GIsPlace (hr.mono (by decide)) rfl aIsPlace.m aIsPlace.k aIsPlace.b .nil pass0 (pa_cons (pv 1) pa_nil)))) (pss_nil))
            (pss_one (ps_ret (pe_and (pe_cmpR op_eq (pv 0) pe_str (nomark _)) (pe_one (pe_call GIsNameO (hr.mono (by decide)) rfl aIsName.m aIsName.k aIsName.b .nil pass0 (pa_cons (pv 1) pa_nil)))))))), ?_⟩
      refine ⟨_, rfl, _, _, .type "str", .type "str", true, rfl, .ty "str", .base (.str _), kit_ty (by decide +kernel), _, rfl, iteF ⟨_, rfl, rfl, _, rfl, ?_⟩⟩
      rw [e1]
      cases hk with
      | se5 => exact iteF ⟨_, rfl, rfl, _, rfl, iteF ⟨_, rfl, rfl, _, rfl, iteT ⟨_, rfl, _, rfl, q H (Same.refl H)⟩⟩⟩
      | oth h1 h2 h3 =>
        rw [decide_eq_false h1]
        refine iteF ⟨_, rfl, rfl, _, rfl, ?_⟩
        rw [e1, decide_eq_false h2]
        refine iteF ⟨_, rfl, rfl, _, rfl, ?_⟩
        rw [e1, decide_eq_false h3]
        exact iteF (q H (Same.refl H))
    · refine ⟨_, pss_cons (ps_if (pt_not (pt_val (pe_callB call_isi (by rfl) T.isinstance (by decide +kernel) (pa_cons (pv 0) (pa_cons (pe_bltn (v := .ty "str") (by rfl) T.str (by decide +kernel) rfl) pa_nil))))) (pss_one (ps_ret pe_bl)) (pss_nil))
            (pss_cons (ps_if (pt_cmpR op_eq (pv 0) pe_str (nomark _)) (pss_one (ps_ret (pe_call GIsPath (hr.mono (by decide)) rfl aIsPath.m aIsPath.k aIsPath.b .nil pass0 (pa_cons (pv 1) pa_nil)))) (pss_nil))
            (pss_cons (ps_if (pt_cmpR op_eq (pv 0) pe_str (nomark _)) (pss_one (ps_ret (pe_call GIsPlace (hr.mono (by decide)) rfl aIsPlace.m aIsPlace.k aIsPlace.b .nil pass0 (pa_cons (pv 1) pa_nil)))) (pss_nil))
            (pss_one (ps_ret (pe_and (pe_cmpR op_eq (pv 0) pe_str (nomark _)) (pe_one (pe_call GIsName (hr.mono (by decide)) rfl aIsName.m aIsName.k aIsName.b .nil pass0 (pa_cons (pv 1) pa_nil)))))))), ?_⟩
      refine ⟨_, rfl, _, _, .type "str", .type "str", true, rfl, .ty "str", .base (.str _), kit_ty (by decide +kernel), _, rfl, iteF ⟨_, rfl, rfl, _, rfl, ?_⟩⟩
      rw [e1]
      cases hk with
      | se5 i => exact absurd ⟨i, rfl⟩ hi
      | rd h => exact iteT ⟨_, rfl, _, rfl, .inr ⟨_, rfl, h⟩, q⟩
      | ls0 => exact iteF ⟨_, rfl, rfl, _, rfl, iteT ⟨_, rfl, _, rfl, .inl rfl, q⟩⟩
      | ls h n => exact iteF ⟨_, rfl, rfl, _, rfl, iteT ⟨_, rfl, _, rfl, .inr ⟨_, rfl, h, n⟩, q⟩⟩
      | @se z h s =>
        refine iteF ⟨_, rfl, rfl, _, rfl, iteF ⟨_, rfl, rfl, _, rfl, iteT ⟨_, rfl, z, rfl, s, fun H1 s1 => ?_⟩⟩⟩
        show Q (.bl (decide (IsNm z))) H1
        rw [decide_eq_false h]
        exact q H1 s1
      | oth h1 h2 h3 =>
        rw [decide_eq_false h1]
        refine iteF ⟨_, rfl, rfl, _, rfl, ?_⟩
        rw [e1, decide_eq_false h2]
        refine iteF ⟨_, rfl, rfl, _, rfl, ?_⟩
        rw [e1, decide_eq_false h3]
        exact iteF (q H (Same.refl H))
theorem ok_asLookO {f fR fC : Addr} {fd fdR fdC : FuncData} (F : Fun K "as_look" "as_look" sAsLook f fd) (T : TB mg) (aRow : At K mg "is_row" fR fdR ["thing", "size"]) (aCanLook : At K mg "can_look" fC fdC ["word", "where"])
    (GRow : FnOk P w K mg base CX0 1 fR fdR ["thing", "size"] spRow) (GRowO : FnOk P w K mg base CX0 1 fR fdR ["thing", "size"] spRowO) (GCanLook : FnOk P w K mg base CX0 4 fC fdC ["word", "where"] spCanLookO) : FnOk P w K mg base CX0 5 f fd ["thing"] spAsLookO := by
  refine F.ok scAsLook (fun vs H Q E h => ?_) (fun cdv A outer s H vs Q E hr h => ?_)
  · obtain ⟨v, rfl, _⟩ := h
    rfl
  · obtain ⟨v, rfl, hv, q⟩ := h
    cases hv with
    | no hn =>
      refine ⟨_, pss_cons (ps_if (PW.pt (pw_and (pt_val (pe_call GRowO (hr.mono (by decide)) rfl aRow.m aRow.k aRow.b .nil pass0 (pa_cons (pv 0) (pa_cons pe_int pa_nil)))) (pw_and (pt_val (pe_callB call_isi (by rfl) T.isinstance (by decide +kernel) (pa_cons (pe_ix ix_row (pv 0) pe_int (fun _ _ => rfl)) (pa_cons (pe_bltn (v := .ty "str") (by rfl) T.str (by decide +kernel) rfl) pa_nil)))) (pw_and1 (pt_cmpR op_eq (pe_ix ix_row (pv 0) pe_int (fun _ _ => rfl)) pe_str (nomark _)))))) (pss_one (ps_ret (pe_tup (pa_cons pe_str pa_nil)))) (pss_nil))
            (pss_cons (ps_if (PW.pt (pw_and (pt_val (pe_call GRowO (hr.mono (by decide)) rfl aRow.m aRow.k aRow.b .nil pass0 (pa_cons (pv 0) (pa_cons pe_int pa_nil)))) (pw_and1 (pt_val (pe_call GCanLook (hr.mono (by decide)) rfl aCanLook.m aCanLook.k aCanLook.b .nil pass0 (pa_cons (pe_ix ix_row (pv 0) pe_int (fun _ _ => rfl)) (pa_cons (pe_ix ix_row (pv 0) pe_int (fun _ _ => rfl)) pa_nil))))))) (pss_one (ps_ret (pe_tup (pa_cons (pe_ix ix_row (pv 0) pe_int (fun _ _ => rfl)) (pa_cons (pe_ix ix_row (pv 0) pe_int (fun _ _ => rfl)) pa_nil))))) (pss_nil))
            (pss_one (ps_ret pe_non))), ?_⟩
      exact ⟨_, rfl, v, 1, rfl, hn, fun H1 s1 => ⟨_, rfl, iteF ⟨_, rfl, v, 2, rfl, hn.up s1, fun H2 s2 => ⟨_, rfl, iteF (q H2 (s1.trans s2))⟩⟩⟩⟩
    | @row xs hv o =>
      refine ⟨_, pss_cons (ps_if (PW.pt (pw_and (pt_val (pe_call GRow (hr.mono (by decide)) rfl aRow.m aRow.k aRow.b .nil pass0 (pa_cons (pv 0) (pa_cons pe_int pa_nil)))) (pw_and (pt_val (pe_callB call_isi (by rfl) T.isinstance (by decide +kernel) (pa_cons (pe_ix ix_row (pv 0) pe_int (fun _ _ => rfl)) (pa_cons (pe_bltn (v := .ty "str") (by rfl) T.str (by decide +kernel) rfl) pa_nil)))) (pw_and1 (pt_cmpR op_eq (pe_ix ix_row (pv 0) pe_int (fun _ _ => rfl)) pe_str (nomark _)))))) (pss_one (ps_ret (pe_tup (pa_cons pe_str pa_nil)))) (pss_nil))
            (pss_cons (ps_if (PW.pt (pw_and (pt_val (pe_call GRow (hr.mono (by decide)) rfl aRow.m aRow.k aRow.b .nil pass0 (pa_cons (pv 0) (pa_cons pe_int pa_nil)))) (pw_and1 (pt_val (pe_call GCanLook (hr.mono (by decide)) rfl aCanLook.m aCanLook.k aCanLook.b .nil pass0 (pa_cons (pe_ix ix_row (pv 0) pe_int (fun _ _ => rfl)) (pa_cons (pe_ix ix_row (pv 0) pe_int (fun _ _ => rfl)) pa_nil))))))) (pss_one (ps_ret (pe_tup (pa_cons (pe_ix ix_row (pv 0) pe_int (fun _ _ => rfl)) (pa_cons (pe_ix ix_row (pv 0) pe_int (fun _ _ => rfl)) pa_nil))))) (pss_nil))
            (pss_one (ps_ret pe_non))), ?_⟩
      refine ⟨_, rfl, v, _, 1, rfl, hv, fun H1 s1 => ⟨_, rfl, ?_⟩⟩
      cases o with
      | zero => exact iteN (by decide) ⟨_, rfl, v, _, 2, rfl, hv.up s1, fun H2 s2 => ⟨_, rfl, iteN (by decide) (q H2 (s1.trans s2))⟩⟩
      | @one z h =>
        refine iteY rfl ⟨_, rfl, _, 0, _, hv.up s1, rfl, atI_nat (j := 0) rfl, _, _, .type "str", .type "str", true, rfl, .ty "str", .base (.str _), kit_ty (by decide +kernel), _, rfl, iteT ⟨_, rfl, _, 0, _, hv.up s1, rfl, atI_nat (j := 0) rfl, rfl, _, rfl, ?_⟩⟩
        rw [decide_eq_false (show ¬ V.str z = V.str "tool" from fun q => h (V.str.inj q))]
        exact iteF ⟨_, rfl, v, _, 2, rfl, hv.up s1, fun H2 s2 => ⟨_, rfl, iteN (by show ¬ ((1 : Nat) : Int) = 2; decide) (q H2 (s1.trans s2))⟩⟩
      | @two a b h =>
        refine iteN (by show ¬ ((2 : Nat) : Int) = 1; decide) ⟨_, rfl, v, _, 2, rfl, hv.up s1, fun H2 s2 => ⟨_, rfl, iteY rfl ?_⟩⟩
        have v2 := (hv.up s1).up s2
        exact ⟨_, rfl, _, 0, _, v2, rfl, atI_nat (j := 0) rfl, _, rfl, _, 1, _, v2, rfl, atI_nat (j := 1) rfl, a, b, rfl, h, fun H3 s3 => ⟨_, rfl, iteF (q H3 ((s1.trans s2).trans s3))⟩⟩
      | three a b c => exact iteN (by show ¬ ((3 : Nat) : Int) = 1; decide) ⟨_, rfl, v, _, 2, rfl, hv.up s1, fun H2 s2 => ⟨_, rfl, iteN (by show ¬ ((3 : Nat) : Int) = 2; decide) (q H2 (s1.trans s2))⟩⟩
end
end T6

set_option maxHeartbeats 3900000
namespace T6
open PySem PySem.Spec PyProof.Rows L2 TL
open C8 (pss_cut tCut pe_gc)
open CB XW
theorem FnOk_or {P : Program} {w : World} {K : PySem.W.Frag} {mg : Str → Option Value} {base : Heap} {CX : CXT} {k : Nat} {f : Addr} {fd : FuncData} {ps : List Str} {sp sp' : Sp} (F : FnOk P w K mg base CX k f fd ps sp) (G : FnOk P w K mg base CX k f fd ps sp') : FnOk P w K mg base CX k f fd ps (fun vs H Q E => sp vs H Q E ∨ sp' vs H Q E) :=
  ⟨fun vs H Q E h => h.elim (F.len vs H Q E) (G.len vs H Q E), fun A outer s H args us vs Q E hr he hb hv h => h.elim (F.run A outer s H args us vs Q E hr he hb hv) (G.run A outer s H args us vs Q E hr he hb hv)⟩
def EnB (x : V) (b : Bool) : Prop := (∃ z, x = .str z ∧ Sh z ∧ Sh (Txt.removesuffix z "/") ∧ b = decide (IsNm (Txt.removesuffix z "/"))) ∨ (b = false ∧ ∃ i, x = .int i)
inductive NoLs (H : Hp) (v : V) : Prop
  | row (h : NoRow H v)
  | bad {zs : List (V × Bool)} (h : RowAt H v (zs.map (·.1))) (e : ∀ z ∈ zs, EnB z.1 z.2) (a : zs.all (·.2) = false) (l : zs.length ≤ 1000)
  | two {a b : Str × Bool} (h : RowAt H v [entV a, entV b]) (ha : IsNm a.1) (hb : IsNm b.1) (n : ¬ a.1.cps.toList < b.1.cps.toList)
theorem NoLs.up {H H' : Hp} {v : V} (h : NoLs H v) (s : Same H H') : NoLs H' v := by
  cases h with
  | row h => exact .row (h.up s)
  | bad h e a l => exact .bad (h.up s) e a l
  | two h ha hb n => exact .two (h.up s) ha hb n
inductive AnNo (H : Hp) (v : V) : Lk → Prop
  | tlN (e : v = .non) : AnNo H v .tl
  | lsN (e : v = .non) : AnNo H v (.ls [])
  | lsB {p : List Str} (h : NoLs H v) (n : v ≠ .non) : AnNo H v (.ls p)
  | lsE {p : List Str} (h : RowAt H v []) (n : p ≠ []) : AnNo H v (.ls p)
  | rd {p : List Str} (h : NoText H v) (n : v ≠ .non) : AnNo H v (.rd p)
  | se {z : Str} (h : NoText H v) (n : v ≠ .non) : AnNo H v (.se z)
  | tl (h : NoText H v) (n : v ≠ .non) : AnNo H v .tl
theorem AnNo.up {H H' : Hp} {k : Lk} {v : V} (h : AnNo H v k) (s : Same H H') : AnNo H' v k := by
  cases h with
  | tlN e => exact .tlN e
  | lsN e => exact .lsN e
  | lsB h n => exact .lsB (h.up s) n
  | lsE h n => exact .lsE (h.up s) n
  | rd h n => exact .rd (h.up s) n
  | se h n => exact .se (h.up s) n
  | tl h n => exact .tl (h.up s) n
inductive SgNo (H : Hp) (v : V) : Prop
  | no (h : NoRow H v)
  | len {xs : List V} (h : RowAt H v xs) (n : xs.length ≠ 2)
  | look {x y : V} (h : RowAt H v [x, y]) (o : OddL H x)
  | ans {x y : V} {k : Lk} (h : RowAt H v [x, y]) (hx : RowAt H x (lkV k)) (ok : LkOk k) (n : AnNo H y k)
def spIsEntryG : Sp := fun vs H Q _ => ∃ x b, vs = [x] ∧ EnB x b ∧ ∀ H', Same H H' → Q (.bl b) H'
def spIsListingO : Sp := fun vs H Q _ => ∃ v, vs = [v] ∧ NoLs H v ∧ ∀ H', Same H H' → Q (.bl false) H'
def spIsListing2 : Sp := fun vs H Q E => spIsListing vs H Q E ∨ spIsListingO vs H Q E
def spCanShowO : Sp := fun vs H Q _ => ∃ t va k, vs = [.ref t, va] ∧ H t = some (.tup (lkV k)) ∧ LkOk k ∧ AnNo H va k ∧ ∀ H', Same H H' → Q (.bl false) H'
def spAsLook2 : Sp := fun vs H Q E => spAsLook vs H Q E ∨ spAsLookO vs H Q E
def spAsSightO : Sp := fun vs H Q _ => ∃ v, vs = [v] ∧ SgNo H v ∧ ∀ H', Same H H' → Q .non H'
def spAsSight2 : Sp := fun vs H Q E => spAsSight vs H Q E ∨ spAsSightO vs H Q E
section
variable {P : Program} {w : World} {K : PySem.W.Frag} {mg : Str → Option Value} {base : Heap}
theorem ok_isEntryG {f fN : Addr} {fd fdN : FuncData} (F : Fun K "is_entry" "is_entry" sIsEntry f fd) (T0 : TPk mg) (aIsName : At K mg "is_name" fN fdN ["thing"]) (GIsName : FnOk P w K mg base CX0 1 fN fdN ["thing"] spIsName) : FnOk P w K mg base CX0 2 f fd ["thing"] spIsEntryG := by
  have T := T0.b
  obtain ⟨t1, mSTROKE⟩ := T0.STROKE
  refine F.ok scIsEntry (fun vs H Q E h => ?_) (fun cdv A outer s H vs Q E hr h => ?_)
  · obtain ⟨x, b, rfl, _⟩ := h
    rfl
  · obtain ⟨x, b, rfl, hx, k⟩ := h
    refine ⟨_, pss_one (ps_ret (pe_and (pe_callB call_isi (by rfl) T.isinstance (by decide +kernel) (pa_cons (pv 0) (pa_cons (pe_bltn (v := .ty "str") (by rfl) T.str (by decide +kernel) rfl) pa_nil))) (pe_one (pe_call GIsName (hr.mono (by decide)) rfl aIsName.m aIsName.k aIsName.b .nil pass0 (pa_cons (pe_bm PySem.F.plainAttrs_str PySem.F.slot_str_removesuffix PySem.F.type_str_removesuffix mt_removesuffix (pv 0) (pa_cons (pe_glob (v := .str "/") rfl mSTROKE ⟨_, rfl⟩) pa_nil)) pa_nil))))), ?_⟩
    rcases hx with ⟨z, rfl, hz, hr2, rfl⟩ | ⟨rfl, i, rfl⟩
    · exact ⟨_, rfl, _, _, .type "str", .type "str", true, rfl, .ty "str", .base (.str _), kit_ty (by decide +kernel), _, rfl, iteT ⟨_, rfl, rfl, z, "/", rfl, rfl, hz.line, _, rfl, hr2, fun H1 s1 => k H1 s1⟩⟩
    · exact ⟨_, rfl, _, _, .type "int", .type "str", false, rfl, .ty "str", .base (.int _), kit_ty (by decide +kernel), _, rfl, iteF (k H (Same.refl H))⟩
theorem ok_isListingO {f fE : Addr} {fd fdE : FuncData} (F : Fun K "is_listing" "is_listing" sIsListing f fd) (T0 : TPk mg) (aIsEntry : At K mg "is_entry" fE fdE ["thing"]) (GIsEntry : FnOk P w K mg base CX0 2 fE fdE ["thing"] spIsEntryG) : FnOk P w K mg base CX0 3 f fd ["thing"] spIsListingO := by
  have T := T0.b
  obtain ⟨t1, mSTROKE⟩ := T0.STROKE
  refine F.ok scIsListing (fun vs H Q E h => ?_) (fun cdv A outer s H vs Q E hr h => ?_)
  · obtain ⟨v, rfl, _⟩ := h
    rfl
  · obtain ⟨v, rfl, hv, k⟩ := h
    cases hv with
    | row hv =>
      refine ⟨_, pss_cons (ps_if (PW.pt (pw_or (pt_not (pt_val (pe_callB isi_LT2 (by rfl) T.isinstance (by decide +kernel) (pa_cons (pv 0) (pa_cons (pe_tup (pa_cons (pe_bltn (v := .ty "list") (by rfl) T.list (by decide +kernel) rfl) (pa_cons (pe_bltn (v := .ty "tuple") (by rfl) T.tuple (by decide +kernel) rfl) pa_nil))) pa_nil))))) (pw_or1 (pt_not (pt_val (pe_callB (cr_all rfl) (by rfl) T.all boot_all (pa_cons (pe_lc (own := [("entry", 2)]) (g := gName 2) (tt := tYes) rfl scIsListing.nd (pi_seqv (pv 0)) (blkOk_by (own := [("entry", 2)]) (N := ["thing", "names", "entry", "one", "other"]) (sc := defScope sIsListing) (by decide +kernel)) (fun _ _ _ _ _ => (pg_name (i := 2) scIsListing.nd rfl (Or.inl rfl))) (fun _ _ _ _ _ => pts_nil) (fun _ _ _ _ _ => (by exact (pe_call GIsEntry (hr.mono (by decide)) rfl aIsEntry.m aIsEntry.k aIsEntry.b .nil pass0 (pa_cons (pv 2) pa_nil))))) pa_nil))))))) (pss_one (ps_ret pe_bl)) (pss_nil))
              (pss_cons (ps_setLc (i := 1) (own := [("entry", 2)]) (g := gName 2) (tt := tYes) rfl scIsListing.nd rfl rfl (sw_true rfl rfl rfl (by decide +kernel)) (pi_seqv (pv 0)) (blkOk_by (own := [("entry", 2)]) (N := ["thing", "names", "entry", "one", "other"]) (sc := defScope sIsListing) (by decide +kernel)) (fun _ _ _ _ _ => (pg_name (i := 2) scIsListing.nd rfl (Or.inl rfl))) (fun _ _ _ _ _ => pts_nil) (fun _ _ _ _ _ => (by exact (pe_bmK K rfl PySem.F.plainAttrs_str PySem.F.slot_str_removesuffix PySem.F.type_str_removesuffix mt_removesuffix (pv 2) (pa_cons (pe_glob (v := .str "/") rfl mSTROKE ⟨_, rfl⟩) pa_nil)))))
              (pss_one (ps_ret (pe_callB (cr_all rfl) (by rfl) T.all boot_all (pa_cons (pe_lc (own := [("one", 3), ("other", 4)]) (g := gTup K 2 (gCons (gName 3) (gCons (gName 4) gNil))) (tt := tYes) rfl scIsListing.nd (pi_zip (by rfl) T.zip (pa_cons (pv 1) (pa_cons (pe_slice sl_list (pv 1) (po_some pe_int) po_none) pa_nil))) (blkOk_by (own := [("one", 3), ("other", 4)]) (N := ["thing", "names", "entry", "one", "other"]) (sc := defScope sIsListing) (by decide +kernel)) (fun _ _ _ _ _ => (pg_tupK (K0 := K) rfl rfl (pgs_cons (pg_name (i := 3) scIsListing.nd rfl (Or.inl rfl)) (pgs_cons (pg_name (i := 4) scIsListing.nd rfl (Or.inl rfl)) pgs_nil)))) (fun _ _ _ _ _ => pts_nil) (fun _ _ _ _ _ => (by exact (pe_cmpR op_lt_str (pv 3) (pv 4) (nomark _))))) pa_nil))))), ?_⟩
      exact ⟨_, rfl, by show 2 ≤ sizeLine; decide, fun tp ht => ⟨v, tp, rfl, upd_same, hv.up (same_mk ht), _, rfl, iteT (k _ (same_mk ht))⟩⟩
    | @bad zs hv he ha hl =>
      refine ⟨_, pss_cons (ps_if (PW.pt (pw_or (pt_not (pt_val (pe_callB isi_LT (by rfl) T.isinstance (by decide +kernel) (pa_cons (pv 0) (pa_cons (pe_tup (pa_cons (pe_bltn (v := .ty "list") (by rfl) T.list (by decide +kernel) rfl) (pa_cons (pe_bltn (v := .ty "tuple") (by rfl) T.tuple (by decide +kernel) rfl) pa_nil))) pa_nil))))) (pw_or1 (pt_not (pt_val (pe_callB (cr_all rfl) (by rfl) T.all boot_all (pa_cons (pe_lc (own := [("entry", 2)]) (g := gName 2) (tt := tYes) rfl scIsListing.nd (pi_seqv (pv 0)) (blkOk_by (own := [("entry", 2)]) (N := ["thing", "names", "entry", "one", "other"]) (sc := defScope sIsListing) (by decide +kernel)) (fun _ _ _ _ _ => (pg_name (i := 2) scIsListing.nd rfl (Or.inl rfl))) (fun _ _ _ _ _ => pts_nil) (fun _ _ _ _ _ => (by exact (pe_call GIsEntry (hr.mono (by decide)) rfl aIsEntry.m aIsEntry.k aIsEntry.b .nil pass0 (pa_cons (pv 2) pa_nil))))) pa_nil))))))) (pss_one (ps_ret pe_bl)) (pss_nil))
              (pss_cons (ps_setLc (i := 1) (own := [("entry", 2)]) (g := gName 2) (tt := tYes) rfl scIsListing.nd rfl rfl (sw_true rfl rfl rfl (by decide +kernel)) (pi_seqv (pv 0)) (blkOk_by (own := [("entry", 2)]) (N := ["thing", "names", "entry", "one", "other"]) (sc := defScope sIsListing) (by decide +kernel)) (fun _ _ _ _ _ => (pg_name (i := 2) scIsListing.nd rfl (Or.inl rfl))) (fun _ _ _ _ _ => pts_nil) (fun _ _ _ _ _ => (by exact (pe_bmK K rfl PySem.F.plainAttrs_str PySem.F.slot_str_removesuffix PySem.F.type_str_removesuffix mt_removesuffix (pv 2) (pa_cons (pe_glob (v := .str "/") rfl mSTROKE ⟨_, rfl⟩) pa_nil)))))
              (pss_one (ps_ret (pe_callB (cr_all rfl) (by rfl) T.all boot_all (pa_cons (pe_lc (own := [("one", 3), ("other", 4)]) (g := gTup K 2 (gCons (gName 3) (gCons (gName 4) gNil))) (tt := tYes) rfl scIsListing.nd (pi_zip (by rfl) T.zip (pa_cons (pv 1) (pa_cons (pe_slice sl_list (pv 1) (po_some pe_int) po_none) pa_nil))) (blkOk_by (own := [("one", 3), ("other", 4)]) (N := ["thing", "names", "entry", "one", "other"]) (sc := defScope sIsListing) (by decide +kernel)) (fun _ _ _ _ _ => (pg_tupK (K0 := K) rfl rfl (pgs_cons (pg_name (i := 3) scIsListing.nd rfl (Or.inl rfl)) (pgs_cons (pg_name (i := 4) scIsListing.nd rfl (Or.inl rfl)) pgs_nil)))) (fun _ _ _ _ _ => pts_nil) (fun _ _ _ _ _ => (by exact (pe_cmpR op_lt_str (pv 3) (pv 4) (nomark _))))) pa_nil))))), ?_⟩
      have hs : zs.length < 1000000 := Nat.lt_of_le_of_lt hl (by decide)
      refine ⟨_, rfl, by show 2 ≤ sizeLine; decide, fun tp ht => ⟨v, tp, true, rfl, upd_same, .inl ⟨rfl, _, hv.up (same_mk ht)⟩, _, rfl, iteF ?_⟩⟩
      refine all_row zs (·.1) (·.2) rfl (hv.up (same_mk ht)) hs ?_ ?_
      · intro e he2 H2 s2 Q1 k1
        exact ⟨_, rfl, e.1, e.2, rfl, he e he2, fun H3 s3 => k1 H3 s3⟩
      intro H1 s1
      rw [ha]
      exact ⟨_, rfl, iteT (k _ ((same_mk ht).trans s1))⟩
    | @two a b hv na nb n =>
      refine ⟨_, pss_cons (ps_if (PW.pt (pw_or (pt_not (pt_val (pe_callB isi_LT (by rfl) T.isinstance (by decide +kernel) (pa_cons (pv 0) (pa_cons (pe_tup (pa_cons (pe_bltn (v := .ty "list") (by rfl) T.list (by decide +kernel) rfl) (pa_cons (pe_bltn (v := .ty "tuple") (by rfl) T.tuple (by decide +kernel) rfl) pa_nil))) pa_nil))))) (pw_or1 (pt_not (pt_val (pe_callB (cr_all rfl) (by rfl) T.all boot_all (pa_cons (pe_lc (own := [("entry", 2)]) (g := gName 2) (tt := tYes) rfl scIsListing.nd (pi_seqv (pv 0)) (blkOk_by (own := [("entry", 2)]) (N := ["thing", "names", "entry", "one", "other"]) (sc := defScope sIsListing) (by decide +kernel)) (fun _ _ _ _ _ => (pg_name (i := 2) scIsListing.nd rfl (Or.inl rfl))) (fun _ _ _ _ _ => pts_nil) (fun _ _ _ _ _ => (by exact (pe_call GIsEntry (hr.mono (by decide)) rfl aIsEntry.m aIsEntry.k aIsEntry.b .nil pass0 (pa_cons (pv 2) pa_nil))))) pa_nil))))))) (pss_one (ps_ret pe_bl)) (pss_nil))
              (pss_cons (ps_setLc (i := 1) (own := [("entry", 2)]) (g := gName 2) (tt := tYes) rfl scIsListing.nd rfl rfl (sw_true rfl rfl rfl (by decide +kernel)) (pi_seqv (pv 0)) (blkOk_by (own := [("entry", 2)]) (N := ["thing", "names", "entry", "one", "other"]) (sc := defScope sIsListing) (by decide +kernel)) (fun _ _ _ _ _ => (pg_name (i := 2) scIsListing.nd rfl (Or.inl rfl))) (fun _ _ _ _ _ => pts_nil) (fun _ _ _ _ _ => (by exact (pe_bmK K rfl PySem.F.plainAttrs_str PySem.F.slot_str_removesuffix PySem.F.type_str_removesuffix mt_removesuffix (pv 2) (pa_cons (pe_glob (v := .str "/") rfl mSTROKE ⟨_, rfl⟩) pa_nil)))))
              (pss_one (ps_ret (pe_callB (cr_all rfl) (by rfl) T.all boot_all (pa_cons (pe_lc (own := [("one", 3), ("other", 4)]) (g := gTup K 2 (gCons (gName 3) (gCons (gName 4) gNil))) (tt := tYes) rfl scIsListing.nd (pi_zip (by rfl) T.zip (pa_cons (pv 1) (pa_cons (pe_slice sl_list (pv 1) (po_some pe_int) po_none) pa_nil))) (blkOk_by (own := [("one", 3), ("other", 4)]) (N := ["thing", "names", "entry", "one", "other"]) (sc := defScope sIsListing) (by decide +kernel)) (fun _ _ _ _ _ => (pg_tupK (K0 := K) rfl rfl (pgs_cons (pg_name (i := 3) scIsListing.nd rfl (Or.inl rfl)) (pgs_cons (pg_name (i := 4) scIsListing.nd rfl (Or.inl rfl)) pgs_nil)))) (fun _ _ _ _ _ => pts_nil) (fun _ _ _ _ _ => (by exact (pe_cmpR op_lt_str (pv 3) (pv 4) (nomark _))))) pa_nil))))), ?_⟩
      have hv : RowAt H v ([a, b].map entV) := hv
      have nm : ∀ e ∈ [a, b], IsNm e.1 := fun e he => by
        rcases List.mem_cons.mp he with rfl | he
        · exact na
        · rw [List.mem_singleton.mp he]
          exact nb
      have rm : ∀ e ∈ [a, b], (ent e.1 e.2).length ≤ 9 := fun e he => by
        have h8 := (nm e he).2.1
        rw [len_tl, tl_ent, List.length_append, ← len_tl]
        cases e.2 <;> simp <;> omega
      refine ⟨_, rfl, by show 2 ≤ sizeLine; decide, fun tp ht => ⟨v, tp, true, rfl, upd_same, .inl ⟨rfl, _, hv.up (same_mk ht)⟩, _, rfl, iteF ?_⟩⟩
      refine all_row [a, b] entV (fun _ => true) rfl (hv.up (same_mk ht)) (by show 2 < 1000000; decide) ?_ ?_
      · intro e he H2 s2 Q1 k1
        refine ⟨_, rfl, _, true, rfl, .inl ⟨_, rfl, Nat.le_trans (rm e he) (by decide), ?_, ?_⟩, fun H3 s3 => k1 H3 s3⟩
        · rw [rms_ent (nm e he)]
          exact nm_sh (nm e he)
        · rw [rms_ent (nm e he), decide_eq_true (nm e he)]
      intro H1 s1
      refine ⟨_, rfl, iteF ?_⟩
      have sa := (same_mk ht).trans s1
      refine set_row [a, b] entV (fun e => .str e.1) rfl (hv.up sa) (by show 2 < 1000000; decide) ?_ ?_
      · intro e he H2 s2 Q1 k1
        refine ⟨_, rfl, rfl, ent e.1 e.2, "/", rfl, rfl, ?_, ?_⟩
        · exact Nat.le_trans (rm e he) (by decide)
        · rw [rms_ent (nm e he)]
          exact k1 H2 (Same.refl H2)
      intro D H2 s2 hD hD2
      refine ⟨_, rfl, _, rfl, 1, rfl, D, _, rfl, SqL.of hD2, fun p hp => ?_⟩
      have hD3 := same_mk (o := .lst (cutV ([a, b].map fun e => V.str e.1) (some 1) none)) hp _ _ hD2
      refine ⟨D, p, _, _, rfl, SqL.of hD3, SqL.of upd_same, fun D2 hD2' => ?_⟩
      rw [cut_1] at hD2' ⊢
      rw [cut_1] at hD3
      refine lcW2 (n := 1) (walk_zip rfl) (by decide) [.bl false] rfl (by decide) hD2' (fun H' s' => ⟨s'.seq (SqL.of hD3), s'.seq (SqL.of upd_same)⟩) ?_ ?_
      · intro m x x' y H4 hy ex ex' s4 Q1 k1
        cases m with
        | zero =>
          cases ex
          cases ex'
          cases hy
          refine ⟨_, rfl, _, rfl, a.1, b.1, rfl, rfl, ?_⟩
          rw [decide_eq_false n]
          exact k1 H4 (Same.refl H4)
        | succ m => simp at hy
      · intro H5 s5 hD5
        exact all_of [false] id hD5 (k H5 ((sa.trans s2).trans ((same_mk hp).trans s5)))
theorem ok_canShowO {f fL : Addr} {fd fdL : FuncData} (F : Fun K "can_show" "can_show" sCanShow f fd) (T0 : TPk mg) (aIsListing : At K mg "is_listing" fL fdL ["thing"]) (GIsListing : FnOk P w K mg base CX0 3 fL fdL ["thing"] spIsListing2) : FnOk P w K mg base CX0 4 f fd ["look", "answer"] spCanShowO := by
  have T := T0.b
  obtain ⟨t1, mROOT⟩ := T0.ROOT
  refine F.ok scCanShow (fun vs H Q E h => ?_) (fun cdv A outer s H vs Q E hr h => ?_)
  · obtain ⟨t, va, k, rfl, _⟩ := h
    rfl
  · have hu := hr.units
    obtain ⟨t, va, k, rfl, ht, hk, n, q⟩ := h
    refine ⟨_, pss_cons (ps_set (i := 2) scCanShow.nd rfl (Or.inl rfl) (pe_ix ix_tup (pv 0) pe_int (fun _ _ => rfl)))
            (pss_cons (ps_if (pt_cmp (pc_isN (pv 1))) (pss_one (ps_ret (pe_and (pe_cmpR op_ne (pv 2) pe_str (nomark _)) (pe_one (pe_cmpR (op_neD hu) (pv 0) (pe_tup (pa_cons pe_str (pa_cons (pe_glob (v := .str "") rfl mROOT ⟨_, rfl⟩) pa_nil))) (nomark _)))))) (pss_nil))
            (pss_cons (ps_if (pt_cmpR op_eq (pv 2) pe_str (nomark _)) (pss_one (ps_ret (pe_and (pe_call GIsListing (hr.mono (by decide)) rfl aIsListing.m aIsListing.k aIsListing.b .nil pass0 (pa_cons (pv 1) pa_nil)) (pe_one (pe_or (pe_cmpR op_gt (pe_callB call_len_row (by rfl) T.len PySem.boot_len (pa_cons (pv 1) pa_nil)) pe_int (nomark _)) (pe_one (pe_cmpR op_eq (pe_ix ix_tup (pv 0) pe_int (fun _ _ => rfl)) (pe_glob (v := .str "") rfl mROOT ⟨_, rfl⟩) (nomark _)))))))) (pss_nil))
            (pss_one (ps_ret (pe_callB call_isi (by rfl) T.isinstance (by decide +kernel) (pa_cons (pv 1) (pa_cons (pe_bltn (v := .ty "str") (by rfl) T.str (by decide +kernel) rfl) pa_nil))))))), ?_⟩
    have q0 := q H (Same.refl H)
    have notext : ∀ {z : Str}, NoText H va → va ≠ .non → z ≠ "list" → ∀ {R : VK}, R (.bl false) H → True := fun _ _ _ _ _ => trivial
    have e1 : ∀ a b : Str, decide (V.str a = V.str b) = decide (a = b) := fun a b => decide_eq_decide.mpr ⟨V.str.inj, fun q => by rw [q]⟩
    cases n with
    | tlN e =>
      subst e
      exact ⟨_, rfl, t, _, 0, _, rfl, rfl, SqT.of ht, atI_nat (j := 0) rfl, _, rfl, _, rfl, iteT ⟨_, rfl, rfl, _, rfl, iteF q0⟩⟩
    | lsN e =>
      subst e
      refine ⟨_, rfl, t, _, 0, _, rfl, rfl, SqT.of ht, atI_nat (j := 0) rfl, _, rfl, _, rfl, iteT ⟨_, rfl, rfl, _, rfl, iteT ⟨_, rfl, by show 2 ≤ sizeLine; decide, fun p hp => ?_⟩⟩⟩
      have s1 := same_mk (o := .tup [.str "list", .str ""]) hp
      refine ⟨strD ["list", ""], strD ["list", ""], .tup (SqT.of (s1 _ _ ht)) (dp_strs ["list", ""]), .tup (SqT.of upd_same) (dp_strs ["list", ""]), shaped_strs _ (by decide +kernel), shaped_strs _ (by decide +kernel), ?_⟩
      rw [eqv_str2]
      exact q _ s1
    | @lsB p h n =>
      exact ⟨_, rfl, t, _, 0, _, rfl, rfl, SqT.of ht, atI_nat (j := 0) rfl, _, rfl, _, rfl, iteN n ⟨_, rfl, rfl, _, rfl, iteY rfl ⟨_, rfl, .inr ⟨va, rfl, h, fun H1 s1 => ⟨_, rfl, iteF (q H1 s1)⟩⟩⟩⟩⟩
    | @lsE p h n =>
      have nn : va ≠ .non := fun e => by
        obtain ⟨a, e2, _⟩ := h
        rw [e] at e2
        cases e2
      refine ⟨_, rfl, t, _, 0, _, rfl, rfl, SqT.of ht, atI_nat (j := 0) rfl, _, rfl, _, rfl, iteN nn ⟨_, rfl, rfl, _, rfl, iteY rfl ⟨_, rfl, .inl ⟨va, [], rfl, h, ⟨(fun e he => by cases he), .nil, Nat.zero_le _⟩, fun H1 s1 => ⟨_, rfl, iteT ⟨_, rfl, va, [], rfl, h.up s1, _, _, rfl, rfl, _, rfl, iteN (by decide) ?_⟩⟩⟩⟩⟩⟩
      refine ⟨_, rfl, t, _, 1, _, rfl, rfl, SqT.of (s1 _ _ ht), atI_nat (j := 1) rfl, rfl, ?_⟩
      rw [e1, decide_eq_false (js_ne hk.1 n)]
      exact q H1 s1
    | @rd p h n =>
      obtain ⟨ty, hty, hk2⟩ := h.ty (K := K)
      exact ⟨_, rfl, t, _, 0, _, rfl, rfl, SqT.of ht, atI_nat (j := 0) rfl, _, rfl, _, rfl, iteN n ⟨_, rfl, rfl, _, rfl, iteN (by decide +kernel) ⟨_, rfl, _, _, .type ty, .type "str", false, rfl, .ty "str", hty, hk2, q0⟩⟩⟩
    | @se z h n =>
      obtain ⟨ty, hty, hk2⟩ := h.ty (K := K)
      exact ⟨_, rfl, t, _, 0, _, rfl, rfl, SqT.of ht, atI_nat (j := 0) rfl, _, rfl, _, rfl, iteN n ⟨_, rfl, rfl, _, rfl, iteN (by decide +kernel) ⟨_, rfl, _, _, .type ty, .type "str", false, rfl, .ty "str", hty, hk2, q0⟩⟩⟩
    | tl h n =>
      obtain ⟨ty, hty, hk2⟩ := h.ty (K := K)
      exact ⟨_, rfl, t, _, 0, _, rfl, rfl, SqT.of ht, atI_nat (j := 0) rfl, _, rfl, _, rfl, iteN n ⟨_, rfl, rfl, _, rfl, iteN (by decide +kernel) ⟨_, rfl, _, _, .type ty, .type "str", false, rfl, .ty "str", hty, hk2, q0⟩⟩⟩
theorem ok_asSightO {f fR fL fS : Addr} {fd fdR fdL fdS : FuncData} (F : Fun K "as_sight" "as_sight" sAsSight f fd) (T : TB mg) (aRow : At K mg "is_row" fR fdR ["thing", "size"]) (aAsLook : At K mg "as_look" fL fdL ["thing"]) (aCanShow : At K mg "can_show" fS fdS ["look", "answer"])
    (GRow : FnOk P w K mg base CX0 1 fR fdR ["thing", "size"] spRow2) (GAsLook : FnOk P w K mg base CX0 5 fL fdL ["thing"] spAsLook2) (GCanShow : FnOk P w K mg base CX0 4 fS fdS ["look", "answer"] spCanShowO) : FnOk P w K mg base CX0 6 f fd ["thing"] spAsSightO := by
  refine F.ok scAsSight (fun vs H Q E h => ?_) (fun cdv A outer s H vs Q E hr h => ?_)
  · obtain ⟨v, rfl, _⟩ := h
    rfl
  · obtain ⟨v, rfl, hv, q⟩ := h
    refine ⟨_, pss_cons (ps_if (pt_not (pt_val (pe_call GRow (hr.mono (by decide)) rfl aRow.m aRow.k aRow.b .nil pass0 (pa_cons (pv 0) (pa_cons pe_int pa_nil))))) (pss_one (ps_ret pe_non)) (pss_nil))
            (pss_cons (ps_set (i := 1) scAsSight.nd rfl (Or.inl rfl) (pe_call GAsLook (hr.mono (by decide)) rfl aAsLook.m aAsLook.k aAsLook.b .nil pass0 (pa_cons (pe_ix ix_row (pv 0) pe_int (fun _ _ => rfl)) pa_nil)))
            (pss_cons (ps_if (PW.pt (pw_or (pt_cmp (pc_isN (pv 1))) (pw_or1 (pt_not (pt_val (pe_call GCanShow (hr.mono (by decide)) rfl aCanShow.m aCanShow.k aCanShow.b .nil pass0 (pa_cons (pv 1) (pa_cons (pe_ix ix_row (pv 0) pe_int (fun _ _ => rfl)) pa_nil)))))))) (pss_one (ps_ret pe_non)) (pss_nil))
            (pss_cons (ps_if (pt_val (pe_callB isi_LT (by rfl) T.isinstance (by decide +kernel) (pa_cons (pe_ix ix_row (pv 0) pe_int (fun _ _ => rfl)) (pa_cons (pe_tup (pa_cons (pe_bltn (v := .ty "list") (by rfl) T.list (by decide +kernel) rfl) (pa_cons (pe_bltn (v := .ty "tuple") (by rfl) T.tuple (by decide +kernel) rfl) pa_nil))) pa_nil)))) (pss_one (ps_ret (pe_tup (pa_cons (pv 1) (pa_cons (pe_callTy call_tup_row (by rfl) T.tuple (by decide +kernel) (pa_cons (pe_ix ix_row (pv 0) pe_int (fun _ _ => rfl)) pa_nil)) pa_nil))))) (pss_nil))
            (pss_one (ps_ret (pe_tup (pa_cons (pv 1) (pa_cons (pe_ix ix_row (pv 0) pe_int (fun _ _ => rfl)) pa_nil)))))))), ?_⟩
    cases hv with
    | no h => exact ⟨_, rfl, .inr ⟨v, 2, rfl, h, fun H1 s1 => ⟨_, rfl, iteT (q H1 s1)⟩⟩⟩
    | @len xs h n =>
      refine ⟨_, rfl, .inl ⟨v, xs, 2, rfl, h, fun H1 s1 => ⟨_, rfl, ?_⟩⟩⟩
      rw [decide_eq_false (show ¬ (xs.length : Int) = 2 from fun e => n (by omega))]
      exact iteT (q H1 s1)
    | @look x y h o =>
      exact ⟨_, rfl, .inl ⟨v, _, 2, rfl, h, fun H1 s1 => ⟨_, rfl, iteF ⟨_, rfl, _, 0, _, h.up s1, rfl, atI_nat (j := 0) rfl, .inr ⟨x, rfl, o.up s1, fun H2 s2 => ⟨_, rfl, _, rfl, iteT (q H2 (s1.trans s2))⟩⟩⟩⟩⟩⟩
    | @ans x y k h hx ok n =>
      refine ⟨_, rfl, .inl ⟨v, _, 2, rfl, h, fun H1 s1 => ⟨_, rfl, iteF ⟨_, rfl, _, 0, _, h.up s1, rfl, atI_nat (j := 0) rfl, .inl ⟨x, k, rfl, hx.up s1, ok, fun t H2 s2 ht => ?_⟩⟩⟩⟩⟩
      have s12 := s1.trans s2
      exact ⟨_, rfl, _, rfl, iteN (by intro z; cases z) ⟨_, rfl, _, rfl, _, 1, _, h.up s12, rfl, atI_nat (j := 1) rfl, t, y, k, rfl, ht, ok, n.up s12, fun H3 s3 => ⟨_, rfl, iteT (q H3 (s12.trans s3))⟩⟩⟩
end
end T6

set_option maxHeartbeats 3900000
namespace ET
open PySem PySem.Spec PyProof.Rows L2
abbrev itObj (l : Addr) : Obj := { cls := .type "tuple_iterator", data := .fields #[.ref l, .int 0 0] }
abbrev enObj (it : Addr) : Obj := { cls := .type "enumerate", data := .fields #[.none, .bool false, .ref it, rawInt 0, .none, .none] }
theorem meets_enumT (l : Addr) (its : Array Value) (n : Nat) (dct : Option Addr) (sl : Array (Option Value)) :
    Meets (Builtin.«enumerate.__new__» ⟨[.type "enumerate", .ref l], []⟩) (fun _ R s => s.heap.get? l = some { cls := .type "tuple", dict := dct, data := .seq its n, slots := sl } ∧
      R (.ok (.ret (.ref (s.heap.push (itObj l)).objs.size))) { s with heap := (s.heap.push (itObj l)).push (enObj s.heap.objs.size) }) :=
  .of_wp fun prog w A R s ha => by
    obtain ⟨hp, gg, dd, tk, os⟩ := s
    obtain ⟨hl, ha⟩ := ha
    have isub := sub_enumerate
    have hT : Heap.IsTuple (Shared.heap ⟨hp, gg, dd, tk, os⟩) l its := ⟨_, hl, rfl, n, rfl⟩
    wp_walk using AutoSeq1.wpAny_loadPart' hl
    refine wpAny_stack_any fun stk => wpAny_pure ?_
    split
    · rename_i c _ _ _ _ _
      cases (c == Value.type "enumerate") <;> (wp_walk using AutoSeq1.wpAny_loadPart' hl, wpAny_pyIter_tuple hT; exact ⟨_, rfl, ha⟩)
    · wp_walk using AutoSeq1.wpAny_loadPart' hl, wpAny_pyIter_tuple hT
      exact ⟨_, rfl, ha⟩
theorem call_enumT {prog : Program} {w : World} {A : Around} {E : Value → Shared → Prop} {s : Shared} {l : Addr} {its : Array Value} {Q : Value → Shared → Prop} (hL : s.heap.IsTuple l its)
    (h : ∀ h', IsEnum h' (s.heap.objs.size + 1) s.heap.objs.size 0 .none → h'.IsTupleIter s.heap.objs.size l 0 → (∀ b o, s.heap.get? b = some o → h'.get? b = some o) → Q (.ref (s.heap.objs.size + 1)) { s with heap := h' }) :
    wpAny (model prog w) A (call (.type "enumerate") [.ref l]) Q E s := by
  obtain ⟨⟨c, dct, dt, sl⟩, hl, hc, n, hd⟩ := hL
  obtain rfl : c = .type "tuple" := hc
  obtain rfl : dt = .seq its n := hd
  refine callType_new F.called_enumerate (by decide) (F.typeCall_enumerate_1 _) (F.newCall_enumerate_1 _) (fun obj => F.args_object_init_2 obj _) F.entry_enumerate_new (meets_enumT l its n dct sl) ⟨hl, ?_⟩
  have ez : (s.heap.push (itObj l)).objs.size = s.heap.objs.size + 1 := Heap.size_push ..
  show _ ∧ _
  rw [ez]
  have en : IsEnum ((s.heap.push (itObj l)).push (enObj s.heap.objs.size)) (s.heap.objs.size + 1) s.heap.objs.size 0 .none := by
    have q := Heap.get?_push_size (s.heap.push (itObj l)) (o := enObj s.heap.objs.size) rfl
    rw [ez] at q
    exact q
  exact ⟨⟨_, en, rfl⟩, h _ en ⟨_, Heap.get?_push_of_some _ (Heap.get?_push_size _ rfl), rfl, rfl⟩ fun b o x => Heap.get?_push_of_some _ (Heap.get?_push_of_some _ x)⟩
def Itu (K : PySem.W.Frag) (a : Addr) (xs : List V) : It :=
  ⟨fun i H => SqT K H a xs ∧ i < xs.length, fun i H v H' => ∃ T x, v = .ref T ∧ H T = none ∧ H' = upd H T (.tup [.int (i : Nat), x]) ∧ xs[i]? = some x, fun i H => SqT K H a xs ∧ xs.length ≤ i⟩
theorem turn_enumT {P : Program} {w : World} {K : PySem.W.Frag} {elts : List Expr} {kk : Nat} {tpos : Pos} (a e it : Addr) (xs : List V) :
    Turn P w K (.Tuple elts kk tpos) (Itu K a xs) [e, it] e (fun i h => (∃ old, IsEnum h e it ((i : Nat) : Int) old) ∧ h.IsTupleIter it a i ∧ e ≠ it ∧ a ≠ it ∧ a ≠ e ∧ i ≤ xs.length) where
  mem := by simp
  obj := fun i h st b hb => by
    obtain ⟨⟨old, he⟩, ⟨o, ho, hc, hd⟩, _⟩ := st
    rcases (show b = e ∨ b = it by simpa using hb) with rfl | rfl
    · exact ⟨_, he, fun v q => nomatch q⟩
    · exact ⟨o, ho, fun v q => by rw [hd] at q; cases q⟩
  keep := fun i h h' st k => by
    obtain ⟨⟨old, he⟩, ⟨o, ho, r⟩, hne⟩ := st
    exact ⟨⟨old, k e (by simp) _ he⟩, ⟨o, k it (by simp) _ ho, r⟩, hne⟩
  item := by
    intro X hP hw hK hc i pins s σ H E I hf st hg
    subst hP hw hK
    obtain ⟨⟨old, he⟩, hit, hne, na, nb, nle⟩ := st
    obtain ⟨hq, ilt⟩ := hg
    have hx : xs[i]? = some xs[i] := List.getElem?_eq_getElem ilt
    generalize xs[i] = x at hx
    obtain ⟨its, rv, p, hz⟩ := I.tuple hq
    obtain ⟨u, hu, ru⟩ := rv.get hx
    have hel : e < s.heap.objs.size := Heap.lt_size he
    have hil : it < s.heap.objs.size := by obtain ⟨_, q, _⟩ := hit; exact Heap.lt_size q
    have pt : s.heap.IsTuple a its.toArray := p
    have D := Draws.tuple (prog := X.prog) (w := X.w) (A := X.A.in1) (I.ok.hd hc) it a na its.toArray
    have hlt : i < its.toArray.size := by
      have := (List.getElem?_eq_some_iff.mp hu).1
      simpa using this
    have nef : e ∉ [it, a] := by
      simp only [List.mem_cons, List.not_mem_nil, or_false, not_or]
      exact ⟨hne, fun z => nb z.symm⟩
    refine wpAny_pyNext_enum_itemD D he ⟨hit, pt⟩ hlt hne nef fun v h' tk hv ho hit' hT hsz hk => ?_
    have ev : v = u := by
      have hv2 : its[i]? = some v := by simpa using hv
      rw [hu] at hv2
      exact (Option.some.inj hv2).symm
    subst ev
    refine ⟨_, rfl, wpAny_letOwnedTupleGo_enum (s := { s with heap := h', toks := tk + 1 }) ho fun h'' he' sb => ?_⟩
    have away : ∀ b, b ∉ [e, it] → b ≠ e ∧ b ≠ it := fun b hb => ⟨fun z => hb (by simp [z]), fun z => hb (by simp [z])⟩
    have hT2 : h''.get? s.heap.objs.size = some { cls := .type "tuple", data := .seq #[.int i tk, v] } := (sb.2 _ (Nat.ne_of_gt hel)).trans hT
    have I1 : Inv X pins σ (upd H s.heap.objs.size (.tup [.int (i : Nat), x])) { s with heap := h'', toks := tk + 1 } := by
      refine I.turnedNew (ch := [e, it]) (fun b ob hb q => ?_) hf (Nat.le_refl _) ?_
      · exact (sb.2 b (away b hb).1).trans (hk b ob (away b hb).1 (away b hb).2 q)
      · exact ⟨by show 2 ≤ sizeLine; decide, [.int i tk, v], .cons ⟨_, rfl⟩ (.cons ru .nil), ⟨_, hT2, rfl, _, rfl⟩⟩
    refine ⟨.ref s.heap.objs.size, _, I1, rfl, ⟨s.heap.objs.size, x, rfl, I.hok.fresh (Nat.le_refl _), rfl, hx⟩, ⟨⟨v, ?_⟩, ?_, hne, na, nb, ilt⟩, fun b hb => ?_⟩
    · rw [show ((i + 1 : Nat) : Int) = (i : Int) + 1 by omega]
      exact he'
    · obtain ⟨⟨o, h1, h2⟩, _⟩ := hit'
      exact ⟨o, (sb.2 it (Ne.symm hne)).trans h1, h2⟩
    · have lt : b < s.heap.objs.size := by
        rcases (show b = e ∨ b = it by simpa using hb) with z | z
        · rw [z]; exact hel
        · rw [z]; exact hil
      rw [upd_ne (Nat.ne_of_lt lt)]
      exact (hf b hb).1
  done := by
    intro X hP hw hK hc i pins s σ H E I hf st hg
    subst hP hw hK
    obtain ⟨⟨old, he⟩, hit, hne, na, nb, nle⟩ := st
    obtain ⟨hq, hx⟩ := hg
    obtain ⟨its, rv, p, hz⟩ := I.tuple hq
    obtain ⟨f0, f1, f2, f3, f4, f5⟩ := hf it (by simp)
    have D := Draws.tuple (prog := X.prog) (w := X.w) (A := X.A.in1) (I.ok.hd hc) it a na its.toArray
    have hl := rv.length
    have ei : i = its.toArray.size := by
      have e1 : its.toArray.size = its.length := by simp
      rw [e1, ← hl]
      exact Nat.le_antisymm nle hx
    have pt : s.heap.IsTuple a its.toArray := p
    rw [ei] at hit
    exact wpAny_pyNext_enum_endD D he ⟨hit, pt⟩ fun h' eb => ⟨rfl, I.turned (t' := s.toks) (fun b o hb q => eb b o hb q) f0 f1 f3 f4 f5⟩
  self := fun A i s Q E st h => let ⟨⟨_, he⟩, _⟩ := st; wpAny_pyIter_enum he h
theorem walk_enumT {K : PySem.W.Frag} {a : Addr} {xs : List V} : Walk (Itu K a xs) xs.length (fun H => SqT K H a xs) (YPair (fun i => some (.int (i : Nat))) (fun i => xs[i]?)) := by
  refine ⟨fun i _ hi q => ⟨q, hi⟩, fun _ q => ⟨q, Nat.le_refl _⟩, fun i H v H' _ q y => ?_⟩
  obtain ⟨T, x, h1, h2, h3, h4⟩ := y
  exact ⟨T, .int (i : Nat), x, h1, h2, h3, rfl, h4⟩
end ET

set_option maxHeartbeats 3900000
namespace ZL
open PySem PySem.Spec PyProof.Rows L2
theorem nd {x y : Nat} (h : x < y ∨ y < x) : x ≠ y := by omega
end ZL

set_option maxHeartbeats 3900000
namespace LR
open PySem PySem.Spec PyProof.Rows L2
open CB ZL
section
variable {J : It} {n : Nat} {G : Hp → Prop} {K : PySem.W.Frag} {fx fy : Nat → Option V} {i j : Nat} {te : TE} {σ : L2.St} {H1 : Hp} {D : Addr} {Qd : Hp → Prop}
end
section
variable {K : PySem.W.Frag} {i j ia ib : Nat} {te : TE} {σ : L2.St} {H : Hp} {Q : VK} {a b : Addr}
end
section
variable {J : It} {n : Nat} {G : Hp → Prop} {Y : Nat → Hp → V → Hp → Prop} {j : Nat} {te : TE} {σ : L2.St} {H1 : Hp} {D : Addr} {Qd : Hp → Prop}
end
section
variable {α : Type} {J : It} {n : Nat} {G : Hp → Prop} {Y : Nat → Hp → V → Hp → Prop} {tt : TT} {te : TE} {σ : L2.St} {H1 : Hp} {D : Addr} {Qd : Hp → Prop} {j : Nat}
theorem lcFM (w : Walk J n G Y) (zs : List α) (u g : α → V) (f : α → Bool) (hn : zs.length = n) (hs : n < 1000000) (hY : ∀ i H x H', Y i H x H' → H' = H ∧ (zs.map u)[i]? = some x) (hD : H1 D = none) (hG : ∀ H', Same H1 H' → G H')
    (test : ∀ z ∈ zs, ∀ (H2 : Hp), Same H1 H2 → ∀ Q1 : Bool → Hp → Prop, (∀ H3, Same H2 H3 → Q1 (f z) H3) → tt ((wipe σ [j]).set j (some (u z))) H2 Q1)
    (elt : ∀ z ∈ zs, f z = true → ∀ (H2 : Hp), Same H1 H2 → ∀ Q1 : VK, (∀ H3, Same H2 H3 → Q1 (g z) H3) → te ((wipe σ [j]).set j (some (u z))) H2 Q1)
    (hd : ∀ H', Same H1 H' → H' D = some (.lst ((zs.filter f).map g)) → Qd H') :
    ∃ W : Nat → Nat → Hp → Prop, (∃ m, W 0 m (upd H1 D (.lst []))) ∧ ∀ i m H, W i m H →
      (J.stop i H ∧ Qd H) ∨ (J.go i H ∧ ∃ Nx : Hp → Prop, (∀ H', Nx H' → ∃ m', m' < m ∧ W (i + 1) m' H') ∧ ∀ x H', J.yld i H x H' → gName j x (wipe σ [j]) H' fun σ2 H2 => wipe σ2 [j] = wipe σ [j] ∧ tt σ2 H2 fun b H3 =>
        if b = true then te σ2 H3 fun y H4 => ∃ acc, H4 D = some (.lst acc) ∧ acc.length < sizeLine ∧ Nx (upd H4 D (.lst (acc ++ [y]))) else Nx H3) := by
  subst hn
  refine lc_it w (fun i H' => Same H1 H' ∧ H' D = some (.lst (((zs.take i).filter f).map g))) ⟨same_mk hD, upd_same⟩ (fun i H' _ q => hG H' q.1) ?_ ?_
  · rintro i x H2 H3 hi ⟨s2, hd2⟩ y
    obtain ⟨rfl, hx⟩ := hY i H2 x H3 y
    rw [List.getElem?_map, List.getElem?_eq_getElem hi] at hx
    cases hx
    have hm : zs[i] ∈ zs := List.getElem_mem hi
    have tk : zs.take (i + 1) = zs.take i ++ [zs[i]] := by
      rw [List.take_succ, List.getElem?_eq_getElem hi]
      rfl
    refine ⟨wipe1 _, test zs[i] hm _ s2 _ fun H4 s4 => ?_⟩
    cases hf : f zs[i] with
    | true =>
      refine iteT (elt _ hm hf _ (s2.trans s4) _ fun H5 s5 => ⟨_, s5 _ _ (s4 _ _ hd2), ?_, same_ch ((s2.trans s4).trans s5) hD, ?_⟩)
      · rw [List.length_map]
        have h1 := List.length_filter_le f (zs.take i)
        rw [List.length_take] at h1
        exact Nat.lt_of_lt_of_le (show _ < 1000000 by omega) (by decide)
      · rw [upd_same, tk, List.filter_append, List.filter_cons_of_pos hf, List.filter_nil, List.map_append]
        rfl
    | false =>
      refine iteF ⟨s2.trans s4, ?_⟩
      rw [tk, List.filter_append, List.filter_cons_of_neg (by rw [hf]; decide), List.filter_nil, List.append_nil]
      exact s4 _ _ hd2
  · rintro H' ⟨s, h⟩
    rw [List.take_length] at h
    exact hd H' s h
end
end LR

set_option maxHeartbeats 3900000
namespace ER
open PySem PySem.Spec PyProof.Rows L2 TL
open CB
end ER

set_option maxHeartbeats 3900000
namespace T6
open PySem PySem.Spec PyProof.Rows L2 TL
open C8 (pss_cut tCut pe_gc)
open CB XW
theorem SiAt.tup {H H' : Hp} {v : V} {s : Lk × An} (h : SiAt H v s) (e : TupS H H') : SiAt H' v s := by
  obtain ⟨t, u, va, rfl, h1, h2, h3⟩ := h
  refine ⟨t, u, va, rfl, e _ _ h1, e _ _ h2, ?_⟩
  obtain ⟨k, a⟩ := s
  cases a with
  | no => exact h3
  | tx z => exact h3
  | es l =>
    obtain ⟨b, e1, e2⟩ := h3
    exact ⟨b, e1, e _ _ e2⟩
theorem tupS_put {H : Hp} {p : Addr} {u w : HO} (h : H p = some u) (n : ∀ xs, u ≠ .tup xs) : TupS H (upd H p w) := fun b xs e => by
  rw [upd_ne fun z => by rw [z, h] at e; exact n xs (Option.some.inj e)]
  exact e
theorem TupS.trans {H H1 H2 : Hp} (a : TupS H H1) (b : TupS H1 H2) : TupS H H2 := fun c xs e => b c xs (a c xs e)
def SgO (H : Hp) (v : V) : Option (Lk × An) → Prop
  | none => SgNo H v
  | some s => SiIn H v s ∧ SiOk' s
section
variable {P : Program} {w : World} {K : PySem.W.Frag} {mg : Str → Option Value} {base : Heap} {CS CA fS fA : Addr} {fdS fdA : FuncData}
end
end T6

set_option maxHeartbeats 3900000
namespace FI
open PySem PySem.Spec PyProof.Rows L2 TL RP
open C8 (pss_cut tCut pe_gc)
open CB
structure Fine (d : PyData) (dep n : Nat) : Prop where
  sh : d.showable = true
  dp : d.depth ≤ dep
  sz : d.shown.length ≤ n
theorem piled_le : ∀ (ts : List Str) (n : Nat), (∀ t ∈ ts, t.length ≤ n) → piled ts ≤ ts.length * (n + 2)
  | [], n, _ => by
    rw [piled_nil]
    omega
  | t :: r, n, h => by
    have ih := piled_le r n fun u hu => h u (List.mem_cons_of_mem _ hu)
    have h1 := h t List.mem_cons_self
    rw [piled_cons, List.length_cons, Nat.succ_mul]
    omega
theorem listText_le (ts : List Str) (n : Nat) (h : ∀ t ∈ ts, t.length ≤ n) : (listText ts).length ≤ 2 + ts.length * (n + 2) := by
  have pl := piled_le ts n h
  cases ts with
  | nil =>
    show 2 ≤ 2 + 0 * (n + 2)
    omega
  | cons t r =>
    have e : (listText (t :: r)).length = (textFrom 1 (("[" : Str) ++ (if 0 > 0 then ", " else "" : String) ++ t) r).length + 1 := by
      show ((textFrom 0 "[" (t :: r)) ++ ("]" : String)).length = _
      rw [strLen_append]
      rfl
    rw [e, textFrom_length_pos r 1 _ (by decide), strLen_append, strLen_append]
    rw [piled_cons] at pl
    have e1 : (("[" : String) : Str).length = 1 := rfl
    have e2 : (((if 0 > 0 then ", " else "" : String)) : Str).length = 0 := rfl
    rw [e1, e2]
    omega
theorem shown_mem : ∀ {ds : List PyData} {t : Str}, t ∈ PyData.shownAll ds → ∃ d ∈ ds, t = d.shown
  | [], t, h => by simp [PyData.shownAll] at h
  | d :: r, t, h => by
    simp only [PyData.shownAll] at h
    rcases List.mem_cons.mp h with rfl | h
    · exact ⟨d, List.mem_cons_self, rfl⟩
    · obtain ⟨e, he, q⟩ := shown_mem h
      exact ⟨e, List.mem_cons_of_mem _ he, q⟩
theorem shownAll_len : ∀ ds : List PyData, (PyData.shownAll ds).length = ds.length
  | [] => by simp [PyData.shownAll]
  | d :: r => by simp [PyData.shownAll, shownAll_len r]
theorem showAll : ∀ ds : List PyData, (∀ d ∈ ds, d.showable = true) → PyData.showableAll ds = true
  | [], _ => by simp [PyData.showableAll]
  | d :: r, h => by simp [PyData.showableAll, h d List.mem_cons_self, showAll r fun u hu => h u (List.mem_cons_of_mem _ hu)]
theorem depAll (n : Nat) : ∀ ds : List PyData, (∀ d ∈ ds, d.depth ≤ n) → PyData.depthAll ds ≤ n
  | [], _ => by simp [PyData.depthAll]
  | d :: r, h => by
    have h1 := h d List.mem_cons_self
    have h2 := depAll n r fun u hu => h u (List.mem_cons_of_mem _ hu)
    simp only [PyData.depthAll]
    omega
theorem Fine.lst {ds : List PyData} {dep n m : Nat} (h : ∀ d ∈ ds, Fine d dep n) (hm : 2 + ds.length * (n + 2) ≤ m) : Fine (.list ds) (dep + 1) m := by
  refine ⟨?_, ?_, ?_⟩
  · simp only [PyData.showable]
    exact showAll ds fun d hd => (h d hd).sh
  · simp only [PyData.depth]
    exact Nat.succ_le_succ (depAll dep ds fun d hd => (h d hd).dp)
  · simp only [PyData.shown]
    have q := listText_le (PyData.shownAll ds) n fun t ht => by
      obtain ⟨d, hd, rfl⟩ := shown_mem ht
      exact (h d hd).sz
    rw [shownAll_len] at q
    exact Nat.le_trans q hm
theorem dq_strs {K : PySem.W.Frag} {H : Hp} : ∀ l : List Str, DqAll K H (l.map V.str) (l.map PyData.str)
  | [] => .nil
  | z :: r => .cons (.str z) (dq_strs r)
theorem Fine.up {d : PyData} {a n b m : Nat} (h : Fine d a n) (h1 : a ≤ b) (h2 : n ≤ m) : Fine d b m := ⟨h.sh, Nat.le_trans h.dp h1, Nat.le_trans h.sz h2⟩
theorem tupTextN_le (ts : List Str) (n : Nat) (h : ∀ t ∈ ts, t.length ≤ n) : (tupleText ts).length ≤ 3 + ts.length * (n + 2) := by
  have pl := piled_le ts n h
  unfold tupleText
  rw [strLen_append, strLen_append]
  have e1 : ((("(" : String) : Str)).length = 1 := rfl
  have e3 : (((if ts.length == 1 then ",)" else ")" : String) : Str)).length ≤ 2 := by
    by_cases q : (ts.length == 1) = true
    · rw [if_pos q]
      exact Nat.le_refl _
    · rw [if_neg q]
      exact Nat.le_succ _
  by_cases e : ts = []
  · subst e
    have e4 : ((Str.ofString ", ").join ([] : List Str)).length = 0 := by decide +kernel
    rw [e1, e4]
    omega
  · have j := join_length_add ts e
    rw [e1]
    omega
theorem Fine.tup {ds : List PyData} {dep n m : Nat} (h : ∀ d ∈ ds, Fine d dep n) (hm : 3 + ds.length * (n + 2) ≤ m) : Fine (.tuple ds) (dep + 1) m := by
  refine ⟨?_, ?_, ?_⟩
  · simp only [PyData.showable]
    exact showAll ds fun d hd => (h d hd).sh
  · simp only [PyData.depth]
    exact Nat.succ_le_succ (depAll dep ds fun d hd => (h d hd).dp)
  · simp only [PyData.shown]
    have q := tupTextN_le (PyData.shownAll ds) n fun t ht => by
      obtain ⟨d, hd, rfl⟩ := shown_mem ht
      exact (h d hd).sz
    rw [shownAll_len] at q
    exact Nat.le_trans q hm
theorem fine_str {z : Str} {n : Nat} (hc : ∀ c ∈ tl z, c < 16 ^ 8) (hn : z.length ≤ n) : Fine (.str z) 0 (10 * n + 2) := by
  refine ⟨by simp [PyData.showable], by simp [PyData.depth], ?_⟩
  have q := PySem.StrLaws.reprText_len z hc
  simp only [PyData.shown]
  omega
theorem fine_non : Fine .none 0 10 := ⟨by simp [PyData.showable], by simp [PyData.depth], by simp only [PyData.shown]; decide⟩
end FI

set_option maxHeartbeats 3900000
namespace DV
open PySem PySem.Spec PyProof.Rows L2 TL RP
open CB
inductive Dv
  | non
  | int (i : Int)
  | bl (b : Bool)
  | str (z : Str)
  | tup (l : List Dv)
  | lst (l : List Dv)
  | dct
mutual
/-- v is so made, of things that H0 does not hold -/
inductive Dat (H0 H : Hp) : V → Dv → Prop
  | non : Dat H0 H .non .non
  | int (i : Int) : Dat H0 H (.int i) (.int i)
  | bl (b : Bool) : Dat H0 H (.bl b) (.bl b)
  | str (z : Str) : Dat H0 H (.str z) (.str z)
  | tup {a : Addr} {xs : List V} {ds : List Dv} (n : H0 a = none) (h : H a = some (.tup xs)) (k : DatAll H0 H xs ds) : Dat H0 H (.ref a) (.tup ds)
  | lst {a : Addr} {xs : List V} {ds : List Dv} (n : H0 a = none) (h : H a = some (.lst xs)) (k : DatAll H0 H xs ds) : Dat H0 H (.ref a) (.lst ds)
  | dct {a : Addr} (n : H0 a = none) (h : H a = some (.dK [])) : Dat H0 H (.ref a) .dct
inductive DatAll (H0 H : Hp) : List V → List Dv → Prop
  | nil : DatAll H0 H [] []
  | cons {v : V} {vs : List V} {d : Dv} {ds : List Dv} (h : Dat H0 H v d) (k : DatAll H0 H vs ds) : DatAll H0 H (v :: vs) (d :: ds)
end
mutual
theorem Dat.up {H0 H H' : Hp} (e : ∀ a o, H0 a = none → H a = some o → (∀ ps, o ≠ .tbl ps) → H' a = some o) : ∀ {v : V} {d : Dv}, Dat H0 H v d → Dat H0 H' v d
  | _, _, .non => .non
  | _, _, .int i => .int i
  | _, _, .bl b => .bl b
  | _, _, .str z => .str z
  | _, _, .tup n h k => .tup n (e _ _ n h fun _ z => by cases z) (DatAll.up e k)
  | _, _, .lst n h k => .lst n (e _ _ n h fun _ z => by cases z) (DatAll.up e k)
  | _, _, .dct n h => .dct n (e _ _ n h fun _ z => by cases z)
theorem DatAll.up {H0 H H' : Hp} (e : ∀ a o, H0 a = none → H a = some o → (∀ ps, o ≠ .tbl ps) → H' a = some o) : ∀ {vs : List V} {ds : List Dv}, DatAll H0 H vs ds → DatAll H0 H' vs ds
  | _, _, .nil => .nil
  | _, _, .cons h k => .cons (Dat.up e h) (DatAll.up e k)
end
mutual
theorem Dat.base {H0 H1 H : Hp} (e : ∀ a, H0 a = none → H1 a = none) : ∀ {v : V} {d : Dv}, Dat H0 H v d → Dat H1 H v d
  | _, _, .non => .non
  | _, _, .int i => .int i
  | _, _, .bl b => .bl b
  | _, _, .str z => .str z
  | _, _, .tup n h k => .tup (e _ n) h (DatAll.base e k)
  | _, _, .lst n h k => .lst (e _ n) h (DatAll.base e k)
  | _, _, .dct n h => .dct (e _ n) h
theorem DatAll.base {H0 H1 H : Hp} (e : ∀ a, H0 a = none → H1 a = none) : ∀ {vs : List V} {ds : List Dv}, DatAll H0 H vs ds → DatAll H1 H vs ds
  | _, _, .nil => .nil
  | _, _, .cons h k => .cons (Dat.base e h) (DatAll.base e k)
end
mutual
def dvD : Dv → PyData
  | .non => .none
  | .int i => .int i
  | .bl b => .bool b
  | .str z => .str z
  | .tup l => .tuple (dvDs l)
  | .lst l => .list (dvDs l)
  | .dct => .dict []
def dvDs : List Dv → List PyData
  | [] => []
  | d :: r => dvD d :: dvDs r
end
mutual
theorem Dat.dq {K : PySem.W.Frag} {H0 H : Hp} : ∀ {v : V} {d : Dv}, Dat H0 H v d → Dq K H v (dvD d)
  | _, _, .non => .non
  | _, _, .int i => .int i
  | _, _, .bl b => .bl b
  | _, _, .str z => .str z
  | _, _, .tup n h k => .tup h (DatAll.dq k)
  | _, _, .lst n h k => .lst h (DatAll.dq k)
  | _, _, .dct n h => .dct h .nil
theorem DatAll.dq {K : PySem.W.Frag} {H0 H : Hp} : ∀ {vs : List V} {ds : List Dv}, DatAll H0 H vs ds → DqAll K H vs (dvDs ds)
  | _, _, .nil => .nil
  | _, _, .cons h k => .cons (Dat.dq h) (DatAll.dq k)
end
theorem Dat.same {H0 H H' : Hp} {v : V} {d : Dv} (h : Dat H0 H v d) (s : Same H H') : Dat H0 H' v d := h.up fun a o _ e _ => s a o e
theorem DatAll.same {H0 H H' : Hp} {v : List V} {d : List Dv} (h : DatAll H0 H v d) (s : Same H H') : DatAll H0 H' v d := h.up fun a o _ e _ => s a o e
theorem DatAll.length {H0 H : Hp} : ∀ {vs : List V} {ds : List Dv}, DatAll H0 H vs ds → vs.length = ds.length
  | _, _, .nil => rfl
  | _, _, .cons _ k => congrArg Nat.succ k.length
theorem DatAll.get {H0 H : Hp} : ∀ {vs : List V} {ds : List Dv}, DatAll H0 H vs ds → ∀ (i : Nat) (v : V), vs[i]? = some v → ∃ d, ds[i]? = some d ∧ Dat H0 H v d
  | _, _, .nil, i, v, e => by simp at e
  | _, _, .cons h k, 0, v, e => by cases e; exact ⟨_, rfl, h⟩
  | _, _, .cons h k, i + 1, v, e => k.get i v e
theorem DatAll.app {H0 H : Hp} : ∀ {vs us : List V} {ds es : List Dv}, DatAll H0 H vs ds → DatAll H0 H us es → DatAll H0 H (vs ++ us) (ds ++ es)
  | _, _, _, _, .nil, g => g
  | _, _, _, _, .cons h k, g => .cons h (k.app g)
mutual
def noLst : Dv → Bool
  | .lst _ => false
  | .tup l => noLsts l
  | _ => true
def noLsts : List Dv → Bool
  | [] => true
  | d :: r => noLst d && noLsts r
end
mutual
/-- where there is no list in it -/
theorem Dat.rebaseL {H0 H1 H : Hp} (e : ∀ a o, H0 a = none → H a = some o → (∀ xs, o ≠ .lst xs) → H1 a = none) : ∀ {v : V} {d : Dv}, noLst d = true → Dat H0 H v d → Dat H1 H v d
  | _, _, _, .non => .non
  | _, _, _, .int i => .int i
  | _, _, _, .bl b => .bl b
  | _, _, _, .str z => .str z
  | _, _, q, .tup n h k => .tup (e _ _ n h fun _ z => by cases z) h (DatAll.rebaseL e q k)
  | _, _, q, .lst n h k => by cases q
  | _, _, _, .dct n h => .dct (e _ _ n h fun _ z => by cases z) h
theorem DatAll.rebaseL {H0 H1 H : Hp} (e : ∀ a o, H0 a = none → H a = some o → (∀ xs, o ≠ .lst xs) → H1 a = none) : ∀ {vs : List V} {ds : List Dv}, noLsts ds = true → DatAll H0 H vs ds → DatAll H1 H vs ds
  | _, _, _, .nil => .nil
  | _, _, q, .cons h k => .cons (Dat.rebaseL e (Bool.and_eq_true_iff.mp q).1 h) (DatAll.rebaseL e (Bool.and_eq_true_iff.mp q).2 k)
end
def tDv (pre : L2.St → Prop) (f : L2.St → Dv) : TE := fun σ H Q => pre σ ∧ ∀ v H', Same H H' → Dat H H' v (f σ) → Q v H'
def tDvs (pre : L2.St → Prop) (f : L2.St → List Dv) (n : Nat) : TA := fun σ H Q => pre σ ∧ ∀ vs H', Same H H' → DatAll H H' vs (f σ) → vs.length = n → Q vs H'
section
variable {X : Cx} {e : Expr} {es : List Expr} {pos : Pos}
theorem de_of {t : TE} {pre : L2.St → Prop} {f : L2.St → Dv} (h : PE X e t) (i : ∀ σ H Q, tDv pre f σ H Q → t σ H Q) : PE X e (tDv pre f) := ⟨fun pins s σ H Q I q => h.run pins s σ H Q I (i σ H Q q)⟩
theorem de_non {j : Nat} : PE X (.Constant .none j pos) (tDv (fun _ => True) fun _ => .non) := de_of pe_non fun σ H Q h => h.2 _ H (Same.refl H) .non
theorem de_int {i : Int} {j : Nat} : PE X (.Constant (.int i) j pos) (tDv (fun _ => True) fun _ => .int i) := de_of pe_int fun σ H Q h => h.2 _ H (Same.refl H) (.int i)
theorem de_str {z : Str} {j : Nat} : PE X (.Constant (.str z) j pos) (tDv (fun _ => True) fun _ => .str z) := de_of pe_str fun σ H Q h => h.2 _ H (Same.refl H) (.str z)
theorem da_nil : PA X [] (tDvs (fun _ => True) (fun _ => []) 0) := ⟨fun pos pins s σ H Q I h => pa_nil.run pos pins s σ H Q I (h.2 [] H (Same.refl H) .nil rfl)⟩
theorem da_cons {p1 p2 : L2.St → Prop} {f : L2.St → Dv} {fs : L2.St → List Dv} {n : Nat} (ha : PE X e (tDv p1 f)) (hr : PA X es (tDvs p2 fs n)) (hs : starEach (e :: es) X.env = (false, eval e X.env) :: starEach es X.env := by rfl) :
    PA X (e :: es) (tDvs (fun σ => p1 σ ∧ p2 σ) (fun σ => f σ :: fs σ) (n + 1)) := ⟨fun pos pins s σ H Q I h => (pa_cons ha hr hs).run pos pins s σ H Q I (by
  obtain ⟨⟨h1, h2⟩, q⟩ := h
  exact ⟨h1, fun v H1 s1 a1 => ⟨h2, fun vs H2 s2 a2 l => q _ H2 (s1.trans s2) (.cons (a1.same s2) (a2.base fun a z => s1.free z)) (by rw [List.length_cons, l])⟩⟩)⟩
theorem de_tup {x1 : Nat} {p : L2.St → Prop} {fs : L2.St → List Dv} {n : Nat} (h : PA X es (tDvs p fs n)) (hn : n ≤ sizeLine := by decide) : PE X (.Tuple es x1 pos) (tDv p fun σ => .tup (fs σ)) := de_of (pe_tup h) fun σ H Q h => by
  obtain ⟨h1, q⟩ := h
  exact ⟨h1, fun vs H1 s1 a1 l => ⟨by rw [l]; exact hn, fun a ha => q _ _ (s1.trans (same_mk ha)) (.tup (s1.free ha) upd_same (a1.same (same_mk ha)))⟩⟩
theorem de_lst {p : L2.St → Prop} {fs : L2.St → List Dv} {n : Nat} (h : PA X es (tDvs p fs n)) (hn : n ≤ sizeLine := by decide) : PE X (.List es pos) (tDv p fun σ => .lst (fs σ)) := de_of (pe_lst h) fun σ H Q h => by
  obtain ⟨h1, q⟩ := h
  exact ⟨h1, fun vs H1 s1 a1 l => ⟨by rw [l]; exact hn, fun a ha => q _ _ (s1.trans (same_mk ha)) (.lst (s1.free ha) upd_same (a1.same (same_mk ha)))⟩⟩
theorem de_dct : PE X (.Dict [] [] pos) (tDv (fun _ => True) fun _ => .dct) := de_of pe_dnewK fun σ H Q h => fun a ha => h.2 _ _ (same_mk ha) (.dct ha upd_same)
end
end DV

set_option maxHeartbeats 3900000
namespace FD
open PySem PySem.Spec PyProof.Rows L2 TL RP
open CB FI DV
mutual
def dpD : Dv → Nat
  | .tup l => dpDs l + 1
  | .lst l => dpDs l + 1
  | .dct => 1
  | _ => 0
def dpDs : List Dv → Nat
  | [] => 0
  | d :: r => max (dpD d) (dpDs r)
end
end FD

set_option maxHeartbeats 3900000
namespace T6
open PySem PySem.Spec PyProof.Rows L2 TL
open C8 (pss_cut tCut pe_gc)
open CB
def But3 (st l p : Addr) (H H' : Hp) : Prop := ∀ b o, H b = some o → b ≠ st → b ≠ l → b ≠ p → H' b = some o
theorem But3.trans {st l p : Addr} {H H1 H2 : Hp} (a : But3 st l p H H1) (b : But3 st l p H1 H2) : But3 st l p H H2 := fun c o h n1 n2 n3 => b c o (a c o h n1 n2 n3) n1 n2 n3
theorem But3.at {st l p : Addr} {H : Hp} {o : HO} : But3 st l p H (upd H p o) := fun c o' h n1 n2 n3 => by rw [upd_ne n3]; exact h
theorem Strm.tup_ne {H : Hp} {st l : Addr} {c : Nat} {t : Addr} {xs : List V} (S : Strm H st l c) (h : H t = some (.tup xs)) : t ≠ st ∧ t ≠ l := by
  obtain ⟨ns, a, m, ⟨h1, h2⟩, _⟩ := S.ex
  exact ⟨ne_of h h1 (by intro z; cases z), ne_of h h2 (by intro z; cases z)⟩
section
variable {P : Program} {w : World} {K : PySem.W.Frag} {mg : Str → Option Value} {base : Heap} {fD : Addr} {fdD : FuncData}
end
end T6

set_option maxHeartbeats 3900000
namespace MS
open PySem PySem.Spec PyProof.Rows L2 TL
section
variable {X : Cx} {CX : CXT} {k : Nat} {f C : Addr} {fd : FuncData} {ps : List Str} {sp : Sp} {E : L2.St → XK} {x : Str} {p pos : Pos} {e : Expr} {es : List Expr} {t : TA}
def tMakeS (C : Addr) (sp : Sp) (E : L2.St → XK) (t : TA) : TE := fun σ H Q => t σ H fun vs H1 => ∀ x dx, H1 x = Option.none → H1 dx = Option.none → dx ≠ x →
  sp (V.ref x :: vs) (upd (upd H1 dx (.own x)) x (.ins C dx [])) (fun v H2 => v = .non ∧ Q (.ref x) H2) (E σ)
theorem run_makeS {pins : List (Addr × Obj)} {σ : L2.St} {H : Hp} {s : Shared} {Q : VK} {us : List Value} {vs : List V} (M : Mk X.K C f) (F : FnOk X.prog X.w X.K X.mg X.base CX k f fd ps sp) (hr : Room (k + 1) X.A) (hb : L2.Binds X.K fd ps [])
    (hx : PassesAt CX X σ (E σ)) (I : Inv X pins σ H s) (r : Vals vs us)
    (h : ∀ x dx, H x = none → H dx = none → dx ≠ x → sp (.ref x :: vs) (upd (upd H dx (.own x)) x (.ins C dx [])) (fun v H2 => v = .non ∧ Q (.ref x) H2) (E σ)) :
    wpAny (model X.prog X.w) X.A (call (.ref C) us) (EP X pins σ Q) X.xe s := by
  have hq := h (s.heap.objs.size + 1) s.heap.objs.size (I.hok.fresh (Nat.le_succ _)) (I.hok.fresh (Nat.le_refl _)) (Nat.ne_of_lt (Nat.lt_succ_self _))
  have I2 := Inv.made (C := C) I
  have r2 : Vals (V.ref (s.heap.objs.size + 1) :: vs) (Value.ref (s.heap.objs.size + 1) :: us) := .cons rfl r
  have hl : (Value.ref (s.heap.objs.size + 1) :: us).length = ps.length := by
    have e := r2.length
    rw [F.len _ _ _ _ hq] at e
    exact e.symm
  have b := hb _ (Value.ref (s.heap.objs.size + 1) :: us) I2.kIn (by rw [List.append_nil]; exact hl)
  rw [List.append_nil] at b
  refine wpAny_call (make_map (f := f) I.kIn M.makes M.init (beq_iff_eq.mp M.fn) (codeAny_mono (F.run _ X.stack _ _ ⟨Value.ref (s.heap.objs.size + 1) :: us, []⟩ (Value.ref (s.heap.objs.size + 1) :: us) _ _ (E σ) (hr.make C us [])
    (I2.env0.make C us []) b r2 hq) fun r s' hq' => ?_))
  cases r with
  | error e => exact hx pins _ _ e s' I2 hq'
  | ok fl =>
    cases fl with
    | ret u =>
      obtain ⟨v, H', I3, rv, ev, q3⟩ := I2.after hq'
      subst ev
      exact ⟨rv, ⟨V.ref (s.heap.objs.size + 1), H', I3, rfl, q3⟩⟩
    | next => exact False.elim hq'
    | brk => exact False.elim hq'
    | cont => exact False.elim hq'
theorem pe_makeS (M : Mk X.K C f) (F : FnOk X.prog X.w X.K X.mg X.base CX k f fd ps sp) (hr : Room (k + 1) X.A) (hg : Gl X x) (hm : X.mg x = some (.ref C)) (hb : L2.Binds X.K fd ps []) (hx : ∀ σ, PassesAt CX X σ (E σ))
    (ha : PA X (e :: es) t) (hdb : (x == ("__debug__" : Str)) = false := by decide) (he : starEach (e :: es) X.env = (false, eval e X.env) :: starEach es X.env := by rfl) (hpl : (backTo pos (starEach es X.env)).any (·.1) = false := by rfl) :
    PE X (.Call (.Name x p) (e :: es) [] pos) (tMakeS C sp E t) := by
  refine ⟨fun pins s σ H Q I h => ?_⟩
  refine wpAny_Call_Name_kw (ld_glob I hg hm ?_ hdb)
  refine PySem.W.callWith_K (h₀ := X.base) I.ok.mod.kin M.kp (thn (ha.run pos pins s σ H _ I h) fun us s1 ⟨vs, H1, I1, r, q⟩ => ⟨I1.kIn, ?_⟩) he hpl
  exact run_makeS M F hr hb (hx σ) I1 r q
end
end MS

set_option maxHeartbeats 3900000
namespace T6
open PySem PySem.Spec PyProof.Rows L2 TL
open C8 (pss_cut tCut pe_gc)
open CB
abbrev Fs := List (List Str × Str)
def room (fs : Fs) (p : List Str) : Bool := !(fs.any fun e => ben p e.1 || ben e.1 p)
def putF (fs : Fs) (p : List Str) (t : Str) : Fs := if p ∈ fs.map (·.1) then fs.map (fun e => if e.1 = p then (e.1, t) else e) else fs ++ [(p, t)]
theorem putF_keys (fs : Fs) (p : List Str) (t : Str) : (putF fs p t).map (·.1) = if p ∈ fs.map (·.1) then fs.map (·.1) else fs.map (·.1) ++ [p] := by
  unfold putF
  by_cases h : p ∈ fs.map (·.1)
  · rw [if_pos h, if_pos h, List.map_map]
    refine List.map_congr_left fun e _ => ?_
    show (if e.1 = p then (e.1, t) else e).1 = e.1
    split <;> rfl
  · rw [if_neg h, if_neg h, List.map_append]
    rfl
structure GoodF (zs : List Str) (fs : Fs) : Prop where
  path : ∀ e ∈ fs, e.1 ≠ [] ∧ e.1.length ≤ 3 ∧ ∀ y ∈ e.1, y ∈ zs
  text : ∀ e ∈ fs, e.2 ∈ texts
  nd : (fs.map (·.1)).Nodup
  free : ∀ p ∈ fs.map (·.1), ∀ q ∈ fs.map (·.1), ben p q = false
theorem GoodF.put {zs : List Str} {fs : Fs} {p : List Str} {t : Str} (g : GoodF zs fs) (h1 : p ≠ []) (h2 : p.length ≤ 3) (h3 : ∀ y ∈ p, y ∈ zs) (ht : t ∈ texts) (r : room fs p = true) : GoodF zs (putF fs p t) := by
  have rm : ∀ q ∈ fs.map (·.1), ben p q = false ∧ ben q p = false := fun q hq => by
    obtain ⟨e, he, rfl⟩ := List.mem_map.mp hq
    unfold room at r
    rw [Bool.not_eq_true', List.any_eq_false] at r
    have := r e he
    simp only [Bool.or_eq_true, not_or, Bool.not_eq_true] at this
    exact this
  have self : ben p p = false := by
    cases q : ben p p with
    | false => rfl
    | true =>
      unfold ben at q
      rw [Bool.and_eq_true, decide_eq_true_iff] at q
      exact absurd q.2 (Nat.lt_irrefl _)
  have keys : ∀ q ∈ (putF fs p t).map (·.1), q ∈ fs.map (·.1) ∨ q = p := fun q hq => by
    rw [putF_keys] at hq
    split at hq
    · exact .inl hq
    · exact (List.mem_append.mp hq).imp id List.mem_singleton.mp
  refine ⟨fun e he => ?_, fun e he => ?_, ?_, fun a ha b hb => ?_⟩
  · rcases keys e.1 (List.mem_map_of_mem he) with q | q
    · obtain ⟨e', he', q⟩ := List.mem_map.mp q
      rw [← q]
      exact g.path e' he'
    · rw [q]
      exact ⟨h1, h2, h3⟩
  · unfold putF at he
    split at he
    · obtain ⟨e', he', rfl⟩ := List.mem_map.mp he
      split
      · exact ht
      · exact g.text e' he'
    · rcases List.mem_append.mp he with he | he
      · exact g.text e he
      · rw [List.mem_singleton.mp he]
        exact ht
  · rw [putF_keys]
    split
    · exact g.nd
    · rename_i h
      rw [List.nodup_append]
      refine ⟨g.nd, by simp, fun a ha b hb => ?_⟩
      rw [List.mem_singleton.mp hb]
      rintro rfl
      exact h ha
  · rcases keys a ha with ha1 | ea
    · rcases keys b hb with hb1 | eb
      · exact g.free a ha1 b hb1
      · rw [eb]
        exact (rm a ha1).2
    · rw [ea]
      rcases keys b hb with hb1 | eb
      · exact (rm b hb1).1
      · rw [eb]
        exact self
section
variable {P : Program} {w : World} {K : PySem.W.Frag} {mg : Str → Option Value} {base : Heap} {fBe : Addr} {fdBe : FuncData}
end
end T6

set_option maxHeartbeats 3900000
namespace T6
open PySem PySem.Spec PyProof.Rows L2 TL
open C8 (pss_cut tCut pe_gc)
open CB
abbrev Ss := List (Str × Str)
def tools : List Str := ["", "1", "2"]
section
variable {P : Program} {w : World} {K : PySem.W.Frag} {mg : Str → Option Value} {base : Heap}
end
end T6

set_option maxHeartbeats 3900000
namespace T6
open PySem PySem.Spec PyProof.Rows L2 TL
open C8 (pss_cut tCut pe_gc)
open CB
abbrev Nm := List (Str × Bool)
def Has (fs : Fs) (q : List Str) (n : Str) (b : Bool) : Prop := ∃ e ∈ fs, ∃ r, e.1 = q ++ n :: r ∧ b = decide (r ≠ [])
structure Fm (fs : Fs) (q : List Str) (fm : Nm) : Prop where
  nd : (fm.map (·.1)).Nodup
  has : ∀ n b, (n, b) ∈ fm ↔ Has fs q n b
theorem has_take {fs : Fs} {i : Nat} (hi : i < fs.length) {q : List Str} {n : Str} {b : Bool} : Has (fs.take (i + 1)) q n b ↔ Has (fs.take i) q n b ∨ ∃ r, fs[i].1 = q ++ n :: r ∧ b = decide (r ≠ []) := by
  have tk : fs.take (i + 1) = fs.take i ++ [fs[i]] := by
    rw [List.take_succ, List.getElem?_eq_getElem hi]
    rfl
  unfold Has
  rw [tk]
  constructor
  · rintro ⟨e, he, r, h1, h2⟩
    rcases List.mem_append.mp he with he | he
    · exact .inl ⟨e, he, r, h1, h2⟩
    · rw [List.mem_singleton.mp he] at h1
      exact .inr ⟨r, h1, h2⟩
  · rintro (⟨e, he, r, h1, h2⟩ | ⟨r, h1, h2⟩)
    · exact ⟨e, List.mem_append_left _ he, r, h1, h2⟩
    · exact ⟨fs[i], List.mem_append_right _ (List.mem_singleton.mpr rfl), r, h1, h2⟩
theorem Fm.no {fs : Fs} {i : Nat} {q : List Str} {fm : Nm} (h : Fm (fs.take i) q fm) (hi : i < fs.length) (hb : ben fs[i].1 q = false) : Fm (fs.take (i + 1)) q fm := by
  refine ⟨h.nd, fun n b => (h.has n b).trans ⟨fun k => (has_take hi).mpr (.inl k), fun k => ?_⟩⟩
  rcases (has_take hi).mp k with k | ⟨r, h1, _⟩
  · exact k
  · have : ben fs[i].1 q = true := ben_iff.mpr ⟨n :: r, by simp, h1⟩
    rw [this] at hb
    cases hb
section
variable {P : Program} {w : World} {K : PySem.W.Frag} {mg : Str → Option Value} {base : Heap}
end
end T6

set_option maxHeartbeats 3900000
namespace T6
open PySem PySem.Spec PyProof.Rows L2 TL
open C8 (pss_cut tCut pe_gc)
open CB
section
variable {H : Hp} {x d e : Addr} {z : Str}
end
section
variable {P : Program} {w : World} {K : PySem.W.Frag} {mg : Str → Option Value} {base : Heap}
end
end T6

set_option maxHeartbeats 3900000
namespace T6
open PySem PySem.Spec PyProof.Rows L2 TL RP
open C8 (pss_cut tCut pe_gc)
open CB
end T6

set_option maxHeartbeats 3900000
namespace T6
open PySem PySem.Spec PyProof.Rows L2 TL RP
open C8 (pss_cut tCut pe_gc)
open CB XW MS DV FD FI
def AnS : An → Prop
  | .tx z => z.length ≤ 20
  | _ => True
section
variable {P : Program} {w : World} {K : PySem.W.Frag} {mg : Str → Option Value} {base : Heap}
end
end T6

set_option maxHeartbeats 3900000
namespace T6
open PySem PySem.Spec PyProof.Rows L2 TL RP
open C8 (pss_cut tCut pe_gc)
open CB XW MS DV FD FI
theorem sz_of {zs : List Str} {k : Lk} {a : An} (ok : LkOn zs 3 k) (h : match a with | .es l => l.length ≤ 20 | _ => True) : Sz (k, a) := by
  cases k with
  | rd p => exact ⟨Nat.le_trans ok.2.1 (by decide), h⟩
  | ls p => exact ⟨Nat.le_trans ok.1 (by decide), h⟩
  | se n => exact ⟨trivial, h⟩
  | tl => exact ⟨trivial, h⟩
theorem on_an {zs : List Str} {a : An} {k : Lk} (h : AnOn zs a) (ok : LkOn zs 3 k) (nm : ∀ y ∈ zs, IsNm y) : AnW a ∧ AnS a ∧ Sz (k, a) := by
  cases a with
  | no => exact ⟨trivial, trivial, sz_of ok trivial⟩
  | tx z => exact ⟨h.1, h.2, sz_of ok trivial⟩
  | es l => exact ⟨⟨fun e he => nm _ (h.1 e he), Nat.le_trans h.2 (by decide)⟩, trivial, sz_of ok h.2⟩
theorem on_ok {zs : List Str} {k : Lk} (ok : LkOn zs 3 k) (nm : ∀ y ∈ zs, IsNm y) : LkOk k := by
  cases k with
  | rd p => exact ⟨ok.1, fun y hy => nm y (ok.2.2 y hy), Nat.le_trans ok.2.1 (by decide)⟩
  | ls p => exact ⟨fun y hy => nm y (ok.2 y hy), Nat.le_trans ok.1 (by decide)⟩
  | se n => exact nm n ok
  | tl => trivial
theorem tup_but {H H' : Hp} {st l : Addr} {c : Nat} (S : Strm H st l c) (B : But st l H H') : TupS H H' := fun b xs h => B b _ h (S.tup_ne h).1 (S.tup_ne h).2
section
variable {P : Program} {w : World} {K : PySem.W.Frag} {mg : Str → Option Value} {base : Heap} {fD fdW : Addr} {fdD : FuncData}
end
end T6

set_option maxHeartbeats 3900000
namespace T6
open PySem PySem.Spec PyProof.Rows L2 TL
open CB
section
variable {ss : List (Lk × An)}
end
section
variable {zs : List Str} {fs : Fs} {ss : Ss} {z : Str}
end
end T6

set_option maxHeartbeats 3900000
namespace LE
open PySem PySem.Spec PyProof.Rows L2 TL
open C8 (pss_cut tCut pe_gc)
open CB
section
variable {X : Cx} {K0 : PySem.W.Frag}
theorem notInDK (hK : X.K = K0) (hu : X.A.units + 65 < cLine) : OpR X (compareOp .NotIn) (rNotInD K0) := by
  subst hK
  exact op_notInD hu
end
section
variable {K : PySem.W.Frag} {a D : Addr} {H1 : Hp} {σ : L2.St} {tt : TT} {te : TE} {Qd : Hp → Prop} {jk jw : Nat}
def pick (xs : List V) (p : Nat → Bool) (n : Nat) : List V := ((List.range n).filter p).map fun i => xs.getD i .non
end
end LE

set_option maxHeartbeats 3900000
namespace T6
open PySem PySem.Spec PyProof.Rows L2 TL
open CB LE
abbrev Sg := Lk × An
end T6

set_option maxHeartbeats 3900000
namespace T6
open PySem PySem.Spec PyProof.Rows L2 TL RP FI
open C8 (pss_cut tCut pe_gc)
open CB
abbrev sSame : Stmt := top 33
def spSame (K : PySem.W.Frag) : Sp := fun vs H Q _ => ∃ (v u : V) (d : PyData), vs = [v, u] ∧ Dq K H v d ∧ Dq K H u d ∧ Fine d 20 1000000 ∧ Q (.bl true) H
section
variable {P : Program} {w : World} {K : PySem.W.Frag} {mg : Str → Option Value} {base : Heap}
theorem scSame : FnScope ["_law_found", "_law_due"] ["_law_found", "_law_due"] (defScope sSame) := ⟨rfl, rfl, rfl, by decide +kernel, rfl, by decide +kernel, by decide +kernel⟩
theorem ok_same {f : Addr} {fd : FuncData} (F : Fun K "_law_same" "_law_same" sSame f fd) (mRepr : mg "repr" = none) (SM : (base.get? sysModules).isSome = true) : FnG P w K mg base CX0 1 f fd ["_law_found", "_law_due"] (spSame K) := by
  refine okG F scSame (fun vs H Q E h => ?_) (fun cdv A outer s H vs Q E hg hr h => ?_)
  · obtain ⟨v, u, d, rfl, _⟩ := h
    rfl
  · obtain ⟨v, u, d, rfl, h1, h2, fi, k⟩ := h
    have hu := hr.units
    have sz' : d.shown.length ≤ sizeLine := Nat.le_trans fi.sz (by decide)
    refine ⟨_, pss_one (ps_ret (pe_cmpR op_eq (pe_callB (call_repr SM hg hu) (by rfl) mRepr (by decide +kernel) (pa_cons (pv 0) pa_nil)) (pe_callB (call_repr SM hg hu) (by rfl) mRepr (by decide +kernel) (pa_cons (pv 1) pa_nil)) (nomark _))), ?_⟩
    refine ⟨_, rfl, v, d, rfl, h1, fi.sh, fi.dp, sz', _, rfl, u, d, rfl, h2, fi.sh, fi.dp, sz', rfl, ?_⟩
    show Q (.bl (decide (V.str d.shown = V.str d.shown))) H
    rw [decide_eq_true rfl]
    exact k
end
end T6

set_option maxHeartbeats 3900000
namespace T6
open PySem PySem.Spec PyProof.Rows L2 TL RP
open C8 (pss_cut tCut pe_gc)
open CB XW DV FD FI
def ShN (m : Nat) : Lk → Prop
  | .rd p => p.length ≤ m
  | .ls p => p.length ≤ m
  | _ => True
theorem dq_strs {K : PySem.W.Frag} {H : Hp} : ∀ l : List Str, DqAll K H (l.map V.str) (l.map PyData.str)
  | [] => .nil
  | z :: r => .cons (.str z) (dq_strs r)
theorem js_small {p : List Str} (h : Nms p) : ∀ c ∈ tl (js p), c < 128 := by
  rw [tl_js]
  exact jl_small h
structure Dn (s : Lk × An) : Prop where
  ok : SiOk' s
  sz : Sz s
  an : AnS s.2
  lk : ShN 3 s.1
theorem lkS_fine {k : Lk} (ok : LkOk k) (sh : ShN 3 k) : ∀ x ∈ (lkS k).map PyData.str, Fine x 0 302 := by
  have js27 : ∀ {p : List Str}, Nms p → p.length ≤ 3 → Fine (.str (js p)) 0 302 := fun {p} h l => (fine_str (n := 30) (fun c hc => by have := js_small h c hc; omega) (by have := js_len h; omega)).up (Nat.le_refl _) (by decide)
  have w : ∀ z ∈ (["read", "list", "setting", "tool"] : List Str), Fine (.str z) 0 302 := by
    intro z hz
    simp only [List.mem_cons, List.not_mem_nil, or_false] at hz
    rcases hz with rfl | rfl | rfl | rfl <;> exact ⟨by decide +kernel, by decide +kernel, by decide +kernel⟩
  intro x hx
  cases k with
  | rd p =>
    simp only [lkS, List.map_cons, List.map_nil, List.mem_cons, List.not_mem_nil, or_false] at hx
    rcases hx with rfl | rfl
    · exact w _ (by decide +kernel)
    · exact js27 ok.2.1 sh
  | ls p =>
    simp only [lkS, List.map_cons, List.map_nil, List.mem_cons, List.not_mem_nil, or_false] at hx
    rcases hx with rfl | rfl
    · exact w _ (by decide +kernel)
    · exact js27 ok.1 sh
  | se n =>
    simp only [lkS, List.map_cons, List.map_nil, List.mem_cons, List.not_mem_nil, or_false] at hx
    rcases hx with rfl | rfl
    · exact w _ (by decide +kernel)
    · exact (fine_str (n := 8) (fun c hc => by have := (show IsNm n from ok).2.2 c hc; omega) (show IsNm n from ok).2.1).up (Nat.le_refl _) (by decide)
  | tl =>
    simp only [lkS, List.map_cons, List.map_nil, List.mem_cons, List.not_mem_nil, or_false] at hx
    subst hx
    exact w _ (by decide +kernel)
theorem lkS_len (k : Lk) : ((lkS k).map PyData.str).length ≤ 2 := by
  cases k <;> simp [lkS]
theorem fine_any {ds : List PyData} {n m dep e : Nat} {d : PyData} (h : ∀ x ∈ ds, Fine x dep n) (hm : 3 + ds.length * (n + 2) ≤ m) (he : dep + 1 ≤ e) (q : d = .tuple ds ∨ d = .list ds) : Fine d e m := by
  rcases q with rfl | rfl
  · exact (Fine.tup h hm).up he (Nat.le_refl _)
  · exact (Fine.lst h (by omega)).up he (Nat.le_refl _)
theorem ents_fine {l : List (Str × Bool)} (h : ∀ e ∈ l, IsNm e.1) : ∀ x ∈ (l.map fun e => ent e.1 e.2).map PyData.str, Fine x 0 92 := by
  intro x hx
  rw [List.map_map] at hx
  obtain ⟨e, he, rfl⟩ := List.mem_map.mp hx
  refine fine_str (n := 9) (fun c hc => ?_) ?_
  · rw [tl_ent] at hc
    rcases List.mem_append.mp hc with q | q
    · have := (h e he).2.2 c q
      omega
    · split at q
      · rw [List.mem_singleton.mp q]
        decide
      · cases q
  · have := (h e he).2.1
    rw [len_tl, tl_ent, List.length_append, ← len_tl]
    cases e.2 <;> simp <;> omega
def But4 (st l R B : Addr) (H H' : Hp) : Prop := ∀ b o, H b = some o → b ≠ st → b ≠ l → b ≠ R → b ≠ B → H' b = some o
theorem But4.put {st l p B : Addr} {H H' : Hp} {o : HO} (h : But4 st l p B H H') : But4 st l p B H (upd H' p o) := fun b u e n1 n2 n3 n4 => by
  rw [upd_ne n3]
  exact h b u e n1 n2 n3 n4
def El (K : PySem.W.Frag) (st l R B : Addr) (H : Hp) (x : V) (o : Option (Lk × An)) : Prop := ∀ H', But4 st l R B H H' → SgO H' x o ∧ ∃ d, Dq K H' x d ∧ Fine d 5 4000
structure Els (K : PySem.W.Frag) (st l R B : Addr) (H : Hp) (xs : List V) (os : List (Option (Lk × An))) : Prop where
  len : xs.length = os.length
  el : ∀ (i : Nat) (x : V) (o : Option (Lk × An)), xs[i]? = some x → os[i]? = some o → El K st l R B H x o
theorem Els.take {K : PySem.W.Frag} {st l R B : Addr} {H : Hp} {xs : List V} {os : List (Option (Lk × An))} (h : Els K st l R B H xs os) (n : Nat) : Els K st l R B H (xs.take n) (os.take n) := by
  refine ⟨by rw [List.length_take, List.length_take, h.len], fun i x o h1 h2 => ?_⟩
  rw [List.getElem?_take] at h1 h2
  split at h1
  · rename_i c
    rw [if_pos c] at h2
    exact h.el i x o h1 h2
  · cases h1
theorem Els.drop {K : PySem.W.Frag} {st l R B : Addr} {H : Hp} {xs : List V} {os : List (Option (Lk × An))} (h : Els K st l R B H xs os) (n : Nat) : Els K st l R B H (xs.drop n) (os.drop n) := by
  refine ⟨by rw [List.length_drop, List.length_drop, h.len], fun i x o h1 h2 => ?_⟩
  rw [List.getElem?_drop] at h1 h2
  exact h.el _ x o h1 h2
end T6

set_option maxHeartbeats 3900000
namespace T6
open PySem PySem.Spec PyProof.Rows L2 TL
open C8 (pss_cut tCut pe_gc)
open CB XW LE LR
def Row (H : Hp) (v : V) (ss : List Sg) : Prop := ∃ vs', RowAt H v vs' ∧ vs'.length = ss.length ∧ (∀ (i : Nat) (x : V) (s : Sg), vs'[i]? = some x → ss[i]? = some s → SiIn H x s)
section
variable {P : Program} {w : World} {K : PySem.W.Frag} {mg : Str → Option Value} {base : Heap} {CS CA CL fA fS fL : Addr} {fdA fdS fdL : FuncData}
end
end T6

set_option maxHeartbeats 3900000
namespace T6
open PySem PySem.Spec PyProof.Rows L2 TL
open C8 (pss_cut tCut pe_gc)
open CB XW LE LR
def Ks (H : Hp) (zs : List (V × Lk)) : Prop := ∀ z ∈ zs, ∃ t, z.1 = .ref t ∧ H t = some (.tup (lkV z.2))
theorem lks_zip {H : Hp} {D : Addr} {ks : List Lk} (h : LksL H D ks) : ∃ zs : List (V × Lk), H D = some (.lst (zs.map Prod.fst)) ∧ zs.map Prod.snd = ks ∧ Ks H zs := by
  obtain ⟨vs, hD, hl, hv⟩ := h
  refine ⟨vs.zip ks, by rw [List.map_fst_zip (by omega)]; exact hD, List.map_snd_zip (by omega), fun z hz => ?_⟩
  obtain ⟨i, hi⟩ := List.mem_iff_getElem?.mp hz
  rw [List.getElem?_zip_eq_some] at hi
  exact hv i _ _ hi.1 hi.2
theorem Ks.tup {H H' : Hp} {zs : List (V × Lk)} (h : Ks H zs) (t : TupS H H') : Ks H' zs := fun z hz => by
  obtain ⟨a, e, h1⟩ := h z hz
  exact ⟨a, e, t _ _ h1⟩
section
variable {P : Program} {w : World} {K : PySem.W.Frag} {mg : Str → Option Value} {base : Heap} {fD : Addr} {fdD : FuncData}
end
end T6

set_option maxHeartbeats 3900000
namespace T6
open PySem PySem.Spec PyProof.Rows L2 TL
open C8 (pss_cut tCut pe_gc)
open CB XW LE LR
theorem SisL.len {H : Hp} {D : Addr} {ss : List Sg} {xs : List V} (h : SisL H D ss) (hD : H D = some (.lst xs)) : xs.length = ss.length := by
  obtain ⟨vs, e, vl, _⟩ := h
  rw [hD] at e
  cases e
  exact vl
section
variable {P : Program} {w : World} {K : PySem.W.Frag} {mg : Str → Option Value} {base : Heap} {fD : Addr} {fdD : FuncData}
end
end T6

set_option maxHeartbeats 3900000
namespace T6
open PySem PySem.Spec PyProof.Rows L2 TL
open C8 (pss_cut tCut pe_gc)
open CB XW LE LR
theorem any_lk {k : Lk} (h : LkW k) : ∀ {l : List Lk}, (∀ t ∈ l, LkW t) → ((l.map lkD).any fun z => z.eqv (lkD k)) = decide (k ∈ l)
  | [], _ => by simp
  | t :: l, w => by
    rw [List.map_cons, List.any_cons, any_lk h fun x hx => w x (List.mem_cons_of_mem t hx), eqv_lk (w t List.mem_cons_self) h]
    by_cases e : t = k
    · subst e
      simp
    · have e2 : ¬ k = t := fun z => e z.symm
      simp [e, e2]
theorem ks_dp {K : PySem.W.Frag} {H : Hp} {D : Addr} {zs : List (V × Lk)} (hD : H D = some (.lst (zs.map Prod.fst))) (hk : Ks H zs) : Dp K H (.ref D) (.list ((zs.map Prod.snd).map lkD)) := by
  refine .lst (SqL.of hD) ?_
  clear hD
  induction zs with
  | nil => exact .nil
  | cons z r ih =>
    obtain ⟨t, e, h⟩ := hk z List.mem_cons_self
    refine .cons ?_ (ih fun y hy => hk y (List.mem_cons_of_mem z hy))
    rw [e]
    exact lk_dp h
theorem ks_shaped {l : List Lk} (h : ∀ k ∈ l, LkW k) : SeqAt.shaped (.list (l.map lkD)) = true := by
  have lay : ∀ {l : List Lk}, (∀ k ∈ l, LkW k) → PyData.canLayAll0 (l.map lkD) = true := by
    intro l
    induction l with
    | nil => intro _; simp [PyData.canLayAll0]
    | cons k r ih =>
      intro h
      have h1 := siD_lay (s := (k, .no)) ⟨h k List.mem_cons_self, trivial⟩
      have h2 := ih fun x hx => h x (List.mem_cons_of_mem k hx)
      simp only [siD, PyData.canLay0, PyData.canLayAll0, Bool.and_eq_true] at h1
      simp [PyData.canLayAll0, h1.1, h2]
  have dep : ∀ l : List Lk, PyData.depthAll (l.map lkD) ≤ 3 := by
    intro l
    induction l with
    | nil => simp [PyData.depthAll]
    | cons k r ih =>
      have h1 := siD_dep (k, .no)
      simp only [siD, PyData.depth, PyData.depthAll] at h1
      simp only [List.map_cons, PyData.depthAll]
      omega
  refine shaped_mk (by simp only [PyData.canLay0]; exact lay h) ?_
  have := dep l
  simp only [PyData.depth]
  omega
section
variable {P : Program} {w : World} {K : PySem.W.Frag} {mg : Str → Option Value} {base : Heap} {fD : Addr} {fdD : FuncData}
end
end T6

set_option maxHeartbeats 3900000
namespace T6
open PySem PySem.Spec PyProof.Rows L2 TL
open C8 (pss_cut tCut pe_gc)
open CB XW
section
variable {P : Program} {w : World} {K : PySem.W.Frag} {mg : Str → Option Value} {base : Heap} {CS CA fS fA : Addr} {fdS fdA : FuncData}
end
end T6

set_option maxHeartbeats 3900000
namespace T6
open PySem PySem.Spec PyProof.Rows L2 TL
open C8 (pss_cut tCut pe_gc)
open CB XW MS
def SisT (H : Hp) (t : Addr) (ss : List (Lk × An)) : Prop := ∃ vs : List V, H t = some (.tup vs) ∧ vs.length = ss.length ∧ ∀ (i : Nat) (v : V) (s : Lk × An), vs[i]? = some v → ss[i]? = some s → SiAt H v s
theorem SisT.tup {H H' : Hp} {t : Addr} {ss : List (Lk × An)} (h : SisT H t ss) (s : TupS H H') : SisT H' t ss := by
  obtain ⟨vs, h1, h2, h3⟩ := h
  exact ⟨vs, s _ _ h1, h2, fun i v x a b => (h3 i v x a b).tup s⟩
def ButO (o : Addr) (H H' : Hp) : Prop := ∀ b u, H b = some u → b ≠ o → H' b = some u
section
variable {P : Program} {w : World} {K : PySem.W.Frag} {mg : Str → Option Value} {base : Heap} {C CS CA : Addr}
end
end T6

set_option maxHeartbeats 3900000
namespace DA
open PySem PySem.Spec PyProof.Rows
abbrev NK := NestedKey
abbrev Row := NK × Value × Value
def ent (w : World) (x : Row) : DictEntry := ⟨x.1.hash w, x.2.1, x.2.2⟩
def Ky (h : Heap) (k : NK) (v : Value) : Prop := NestedIs h k v ∧ k.depth ≤ 8
theorem Ky.inj {h : Heap} {k j : NK} {v : Value} (a : Ky h k v) (b : Ky h j v) : k = j := NestedIs.inj _ _ _ a.1 b.1
section
variable {prog : Program} {w : World} {A : Around} {E : Value → Shared → Prop} {s : Shared}
theorem eq_keys {k j : NK} {u v : Value} {Q : Bool → Shared → Prop} (hu : A.units + 8 < cLine) (a : Ky s.heap k u) (b : Ky s.heap j v) (q : Q (decide (k = j)) s) : wpAny (model prog w) A (eqBool u v) Q E s := by
  have a2 := a.2
  exact eqAt_key k j A s u v a.1 b.1 (by omega) _ _ _ _ (by rw [← NestedKey.decide_eq]; exact q)
theorem calm_keys {k : NK} {v : Value} {Q : Bool → Shared → Prop} (a : Ky s.heap k v) (q : Q true s) : wpAny (model prog w) A (eqIsQuiet 8 v) Q E s := quiet_key k v 8 s a.1 a.2 A E Q q
theorem tells_not {k : NK} {v : Value} {us : List Value} {Q : Bool → Shared → Prop} (a : Ky s.heap k v) (all : ∀ u ∈ us, ∃ j, Ky s.heap j u) (q : Q false s) : wpAny (model prog w) A (tableMayTell v us) Q E s := by
  unfold tableMayTell
  split
  · exact wpAny_pure q
  · refine wpAny_bind (calm_keys a ?_)
    simp only [Bool.not_true, Bool.false_eq_true, if_false]
    refine wpAny_bind (wpAny_forIn_list _ (fun left r s1 => s1 = s ∧ r = (none, ()) ∧ ∀ u ∈ left, ∃ j, Ky s.heap j u) _ ?_ ?_ _ _ ⟨rfl, rfl, all⟩)
    · rintro u left r s1 ⟨e1, e2, al⟩
      subst e1
      subst e2
      obtain ⟨j, hj⟩ := al u List.mem_cons_self
      refine wpAny_bind (calm_keys hj ?_)
      simp only [Bool.not_true, Bool.false_eq_true, if_false]
      exact wpAny_pure ⟨rfl, rfl, fun z hz => al z (List.mem_cons_of_mem _ hz)⟩
    · rintro r s1 ⟨e1, e2, _⟩
      subst e1
      subst e2
      exact wpAny_pure q
end
structure At (w : World) (h : Heap) (d : Addr) (o : Obj) (es : Array DictEntry) (ep : Nat) (xs : List Row) : Prop where
  ob : h.get? d = some o
  ex : o.ExactDict
  da : o.data = .dict es ep
  en : es.toList = xs.map (ent w)
  nd : (xs.map (·.1)).Nodup
theorem At.size {w : World} {h : Heap} {d : Addr} {o : Obj} {es : Array DictEntry} {ep : Nat} {xs : List Row} (T : At w h d o es ep xs) : es.size = xs.length := by
  have := congrArg List.length T.en
  rw [List.length_map] at this
  simpa using this
theorem At.row {w : World} {h : Heap} {d : Addr} {o : Obj} {es : Array DictEntry} {ep : Nat} {xs : List Row} (T : At w h d o es ep xs) (i : Nat) : es[i]? = (xs[i]?).map (ent w) := by
  have := congrArg (fun l => l[i]?) T.en
  simpa [List.getElem?_map] using this
theorem At.one {w : World} {h : Heap} {d : Addr} {o : Obj} {es : Array DictEntry} {ep : Nat} {xs : List Row} (T : At w h d o es ep xs) {i j : Nat} {x y : Row} (hx : xs[i]? = some x) (hy : xs[j]? = some y) (e : x.1 = y.1) : i = j := by
  have a : (xs.map (·.1))[i]? = some x.1 := by rw [List.getElem?_map, hx]; rfl
  have b : (xs.map (·.1))[j]? = some x.1 := by rw [List.getElem?_map, hy, e]; rfl
  exact (List.getElem?_inj (List.getElem?_eq_some_iff.mp a).1 T.nd).mp (a.trans b.symm)
def Hit (xs : List Row) (k : NK) (done : List Nat) (hit : Option Nat) : Prop := (hit = none ∧ ∀ i ∈ done, ∀ x, xs[i]? = some x → x.1 ≠ k) ∨ ∃ i x, hit = some i ∧ i ∈ done ∧ xs[i]? = some x ∧ x.1 = k
theorem Hit.more {xs : List Row} {k : NK} {done : List Nat} {hit : Option Nat} {i : Nat} (h : Hit xs k done hit) (n : ∀ x, xs[i]? = some x → x.1 ≠ k) : Hit xs k (done ++ [i]) hit := by
  rcases h with ⟨e, a⟩ | ⟨j, x, e, m, hx, q⟩
  · refine .inl ⟨e, fun j hj => ?_⟩
    rcases List.mem_append.mp hj with z | z
    · exact a j z
    · rw [List.mem_singleton.mp z]
      exact n
  · exact .inr ⟨j, x, e, List.mem_append_left _ m, hx, q⟩
theorem Hit.first {w : World} {h : Heap} {d : Addr} {o : Obj} {es : Array DictEntry} {ep : Nat} {xs : List Row} {k : NK} {P done left : List Nat} {hit : Option Nat} {i : Nat} {x : Row} (hh : Hit xs k done hit) (T : At w h d o es ep xs) (nd : P.Nodup) (eP : P = done ++ i :: left) (hx : xs[i]? = some x) (e : x.1 = k) : hit = none := by
  rcases hh with ⟨q, _⟩ | ⟨j, y, q, m, hy, e2⟩
  · exact q
  · have ij := T.one hx hy (e.trans e2.symm)
    subst ij
    rw [eP] at nd
    have := (List.nodup_append.mp nd).2.2 i m i List.mem_cons_self
    exact absurd rfl this
section
variable {prog : Program} {w : World} {A : Around} {E : Value → Shared → Prop} {s : Shared} {d : Addr} {o : Obj} {es : Array DictEntry} {ep : Nat} {xs : List Row} {k : NK} {v : Value}
theorem walk_plain {P : List Nat} {Q : Option Nat → Shared → Prop} (hu : A.units + 8 < cLine) (hk : Ky s.heap k v) (T : At w s.heap d o es ep xs) (all : ∀ x ∈ xs, Ky s.heap x.1 x.2.1)
    (no : (∀ i ∈ P, ∀ x, xs[i]? = some x → x.1 ≠ k) → Q none s) (yes : ∀ i x, i ∈ P → xs[i]? = some x → x.1 = k → Q (some i) s) : wpAny (model prog w) A (dictWalkPlain d v (k.hash w) es P) Q E s := by
  unfold dictWalkPlain
  refine wpAny_bind (wpAny_forIn_list _ (fun left r s1 => s1 = s ∧ r = (none, ()) ∧ ∃ done, P = done ++ left ∧ ∀ i ∈ done, ∀ x, xs[i]? = some x → x.1 ≠ k) _ ?_ ?_ _ _ ⟨rfl, rfl, [], rfl, fun i h => (by cases h)⟩)
  · rintro i left r s1 ⟨e1, e2, done, eP, hd⟩
    subst e1
    subst e2
    have him : i ∈ P := by rw [eP]; exact List.mem_append_right _ List.mem_cons_self
    have nxt : P = (done ++ [i]) ++ left := by rw [eP, List.append_assoc]; rfl
    have more : (∀ x, xs[i]? = some x → x.1 ≠ k) → ∀ j ∈ done ++ [i], ∀ x, xs[j]? = some x → x.1 ≠ k := fun h j hj => by
      rcases List.mem_append.mp hj with q | q
      · exact hd j q
      · rw [List.mem_singleton.mp q]
        exact h
    cases ex : xs[i]? with
    | none =>
      rw [show es[i]? = none by rw [T.row i, ex]; rfl]
      exact wpAny_pure ⟨rfl, rfl, done ++ [i], nxt, more fun x hx => by rw [ex] at hx; cases hx⟩
    | some x =>
      rw [show es[i]? = some (ent w x) by rw [T.row i, ex]; rfl]
      have hx := all x (List.mem_of_getElem? ex)
      show wpAny _ _ (if (x.1.hash w == k.hash w) = true then _ else _) _ _ _
      by_cases eh : (x.1.hash w == k.hash w) = true
      · rw [if_pos eh]
        refine wpAny_bind (wpAny_dictEpoch T.ob T.da (wpAny_bind (eq_keys (k := x.1) (j := k) hu hx hk (wpAny_bind (wpAny_dictEpoch T.ob T.da ?_)))))
        show wpAny _ _ (if (ep != ep) = true then _ else _) _ _ _
        rw [if_neg (by simp)]
        by_cases e : x.1 = k
        · rw [decide_eq_true e]
          exact wpAny_bind (wpAny_rule (wpAny_pure (wpAny_pure (yes i x him ex e))))
        · rw [decide_eq_false e]
          exact wpAny_bind (wpAny_rule (wpAny_pure ⟨rfl, rfl, done ++ [i], nxt, more fun y hy q => by
            rw [ex] at hy
            cases hy
            exact e q⟩))
      · rw [if_neg eh]
        exact wpAny_pure ⟨rfl, rfl, done ++ [i], nxt, more fun y hy e => by
          rw [ex] at hy
          cases hy
          rw [e] at eh
          exact eh (beq_self_eq_true _)⟩
  · rintro r s1 ⟨e1, e2, done, eP, hd⟩
    subst e1
    subst e2
    rw [List.append_nil] at eP
    subst eP
    exact wpAny_pure (no hd)
theorem places_in (T : At w s.heap d o es ep xs) {i : Nat} {x : Row} (hx : xs[i]? = some x) (e : x.1 = k) : i ∈ placesWithHash es.size (fun i => Option.map (fun x => x.hash) es[i]?) (k.hash w) := by
  unfold placesWithHash
  refine List.mem_filter.mpr ⟨List.mem_range.mpr ?_, ?_⟩
  · rw [T.size]
    exact (List.getElem?_eq_some_iff.mp hx).1
  · show (Option.map (fun x => x.hash) es[i]? == some (k.hash w)) = true
    rw [T.row i, hx, ← e]
    exact beq_self_eq_true _
theorem stored_ky (T : At w s.heap d o es ep xs) (all : ∀ x ∈ xs, Ky s.heap x.1 x.2.1) (P : List Nat) : ∀ u ∈ List.filterMap (fun i => Option.map (fun x : DictEntry => x.key) es[i]?) P, ∃ j, Ky s.heap j u := by
  intro u hu
  obtain ⟨i, _, e⟩ := List.mem_filterMap.mp hu
  rw [T.row i] at e
  cases ex : xs[i]? with
  | none => rw [ex] at e; cases e
  | some x =>
    rw [ex] at e
    cases e
    exact ⟨x.1, all x (List.mem_of_getElem? ex)⟩
theorem find {Q : Option Nat → Shared → Prop} (hu : A.units + 8 < cLine) (hk : Ky s.heap k v) (T : At w s.heap d o es ep xs) (all : ∀ x ∈ xs, Ky s.heap x.1 x.2.1)
    (no : (∀ x ∈ xs, x.1 ≠ k) → Q none s) (yes : ∀ i x, xs[i]? = some x → x.1 = k → Q (some i) s) : wpAny (model prog w) A (dictFind d v (k.hash w)) Q E s := by
  have hP : ∀ i x, xs[i]? = some x → x.1 = k → i ∈ placesWithHash es.size (fun i => Option.map (fun x => x.hash) es[i]?) (k.hash w) := fun i x => places_in T
  have hS := stored_ky T all (placesWithHash es.size (fun i => Option.map (fun x => x.hash) es[i]?) (k.hash w))
  have none' : (∀ i ∈ placesWithHash es.size (fun i => Option.map (fun x => x.hash) es[i]?) (k.hash w), ∀ x, xs[i]? = some x → x.1 ≠ k) → Q none s := fun h => no fun x hx e => by
    obtain ⟨i, hi⟩ := List.getElem?_of_mem hx
    exact h i (hP i x hi e) x hi e
  have hN : (placesWithHash es.size (fun i => Option.map (fun x => x.hash) es[i]?) (k.hash w)).Nodup := List.Nodup.sublist List.filter_sublist List.nodup_range
  unfold dictFind
  try with_reducible refine wpAny_holding ?_
  refine wpAny_bind (wpAny_dictEntries T.ob T.da ?_)
  dsimp only
  generalize hst : List.filterMap (fun i => Option.map (fun x : DictEntry => x.key) es[i]?) (placesWithHash es.size (fun i => Option.map (fun x => x.hash) es[i]?) (k.hash w)) = stored at hS ⊢
  generalize hp : placesWithHash es.size (fun i => Option.map (fun x => x.hash) es[i]?) (k.hash w) = P at hP none' hN ⊢
  obtain ⟨hk1, hk2⟩ := id hk
  cases hk1 with
  | none =>
    dsimp only
    by_cases c : (Value.none :: stored).all carriedByValue = true
    · rw [if_pos c]
      exact walk_plain hu hk T all none' (fun i x _ => yes i x)
    · rw [if_neg c]
      by_cases one : (stored == [Value.none]) = true <;> (first | rw [if_pos one] | rw [if_neg one]) <;> (first | refine wpAny_bind (wpAny_pure ?_) | refine wpAny_bind (tells_not hk hS ?_)) <;> (
        simp only [Bool.false_and, Bool.false_eq_true, if_false]
        refine wpAny_bind (wpAny_forIn_list _ (fun left r s1 => s1 = s ∧ ∃ done hit, r = (none, hit) ∧ P = done ++ left ∧ Hit xs NestedKey.none done hit) _ ?_ ?_ _ _ ⟨rfl, [], none, rfl, rfl, .inl ⟨rfl, fun i h => (by cases h)⟩⟩)
        · rintro i left r s1 ⟨e1, done, hit, e2, eP, hh⟩
          subst e1
          subst e2
          have nxt : P = (done ++ [i]) ++ left := by rw [eP, List.append_assoc]; rfl
          cases ex : xs[i]? with
          | none =>
            rw [show es[i]? = none by rw [T.row i, ex]; rfl]
            exact wpAny_pure ⟨rfl, done ++ [i], hit, rfl, nxt, hh.more fun x hx => by rw [ex] at hx; cases hx⟩
          | some x =>
            rw [show es[i]? = some (ent w x) by rw [T.row i, ex]; rfl]
            have hx := all x (List.mem_of_getElem? ex)
            dsimp only
            by_cases eh : ((ent w x).hash == NestedKey.hash w NestedKey.none) = true
            · rw [if_pos eh]
              refine wpAny_bind (wpAny_dictEpoch T.ob T.da (wpAny_bind (eq_keys (k := x.1) (j := NestedKey.none) hu hx hk (wpAny_bind (wpAny_dictEpoch T.ob T.da ?_)))))
              rw [if_neg (by simp)]
              by_cases e : x.1 = NestedKey.none
              · rw [decide_eq_true e, if_pos rfl]
                have h0 : hit = none := hh.first T hN eP ex e
                subst h0
                simp only [Option.isSome_none, Bool.false_eq_true, if_false]
                refine wpAny_bind (wpAny_rule ?_)
                split
                · exact wpAny_pure (wpAny_pure (yes i x ex e))
                · exact wpAny_pure ⟨rfl, done ++ [i], some i, rfl, nxt, .inr ⟨i, x, rfl, List.mem_append_right _ List.mem_cons_self, ex, e⟩⟩
              · rw [decide_eq_false e]
                simp only [Bool.false_eq_true, if_false]
                exact wpAny_bind (wpAny_rule (wpAny_pure ⟨rfl, done ++ [i], hit, rfl, nxt, hh.more fun y hy => by rw [ex] at hy; cases hy; exact e⟩))
            · rw [if_neg eh]
              exact wpAny_pure ⟨rfl, done ++ [i], hit, rfl, nxt, hh.more fun y hy q => by
                rw [ex] at hy
                cases hy
                exact eh (by show (x.1.hash w == _) = true; rw [q]; exact beq_self_eq_true _)⟩
        · rintro r s1 ⟨e1, done, hit, e2, eP, hh⟩
          subst e1
          subst e2
          rw [List.append_nil] at eP
          subst eP
          rcases hh with ⟨rfl, h⟩ | ⟨i, x, rfl, _, hx, e⟩
          · exact wpAny_pure (none' h)
          · exact wpAny_pure (yes i x hx e))
  | @bool b ki e =>
    dsimp only
    by_cases c : (Value.bool b :: stored).all carriedByValue = true
    · rw [if_pos c]
      exact walk_plain hu hk T all none' (fun i x _ => yes i x)
    · rw [if_neg c]
      by_cases one : (stored == [Value.bool b]) = true <;> (first | rw [if_pos one] | rw [if_neg one]) <;> (first | refine wpAny_bind (wpAny_pure ?_) | refine wpAny_bind (tells_not hk hS ?_)) <;> (
        simp only [Bool.false_and, Bool.false_eq_true, if_false]
        refine wpAny_bind (wpAny_forIn_list _ (fun left r s1 => s1 = s ∧ ∃ done hit, r = (none, hit) ∧ P = done ++ left ∧ Hit xs (NestedKey.num ki) done hit) _ ?_ ?_ _ _ ⟨rfl, [], none, rfl, rfl, .inl ⟨rfl, fun i h => (by cases h)⟩⟩)
        · rintro i left r s1 ⟨e1, done, hit, e2, eP, hh⟩
          subst e1
          subst e2
          have nxt : P = (done ++ [i]) ++ left := by rw [eP, List.append_assoc]; rfl
          cases ex : xs[i]? with
          | none =>
            rw [show es[i]? = none by rw [T.row i, ex]; rfl]
            exact wpAny_pure ⟨rfl, done ++ [i], hit, rfl, nxt, hh.more fun x hx => by rw [ex] at hx; cases hx⟩
          | some x =>
            rw [show es[i]? = some (ent w x) by rw [T.row i, ex]; rfl]
            have hx := all x (List.mem_of_getElem? ex)
            dsimp only
            by_cases eh : ((ent w x).hash == NestedKey.hash w (NestedKey.num ki)) = true
            · rw [if_pos eh]
              refine wpAny_bind (wpAny_dictEpoch T.ob T.da (wpAny_bind (eq_keys (k := x.1) (j := (NestedKey.num ki)) hu hx hk (wpAny_bind (wpAny_dictEpoch T.ob T.da ?_)))))
              rw [if_neg (by simp)]
              by_cases e : x.1 = (NestedKey.num ki)
              · rw [decide_eq_true e, if_pos rfl]
                have h0 : hit = none := hh.first T hN eP ex e
                subst h0
                simp only [Option.isSome_none, Bool.false_eq_true, if_false]
                refine wpAny_bind (wpAny_rule ?_)
                split
                · exact wpAny_pure (wpAny_pure (yes i x ex e))
                · exact wpAny_pure ⟨rfl, done ++ [i], some i, rfl, nxt, .inr ⟨i, x, rfl, List.mem_append_right _ List.mem_cons_self, ex, e⟩⟩
              · rw [decide_eq_false e]
                simp only [Bool.false_eq_true, if_false]
                exact wpAny_bind (wpAny_rule (wpAny_pure ⟨rfl, done ++ [i], hit, rfl, nxt, hh.more fun y hy => by rw [ex] at hy; cases hy; exact e⟩))
            · rw [if_neg eh]
              exact wpAny_pure ⟨rfl, done ++ [i], hit, rfl, nxt, hh.more fun y hy q => by
                rw [ex] at hy
                cases hy
                exact eh (by show (x.1.hash w == _) = true; rw [q]; exact beq_self_eq_true _)⟩
        · rintro r s1 ⟨e1, done, hit, e2, eP, hh⟩
          subst e1
          subst e2
          rw [List.append_nil] at eP
          subst eP
          rcases hh with ⟨rfl, h⟩ | ⟨i, x, rfl, _, hx, e⟩
          · exact wpAny_pure (none' h)
          · exact wpAny_pure (yes i x hx e))
  | int ki t =>
    dsimp only
    by_cases c : (Value.int ki t :: stored).all carriedByValue = true
    · rw [if_pos c]
      exact walk_plain hu hk T all none' (fun i x _ => yes i x)
    · rw [if_neg c]
      by_cases one : (stored == [Value.int ki t]) = true <;> (first | rw [if_pos one] | rw [if_neg one]) <;> (first | refine wpAny_bind (wpAny_pure ?_) | refine wpAny_bind (tells_not hk hS ?_)) <;> (
        simp only [Bool.false_and, Bool.false_eq_true, if_false]
        refine wpAny_bind (wpAny_forIn_list _ (fun left r s1 => s1 = s ∧ ∃ done hit, r = (none, hit) ∧ P = done ++ left ∧ Hit xs (NestedKey.num ki) done hit) _ ?_ ?_ _ _ ⟨rfl, [], none, rfl, rfl, .inl ⟨rfl, fun i h => (by cases h)⟩⟩)
        · rintro i left r s1 ⟨e1, done, hit, e2, eP, hh⟩
          subst e1
          subst e2
          have nxt : P = (done ++ [i]) ++ left := by rw [eP, List.append_assoc]; rfl
          cases ex : xs[i]? with
          | none =>
            rw [show es[i]? = none by rw [T.row i, ex]; rfl]
            exact wpAny_pure ⟨rfl, done ++ [i], hit, rfl, nxt, hh.more fun x hx => by rw [ex] at hx; cases hx⟩
          | some x =>
            rw [show es[i]? = some (ent w x) by rw [T.row i, ex]; rfl]
            have hx := all x (List.mem_of_getElem? ex)
            dsimp only
            by_cases eh : ((ent w x).hash == NestedKey.hash w (NestedKey.num ki)) = true
            · rw [if_pos eh]
              refine wpAny_bind (wpAny_dictEpoch T.ob T.da (wpAny_bind (eq_keys (k := x.1) (j := (NestedKey.num ki)) hu hx hk (wpAny_bind (wpAny_dictEpoch T.ob T.da ?_)))))
              rw [if_neg (by simp)]
              by_cases e : x.1 = (NestedKey.num ki)
              · rw [decide_eq_true e, if_pos rfl]
                have h0 : hit = none := hh.first T hN eP ex e
                subst h0
                simp only [Option.isSome_none, Bool.false_eq_true, if_false]
                refine wpAny_bind (wpAny_rule ?_)
                split
                · exact wpAny_pure (wpAny_pure (yes i x ex e))
                · exact wpAny_pure ⟨rfl, done ++ [i], some i, rfl, nxt, .inr ⟨i, x, rfl, List.mem_append_right _ List.mem_cons_self, ex, e⟩⟩
              · rw [decide_eq_false e]
                simp only [Bool.false_eq_true, if_false]
                exact wpAny_bind (wpAny_rule (wpAny_pure ⟨rfl, done ++ [i], hit, rfl, nxt, hh.more fun y hy => by rw [ex] at hy; cases hy; exact e⟩))
            · rw [if_neg eh]
              exact wpAny_pure ⟨rfl, done ++ [i], hit, rfl, nxt, hh.more fun y hy q => by
                rw [ex] at hy
                cases hy
                exact eh (by show (x.1.hash w == _) = true; rw [q]; exact beq_self_eq_true _)⟩
        · rintro r s1 ⟨e1, done, hit, e2, eP, hh⟩
          subst e1
          subst e2
          rw [List.append_nil] at eP
          subst eP
          rcases hh with ⟨rfl, h⟩ | ⟨i, x, rfl, _, hx, e⟩
          · exact wpAny_pure (none' h)
          · exact wpAny_pure (yes i x hx e))
  | text z t =>
    dsimp only
    by_cases str : (es.all fun e => isExactStrKey e.key) = true
    · rw [if_pos str]
      unfold foundByValue
      have sx : ∀ x ∈ xs, ∃ y u, x.2.1 = Value.str y u ∧ x.1 = NestedKey.text y := fun x hx => by
        have h1 : isExactStrKey x.2.1 = true := by
          have := Array.all_eq_true_iff_forall_mem.mp str (ent w x) (Array.mem_toList_iff.mp (by rw [T.en]; exact List.mem_map_of_mem hx))
          exact this
        have h2 := (all x hx).1
        generalize x.2.1 = v1 at h1 h2 ⊢
        generalize x.1 = k1 at h2 ⊢
        cases h2 with
        | text y u => exact ⟨y, u, rfl, rfl⟩
        | _ => cases h1
      cases hf : es.findIdx? (fun e => e.key.isStr z) with
      | none =>
        refine wpAny_pure (no fun x hx e => ?_)
        have h1 := Array.findIdx?_eq_none_iff.mp hf (ent w x) (Array.mem_toList_iff.mp (by rw [T.en]; exact List.mem_map_of_mem hx))
        obtain ⟨y, u, e1, e2⟩ := sx x hx
        rw [e2] at e
        cases e
        have h3 : (ent w x).key.isStr z = true := by
          show x.2.1.isStr z = true
          rw [e1]
          simp [Value.isStr]
        rw [h3] at h1
        cases h1
      | some i =>
        obtain ⟨hi, hz, _⟩ := Array.findIdx?_eq_some_iff_getElem.mp hf
        have h0 : es[i]? = some es[i] := Array.getElem?_eq_getElem hi
        obtain ⟨x, ex⟩ : ∃ x, xs[i]? = some x := ⟨xs[i]'(by rw [← T.size]; exact hi), List.getElem?_eq_getElem _⟩
        have h1 : es[i]? = some (ent w x) := by rw [T.row i, ex]; rfl
        rw [h0] at h1
        have h2 := Option.some.inj h1
        dsimp only
        rw [h0, h2]
        have hm := List.mem_of_getElem? ex
        obtain ⟨y, u, e1, e2⟩ := sx x hm
        have h3 : (ent w x).key.isStr z = true := h2 ▸ hz
        have h4 : y = z := by
          have : x.2.1.isStr z = true := h3
          rw [e1] at this
          exact eq_of_beq this
        have e : x.1 = NestedKey.text z := by rw [e2, h4]
        refine wpAny_bind (wpAny_dictEpoch T.ob T.da (wpAny_bind (eq_keys (k := x.1) (j := NestedKey.text z) hu (all x hm) hk (wpAny_bind (wpAny_dictEpoch T.ob T.da ?_)))))
        show wpAny _ _ (if (ep != ep) = true then _ else _) _ _ _
        rw [if_neg (by simp), decide_eq_true e]
        exact wpAny_bind (wpAny_rule (wpAny_pure (yes i x ex e)))
    rw [if_neg str]
    by_cases c : (Value.str z t :: stored).all carriedByValue = true
    · rw [if_pos c]
      exact walk_plain hu hk T all none' (fun i x _ => yes i x)
    · rw [if_neg c]
      by_cases one : (stored == [Value.str z t]) = true <;> (first | rw [if_pos one] | rw [if_neg one]) <;> (first | refine wpAny_bind (wpAny_pure ?_) | refine wpAny_bind (tells_not hk hS ?_)) <;> (
        simp only [Bool.false_and, Bool.false_eq_true, if_false]
        refine wpAny_bind (wpAny_forIn_list _ (fun left r s1 => s1 = s ∧ ∃ done hit, r = (none, hit) ∧ P = done ++ left ∧ Hit xs (NestedKey.text z) done hit) _ ?_ ?_ _ _ ⟨rfl, [], none, rfl, rfl, .inl ⟨rfl, fun i h => (by cases h)⟩⟩)
        · rintro i left r s1 ⟨e1, done, hit, e2, eP, hh⟩
          subst e1
          subst e2
          have nxt : P = (done ++ [i]) ++ left := by rw [eP, List.append_assoc]; rfl
          cases ex : xs[i]? with
          | none =>
            rw [show es[i]? = none by rw [T.row i, ex]; rfl]
            exact wpAny_pure ⟨rfl, done ++ [i], hit, rfl, nxt, hh.more fun x hx => by rw [ex] at hx; cases hx⟩
          | some x =>
            rw [show es[i]? = some (ent w x) by rw [T.row i, ex]; rfl]
            have hx := all x (List.mem_of_getElem? ex)
            dsimp only
            by_cases eh : ((ent w x).hash == NestedKey.hash w (NestedKey.text z)) = true
            · rw [if_pos eh]
              refine wpAny_bind (wpAny_dictEpoch T.ob T.da (wpAny_bind (eq_keys (k := x.1) (j := (NestedKey.text z)) hu hx hk (wpAny_bind (wpAny_dictEpoch T.ob T.da ?_)))))
              rw [if_neg (by simp)]
              by_cases e : x.1 = (NestedKey.text z)
              · rw [decide_eq_true e, if_pos rfl]
                have h0 : hit = none := hh.first T hN eP ex e
                subst h0
                simp only [Option.isSome_none, Bool.false_eq_true, if_false]
                refine wpAny_bind (wpAny_rule ?_)
                split
                · exact wpAny_pure (wpAny_pure (yes i x ex e))
                · exact wpAny_pure ⟨rfl, done ++ [i], some i, rfl, nxt, .inr ⟨i, x, rfl, List.mem_append_right _ List.mem_cons_self, ex, e⟩⟩
              · rw [decide_eq_false e]
                simp only [Bool.false_eq_true, if_false]
                exact wpAny_bind (wpAny_rule (wpAny_pure ⟨rfl, done ++ [i], hit, rfl, nxt, hh.more fun y hy => by rw [ex] at hy; cases hy; exact e⟩))
            · rw [if_neg eh]
              exact wpAny_pure ⟨rfl, done ++ [i], hit, rfl, nxt, hh.more fun y hy q => by
                rw [ex] at hy
                cases hy
                exact eh (by show (x.1.hash w == _) = true; rw [q]; exact beq_self_eq_true _)⟩
        · rintro r s1 ⟨e1, done, hit, e2, eP, hh⟩
          subst e1
          subst e2
          rw [List.append_nil] at eP
          subst eP
          rcases hh with ⟨rfl, h⟩ | ⟨i, x, rfl, _, hx, e⟩
          · exact wpAny_pure (none' h)
          · exact wpAny_pure (yes i x hx e))
  | @tup a oa vs n ks h1 h2 h3 h4 =>
    dsimp only
    by_cases c : (Value.ref a :: stored).all carriedByValue = true
    · rw [if_pos c]
      exact walk_plain hu hk T all none' (fun i x _ => yes i x)
    · rw [if_neg c]
      have noA : ¬ (es.any fun e => e.key == Value.ref a && e.hash != NestedKey.hash w (NestedKey.tup ks)) = true := by
        rw [← Array.any_toList, List.any_eq_true]
        rintro ⟨e, he, hc⟩
        rw [T.en] at he
        obtain ⟨x, hx, rfl⟩ := List.mem_map.mp he
        obtain ⟨c1, c2⟩ := Bool.and_eq_true_iff.mp hc
        have ek : x.2.1 = Value.ref a := eq_of_beq c1
        have hxk := all x hx
        rw [ek] at hxk
        have : x.1 = NestedKey.tup ks := hxk.inj hk
        have c3 : (ent w x).hash = NestedKey.hash w (NestedKey.tup ks) := by show x.1.hash w = _; rw [this]
        rw [c3] at c2
        simp at c2
      rw [if_neg noA]
      by_cases one : (stored == [Value.ref a]) = true <;> (first | rw [if_pos one] | rw [if_neg one]) <;> (first | refine wpAny_bind (wpAny_pure ?_) | refine wpAny_bind (tells_not hk hS ?_)) <;> (
        simp only [Bool.false_and, Bool.false_eq_true, if_false]
        refine wpAny_bind (wpAny_forIn_list _ (fun left r s1 => s1 = s ∧ ∃ done hit, r = (none, hit) ∧ P = done ++ left ∧ Hit xs (NestedKey.tup ks) done hit) _ ?_ ?_ _ _ ⟨rfl, [], none, rfl, rfl, .inl ⟨rfl, fun i h => (by cases h)⟩⟩)
        · rintro i left r s1 ⟨e1, done, hit, e2, eP, hh⟩
          subst e1
          subst e2
          have nxt : P = (done ++ [i]) ++ left := by rw [eP, List.append_assoc]; rfl
          cases ex : xs[i]? with
          | none =>
            rw [show es[i]? = none by rw [T.row i, ex]; rfl]
            exact wpAny_pure ⟨rfl, done ++ [i], hit, rfl, nxt, hh.more fun x hx => by rw [ex] at hx; cases hx⟩
          | some x =>
            rw [show es[i]? = some (ent w x) by rw [T.row i, ex]; rfl]
            have hx := all x (List.mem_of_getElem? ex)
            dsimp only
            by_cases eh : ((ent w x).hash == NestedKey.hash w (NestedKey.tup ks)) = true
            · rw [if_pos eh]
              refine wpAny_bind (wpAny_dictEpoch T.ob T.da (wpAny_bind (eq_keys (k := x.1) (j := (NestedKey.tup ks)) hu hx hk (wpAny_bind (wpAny_dictEpoch T.ob T.da ?_)))))
              rw [if_neg (by simp)]
              by_cases e : x.1 = (NestedKey.tup ks)
              · rw [decide_eq_true e, if_pos rfl]
                have h0 : hit = none := hh.first T hN eP ex e
                subst h0
                simp only [Option.isSome_none, Bool.false_eq_true, if_false]
                refine wpAny_bind (wpAny_rule ?_)
                split
                · exact wpAny_pure (wpAny_pure (yes i x ex e))
                · exact wpAny_pure ⟨rfl, done ++ [i], some i, rfl, nxt, .inr ⟨i, x, rfl, List.mem_append_right _ List.mem_cons_self, ex, e⟩⟩
              · rw [decide_eq_false e]
                simp only [Bool.false_eq_true, if_false]
                exact wpAny_bind (wpAny_rule (wpAny_pure ⟨rfl, done ++ [i], hit, rfl, nxt, hh.more fun y hy => by rw [ex] at hy; cases hy; exact e⟩))
            · rw [if_neg eh]
              exact wpAny_pure ⟨rfl, done ++ [i], hit, rfl, nxt, hh.more fun y hy q => by
                rw [ex] at hy
                cases hy
                exact eh (by show (x.1.hash w == _) = true; rw [q]; exact beq_self_eq_true _)⟩
        · rintro r s1 ⟨e1, done, hit, e2, eP, hh⟩
          subst e1
          subst e2
          rw [List.append_nil] at eP
          subst eP
          rcases hh with ⟨rfl, h⟩ | ⟨i, x, rfl, _, hx, e⟩
          · exact wpAny_pure (none' h)
          · exact wpAny_pure (yes i x hx e))
end
end DA

set_option maxHeartbeats 3900000
namespace DA
open PySem PySem.Spec PyProof.Rows L2
def kat {α : Type} (xs : List (NK × α)) (k : NK) : Option α := (xs.find? fun x => decide (x.1 = k)).map (·.2)
def kput {α : Type} (xs : List (NK × α)) (k : NK) (f : α → α) (a : α) : List (NK × α) := if k ∈ xs.map (·.1) then xs.map (fun x => if x.1 = k then (x.1, f x.2) else x) else xs ++ [(k, a)]
theorem kat_none {α : Type} {xs : List (NK × α)} {k : NK} (h : ∀ x ∈ xs, x.1 ≠ k) : kat xs k = none := by
  unfold kat
  rw [List.find?_eq_none.mpr fun x hx e => h x hx (of_decide_eq_true e)]
  rfl
theorem kat_some {α : Type} : ∀ {xs : List (NK × α)} {k : NK} {i : Nat} {x : NK × α}, (xs.map (·.1)).Nodup → xs[i]? = some x → x.1 = k → kat xs k = some x.2
  | [], k, i, x, _, h, _ => by simp at h
  | y :: r, k, 0, x, nd, h, e => by
    cases h
    unfold kat
    rw [List.find?_cons, decide_eq_true e]
    rfl
  | y :: r, k, i + 1, x, nd, h, e => by
    rw [List.map_cons, List.nodup_cons] at nd
    have hm : x ∈ r := List.mem_of_getElem? (i := i) h
    have ne : y.1 ≠ k := fun q => nd.1 (by rw [q, ← e]; exact List.mem_map_of_mem hm)
    unfold kat
    rw [List.find?_cons, decide_eq_false ne]
    exact kat_some (i := i) nd.2 h e
theorem kput_keys {α : Type} (xs : List (NK × α)) (k : NK) (f : α → α) (a : α) : (kput xs k f a).map (·.1) = if k ∈ xs.map (·.1) then xs.map (·.1) else xs.map (·.1) ++ [k] := by
  unfold kput
  by_cases h : k ∈ xs.map (·.1)
  · rw [if_pos h, if_pos h, List.map_map]
    refine List.map_congr_left fun x _ => ?_
    show (if x.1 = k then (x.1, f x.2) else x).1 = x.1
    split <;> rfl
  · rw [if_neg h, if_neg h, List.map_append]
    rfl
theorem kput_nd {α : Type} {xs : List (NK × α)} {k : NK} {f : α → α} {a : α} (nd : (xs.map (·.1)).Nodup) : ((kput xs k f a).map (·.1)).Nodup := by
  rw [kput_keys]
  by_cases h : k ∈ xs.map (·.1)
  · rw [if_pos h]
    exact nd
  · rw [if_neg h]
    refine List.nodup_append.mpr ⟨nd, List.nodup_cons.mpr ⟨List.not_mem_nil, List.nodup_nil⟩, fun x hx y hy e => h ?_⟩
    rw [List.mem_singleton.mp hy] at e
    rw [← e]
    exact hx
theorem kput_len {α : Type} (xs : List (NK × α)) (k : NK) (f : α → α) (a : α) : (kput xs k f a).length ≤ xs.length + 1 := by
  unfold kput
  split <;> simp
theorem kput_mem {α : Type} {xs : List (NK × α)} {k : NK} {f : α → α} {a : α} {x : NK × α} (h : x ∈ kput xs k f a) : x ∈ xs ∨ (x = (k, a)) ∨ ∃ y ∈ xs, y.1 = k ∧ x = (k, f y.2) := by
  unfold kput at h
  split at h
  · obtain ⟨y, hy, rfl⟩ := List.mem_map.mp h
    by_cases e : y.1 = k
    · rw [if_pos e]
      exact .inr (.inr ⟨y, hy, e, by rw [e]⟩)
    · rw [if_neg e]
      exact .inl hy
  · rcases List.mem_append.mp h with q | q
    · exact .inl q
    · exact .inr (.inl (List.mem_singleton.mp q))
def D (w : World) (h : Heap) (d : Addr) (xs : List Row) : Prop := ∃ o es ep, At w h d o es ep xs
theorem D.type {w : World} {s : Shared} {d : Addr} {xs : List Row} (x : D w s.heap d xs) : s.TypeIs (.ref d) "dict" := by
  obtain ⟨o, es, ep, T⟩ := x
  exact ⟨o, T.ob, T.ex.1⟩
def Kys (h : Heap) (xs : List Row) : Prop := ∀ x ∈ xs, Ky h x.1 x.2.1
section
variable {prog : Program} {w : World} {A : Around} {E : Value → Shared → Prop} {s : Shared} {d : Addr} {xs : List Row} {k : NK} {v : Value}
theorem get {Q : Option Value → Shared → Prop} (hu : A.units + 8 < cLine) (hk : Ky s.heap k v) (x : D w s.heap d xs) (all : Kys s.heap xs) (q : Q ((kat xs k).map (·.2)) { s with toks := s.toks + k.draws }) : wpAny (model prog w) A (dictGet d v) Q E s := by
  obtain ⟨o, es, ep, T⟩ := x
  have k2 := hk.2
  unfold dictGet
  try with_reducible refine wpAny_holding ?_
  refine wpAny_bind (pyHash_key k v A s _ hk.1 (by omega) (wpAny_bind (find (s := { s with toks := s.toks + k.draws }) hu hk T all (fun no => ?_) fun i x hx e => ?_)))
  · rw [kat_none no] at q
    exact wpAny_pure q
  · rw [kat_some T.nd hx e] at q
    refine wpAny_bind (wpAny_dictEntries (s := { s with toks := s.toks + k.draws }) T.ob T.da ?_)
    rw [T.row i, hx]
    exact wpAny_pure q
theorem At.put {o : Obj} {es : Array DictEntry} {ep : Nat} (T : At w s.heap d o es ep xs) {i : Nat} {x : Row} (hx : xs[i]? = some x) (e : x.1 = k) (r : Value) :
    D w (s.heap.update d (Obj.mapDict fun es => es.modify i fun e => { e with val := r })) d (kput xs k (fun p => (p.1, r)) (v, r)) := by
  have hin : k ∈ xs.map (·.1) := by rw [← e]; exact List.mem_map_of_mem (List.mem_of_getElem? hx)
  refine ⟨_, _, ep, Heap.get?_update_self _ T.ob (Obj.isFreed_of_dict (Obj.data_mapDict T.da _)), T.ex.mapDict _, Obj.data_mapDict T.da _, ?_, kput_nd T.nd⟩
  unfold kput
  rw [if_pos hin]
  have en := T.en
  obtain ⟨l⟩ := es
  have en : l = xs.map (ent w) := en
  subst en
  simp only [List.modify_toArray, List.map_map]
  refine List.ext_getElem? fun j => ?_
  rw [List.getElem?_modify, List.getElem?_map, List.getElem?_map]
  cases hj : xs[j]? with
  | none => rfl
  | some y =>
    by_cases ji : i = j
    · subst ji
      rw [hx] at hj
      cases hj
      simp [ent, e]
    · have ne : ¬ y.1 = k := fun q => ji (T.one hx hj (e.trans q.symm))
      simp [ji, ne]
theorem At.push {o : Obj} {es : Array DictEntry} {ep : Nat} (T : At w s.heap d o es ep xs) (no : ∀ x ∈ xs, x.1 ≠ k) (r : Value) (f : Value × Value → Value × Value) :
    D w (s.heap.update d (Obj.mapDictKeys fun es => es.push ⟨k.hash w, v, r⟩)) d (kput xs k f (v, r)) := by
  have hin : ¬ k ∈ xs.map (·.1) := fun h => by
    obtain ⟨x, hx, e⟩ := List.mem_map.mp h
    exact no x hx e
  refine ⟨_, _, ep + 1, Heap.get?_update_self _ T.ob (Obj.isFreed_of_dict (Obj.data_mapDictKeys T.da _)), T.ex.mapDictKeys _, Obj.data_mapDictKeys T.da _, ?_, kput_nd T.nd⟩
  unfold kput
  rw [if_neg hin]
  simp [T.en, ent]
theorem set {r : Value} {Q : Unit → Shared → Prop} (hu : A.units + 8 < cLine) (hk : Ky s.heap k v) (x : D w s.heap d xs) (all : Kys s.heap xs) (hz : xs.length ≤ sizeLine)
    (q : ∀ h', D w h' d (kput xs k (fun p => (p.1, r)) (v, r)) → Heap.SameBut d s.heap h' → Q () { s with heap := h', toks := s.toks + k.draws }) : wpAny (model prog w) A (dictSet d v r) Q E s := by
  obtain ⟨o, es, ep, T⟩ := x
  have k2 := hk.2
  unfold dictSet
  try with_reducible refine wpAny_holding ?_
  refine wpAny_bind (pyHash_key k v A s _ hk.1 (by omega) ?_)
  unfold dictSetHashed
  try with_reducible refine wpAny_holding ?_
  refine wpAny_bind (find (s := { s with toks := s.toks + k.draws }) hu hk T all (fun no => ?_) fun i x hx e => ?_)
  · exact wpAny_bind (wpAny_rule (wpAny_updateDictKeys (hz := by rw [T.size]; exact hz) (s := { s with toks := s.toks + k.draws }) T.ob T.da (q _ (T.push no r _) (Heap.SameBut.update ..))))
  · exact wpAny_bind (wpAny_rule (wpAny_bind (wpAny_updateDict (s := { s with toks := s.toks + k.draws }) T.ob T.da (wpAny_point (q _ (T.put hx e r) (Heap.SameBut.update ..))))))
end
end DA

set_option maxHeartbeats 3900000
namespace ES
open PySem PySem.Spec PyProof.Rows L2
end ES

set_option maxHeartbeats 3900000
namespace DA
open PySem PySem.Spec PyProof.Rows L2
section
variable {prog : Program} {w : World} {A : Around} {E : Value → Shared → Prop} {s : Shared} {d : Addr} {xs : List Row} {k : NK} {v : Value}
theorem has {Q : Bool → Shared → Prop} (hu : A.units + 9 < cLine) (hk : Ky s.heap k v) (hd : (d == sysModules) = false) (x : D w s.heap d xs) (all : Kys s.heap xs) (q : Q (kat xs k).isSome { s with toks := s.toks + k.draws }) :
    wpAny (model prog w) A (contains (.ref d) v) Q E s := by
  have hu1 : A.in1.units + 8 < cLine := by
    have : A.in1.units = A.units + 1 := rfl
    omega
  unfold contains
  try with_reducible refine wpAny_holding ?_
  refine wpAny_bind (wpAny_specialOf x.type slot_dict_contains.lookup ?_)
  dsimp only
  rw [if_neg (show ¬ ((some (Value.builtin "dict.__contains__") == some Value.none) = true) by rw [beq_builtin_none]; exact Bool.false_ne_true)]
  refine wpAny_bind (wpAny_callSpecialUnlessNone?_slot (name := Str.ofString "__contains__") x.type slot_dict_contains (wpAny_call_entry slot_dict_contains x.type entry_dict_contains ?_ (args_dict_contains _ _)))
  show wpAny _ _ (dictGet d v >>= _) _ _ _
  refine wpAny_bind (get hu1 hk x all ?_)
  cases hf : kat xs k with
  | some p =>
    rw [hf] at q
    exact wpAny_pure ⟨_, rfl, wpAny_truthy_bool q⟩
  | none =>
    rw [hf] at q
    exact wpAny_bind (wpAny_pendingKey_other hd (wpAny_pure ⟨_, rfl, wpAny_truthy_bool q⟩))
theorem setI {r : Value} {Q : Unit → Shared → Prop} (hu : A.units + 9 < cLine) (hk : Ky s.heap k v) (x : D w s.heap d xs) (all : Kys s.heap xs) (hz : xs.length ≤ sizeLine)
    (q : ∀ h', D w h' d (kput xs k (fun p => (p.1, r)) (v, r)) → Heap.SameBut d s.heap h' → Q () { s with heap := h', toks := s.toks + k.draws }) : wpAny (model prog w) A (setItem (.ref d) v r) Q E s := by
  have hu1 : A.in1.units + 8 < cLine := by
    have : A.in1.units = A.units + 1 := rfl
    omega
  unfold setItem
  try with_reducible refine wpAny_holding ?_
  refine wpAny_bind (wpAny_sequenceKey x.type (by decide) ?_)
  refine wpAny_bind (wpAny_callSpecial?_slot (name := Str.ofString "__setitem__") x.type slot_dict_setitem (wpAny_call_entry slot_dict_setitem x.type entry_dict_setitem ?_ (args_dict_setitem _ _ _)))
  show wpAny _ _ (Builtin.Dict.notOrdered _ _ >>= _) _ _ _
  refine wpAny_bind (wpAny_notOrdered_dict x.type ?_)
  show wpAny _ _ (dictSet d v r >>= _) _ _ _
  exact wpAny_bind (set hu1 hk x all hz fun h' x' sb => wpAny_pure ⟨.none, rfl, wpAny_pure (q h' x' sb)⟩)
end
mutual
/-- this value is this key, as the heap is known -/
inductive KV (H : Hp) : V → NK → Prop
  | non : KV H .non .none
  | int (i : Int) : KV H (.int i) (.num i)
  | str (z : Str) : KV H (.str z) (.text z)
  | tup {a : Addr} {vs : List V} {ks : List NK} (h : H a = some (.tup vs)) (t : KVs H vs ks) : KV H (.ref a) (.tup ks)
inductive KVs (H : Hp) : List V → List NK → Prop
  | nil : KVs H [] []
  | cons {v : V} {vs : List V} {k : NK} {ks : List NK} (h : KV H v k) (t : KVs H vs ks) : KVs H (v :: vs) (k :: ks)
end
mutual
theorem KV.up {H H' : Hp} (e : ∀ a xs, H a = some (.tup xs) → H' a = some (.tup xs)) : ∀ {v : V} {k : NK}, KV H v k → KV H' v k
  | _, _, .non => .non
  | _, _, .int i => .int i
  | _, _, .str z => .str z
  | _, _, .tup h t => .tup (e _ _ h) (KVs.up e t)
theorem KVs.up {H H' : Hp} (e : ∀ a xs, H a = some (.tup xs) → H' a = some (.tup xs)) : ∀ {v : List V} {k : List NK}, KVs H v k → KVs H' v k
  | _, _, .nil => .nil
  | _, _, .cons h t => .cons (KV.up e h) (KVs.up e t)
end
theorem KV.same {H H' : Hp} {v : V} {k : NK} (h : KV H v k) (s : Same H H') : KV H' v k := h.up fun a xs e => s a _ e
mutual
theorem KV.raw {P : Program} {w : World} {H : Hp} {h : Heap} (ok : HOk P w H h) : ∀ {v : V} {k : NK} {u : Value}, KV H v k → RelV v u → NestedIs h k u
  | _, _, u, .non, r => by
    obtain rfl : u = Value.none := r
    exact .none
  | _, _, u, .int i, r => by
    obtain ⟨t, rfl⟩ := (show ∃ t, u = Value.int i t from r)
    exact .int i t
  | _, _, u, .str z, r => by
    obtain ⟨t, rfl⟩ := (show ∃ t, u = Value.str z t from r)
    exact .text z t
  | _, _, u, .tup (a := a) e t, r => by
    obtain rfl : u = Value.ref a := r
    obtain ⟨_, its, rv, o, ho, hc, n, hd⟩ := ok _ _ e
    exact .tup ho hc hd (KVs.raw ok t (by simpa using rv))
theorem KVs.raw {P : Program} {w : World} {H : Hp} {h : Heap} (ok : HOk P w H h) : ∀ {v : List V} {k : List NK} {u : List Value}, KVs H v k → Vals v u → NestedAll h k u
  | _, _, _, .nil, r => by
    cases r
    exact .nil
  | _, _, _, .cons e t, r => by
    cases r with
    | cons r1 r2 => exact .cons (KV.raw ok e r1) (KVs.raw ok t r2)
end
abbrev HRow := NK × V × V
def Rel (rs : List HRow) (xs : List Row) : Prop := Paired (fun (r : HRow) (x : Row) => r.1 = x.1 ∧ RelV r.2.1 x.2.1 ∧ RelV r.2.2 x.2.2) rs xs
def DO (w : World) (a : Addr) (rs : List HRow) : HO := .ext fun h => (a == sysModules) = false ∧ rs.length ≤ sizeLine ∧ ∃ xs, D w h a xs ∧ Rel rs xs
end DA

set_option maxHeartbeats 3900000
namespace DA
open PySem PySem.Spec PyProof.Rows L2
def HAt (w : World) (H : Hp) (a : Addr) (kvs : List (NK × V)) : Prop := ∃ rs : List HRow, H a = some (DO w a rs) ∧ rs.map (fun r => (r.1, r.2.2)) = kvs ∧ ∀ r ∈ rs, KV H r.2.1 r.1 ∧ r.1.depth ≤ 8
def AKey (H : Hp) (y : V) (k : NK) : Prop := KV H y k ∧ k.depth ≤ 8
abbrev aput (kvs : List (NK × V)) (k : NK) (v : V) : List (NK × V) := kput kvs k (fun _ => v) v
theorem do_ne {w : World} {a : Addr} {rs : List HRow} (xs : List V) : DO w a rs ≠ .tup xs := fun z => by
  unfold DO at z
  cases z
theorem HAt.same {w : World} {H H' : Hp} {a : Addr} {kvs : List (NK × V)} (h : HAt w H a kvs) (s : Same H H') : HAt w H' a kvs := by
  obtain ⟨rs, h1, h2, h3⟩ := h
  exact ⟨rs, s _ _ h1, h2, fun r hr => ⟨(h3 r hr).1.same s, (h3 r hr).2⟩⟩
theorem HAt.keep {w : World} {H H' : Hp} {a : Addr} {kvs : List (NK × V)} (h : HAt w H a kvs) (e : ∀ rs, H a = some (DO w a rs) → H' a = some (DO w a rs)) (t : ∀ b xs, H b = some (.tup xs) → H' b = some (.tup xs)) : HAt w H' a kvs := by
  obtain ⟨rs, h1, h2, h3⟩ := h
  exact ⟨rs, e _ h1, h2, fun r hr => ⟨(h3 r hr).1.up t, (h3 r hr).2⟩⟩
theorem kat_map {α β : Type} (f : α → β) (k : NK) : ∀ xs : List (NK × α), kat (xs.map fun x => (x.1, f x.2)) k = (kat xs k).map f
  | [] => rfl
  | x :: r => by
    unfold kat
    rw [List.map_cons, List.find?_cons, List.find?_cons]
    by_cases e : x.1 = k
    · rw [decide_eq_true e]
      rfl
    · rw [decide_eq_false e]
      exact kat_map f k r
theorem kat_rel {k : NK} : ∀ {rs : List HRow} {xs : List Row}, Rel rs xs → RelO ((kat rs k).map (·.2)) ((kat xs k).map (·.2))
  | [], _, h => by
    cases h
    exact trivial
  | r :: rs, _, h => by
    cases h with
    | @cons _ x _ xs h1 h2 =>
      unfold kat
      rw [List.find?_cons, List.find?_cons]
      by_cases e : r.1 = k
      · rw [decide_eq_true e, decide_eq_true (h1.1 ▸ e)]
        exact h1.2.2
      · rw [decide_eq_false e, decide_eq_false (h1.1 ▸ e)]
        exact kat_rel h2
theorem rel_keys : ∀ {rs : List HRow} {xs : List Row}, Rel rs xs → rs.map (·.1) = xs.map (·.1)
  | [], _, h => by
    cases h
    rfl
  | r :: rs, _, h => by
    cases h with
    | cons h1 h2 => rw [List.map_cons, List.map_cons, h1.1, rel_keys h2]
theorem rel_kys {P : Program} {w : World} {H : Hp} {h : Heap} (ok : HOk P w H h) : ∀ {rs : List HRow} {xs : List Row}, Rel rs xs → (∀ r ∈ rs, KV H r.2.1 r.1 ∧ r.1.depth ≤ 8) → Kys h xs
  | [], _, q, _ => by
    cases q
    exact fun x hx => (by cases hx)
  | r :: rs, _, q, k => by
    cases q with
    | cons h1 h2 =>
      intro x hx
      rcases List.mem_cons.mp hx with rfl | hx
      · have := k r List.mem_cons_self
        exact ⟨h1.1 ▸ this.1.raw ok h1.2.1, h1.1 ▸ this.2⟩
      · exact rel_kys ok h2 (fun r hr => k r (List.mem_cons_of_mem _ hr)) x hx
theorem rel_map {f : V × V → V × V} {g : Value × Value → Value × Value} {k : NK} (fg : ∀ p q, RelV p.1 q.1 ∧ RelV p.2 q.2 → RelV (f p).1 (g q).1 ∧ RelV (f p).2 (g q).2) : ∀ {rs : List HRow} {xs : List Row}, Rel rs xs →
    Rel (rs.map fun x => if x.1 = k then (x.1, f x.2) else x) (xs.map fun x => if x.1 = k then (x.1, g x.2) else x)
  | [], _, h => by
    cases h
    exact .nil
  | r :: rs, _, h => by
    cases h with
    | @cons _ x _ xs h1 h2 =>
      refine .cons ?_ (rel_map fg h2)
      dsimp only
      by_cases e : r.1 = k
      · rw [if_pos e, if_pos (h1.1 ▸ e)]
        exact ⟨h1.1, fg _ _ h1.2⟩
      · rw [if_neg e, if_neg (h1.1 ▸ e)]
        exact h1
theorem rel_snoc {r : HRow} {x : Row} (q : r.1 = x.1 ∧ RelV r.2.1 x.2.1 ∧ RelV r.2.2 x.2.2) : ∀ {rs : List HRow} {xs : List Row}, Rel rs xs → Rel (rs ++ [r]) (xs ++ [x])
  | [], _, h => by
    cases h
    exact .cons q .nil
  | _ :: _, _, h => by
    cases h with
    | cons h1 h2 => exact .cons h1 (rel_snoc q h2)
theorem rel_put {f : V × V → V × V} {g : Value × Value → Value × Value} {k : NK} {p : V × V} {u : Value × Value} (fg : ∀ p q, RelV p.1 q.1 ∧ RelV p.2 q.2 → RelV (f p).1 (g q).1 ∧ RelV (f p).2 (g q).2) (pu : RelV p.1 u.1 ∧ RelV p.2 u.2) {rs : List HRow} {xs : List Row} (h : Rel rs xs) :
    Rel (kput rs k f p) (kput xs k g u) := by
  unfold kput
  rw [← rel_keys h]
  by_cases e : k ∈ rs.map (·.1)
  · rw [if_pos e, if_pos e]
    exact rel_map fg h
  · rw [if_neg e, if_neg e]
    exact rel_snoc ⟨rfl, pu⟩ h
theorem rel_len : ∀ {rs : List HRow} {xs : List Row}, Rel rs xs → rs.length = xs.length
  | [], _, h => by
    cases h
    rfl
  | _ :: _, _, h => by
    cases h with
    | cons h1 h2 => rw [List.length_cons, List.length_cons, rel_len h2]
section
variable {X : Cx} {pins : List (Addr × Obj)} {σ : L2.St} {H : Hp} {s : Shared} {a : Addr} {y v : V} {u r : Value} {A : Around} {E : Value → Shared → Prop} {kvs : List (NK × V)} {k : NK}
theorem a_of (I : Inv X pins σ H s) (h : HAt X.w H a kvs) : (a == sysModules) = false ∧ ∃ rs xs, H a = some (DO X.w a rs) ∧ rs.map (fun r => (r.1, r.2.2)) = kvs ∧ (∀ r ∈ rs, KV H r.2.1 r.1 ∧ r.1.depth ≤ 8) ∧ rs.length ≤ sizeLine ∧ D X.w s.heap a xs ∧ Rel rs xs ∧ Kys s.heap xs := by
  obtain ⟨rs, h1, h2, h3⟩ := h
  obtain ⟨⟨hd, hl, xs, dx, rl⟩, _⟩ := I.hok _ _ h1
  exact ⟨hd, rs, xs, h1, h2, h3, hl, dx, rl, rel_kys I.hok rl h3⟩
theorem a_key (I : Inv X pins σ H s) (h : AKey H y k) (ry : RelV y u) : Ky s.heap k u := ⟨h.1.raw I.hok ry, h.2⟩
theorem kat_vals {rs : List HRow} {xs : List Row} (e : rs.map (fun r => (r.1, r.2.2)) = kvs) (rl : Rel rs xs) : RelO (kat kvs k) ((kat xs k).map (·.2)) := by
  rw [← e, show (rs.map fun r => (r.1, r.2.2)) = rs.map (fun x => (x.1, (fun p : V × V => p.2) x.2)) from rfl, kat_map]
  exact kat_rel rl
theorem a_in {Q : Bool → Shared → Prop} (hu : A.units + 9 < cLine) (I : Inv X pins σ H s) (h : HAt X.w H a kvs) (hk : AKey H y k) (ry : RelV y u) (q : ∀ s', Inv X pins σ H s' → Q (kat kvs k).isSome s') : wpAny (model X.prog X.w) A (contains (.ref a) u) Q E s := by
  obtain ⟨hd, rs, xs, h1, h2, h3, hl, dx, rl, ky⟩ := a_of I h
  refine has hu (a_key I hk ry) hd dx ky ?_
  have e := (kat_vals (k := k) h2 rl).isSome_eq
  rw [Option.isSome_map] at e
  rw [← e]
  exact q _ (I.tok _)
theorem put_maps {rs : List HRow} (e : rs.map (fun r => (r.1, r.2.2)) = kvs) (p : V × V) (f : V × V → V × V) (g : V → V) (hf : ∀ q, (f q).2 = g q.2) : (kput rs k f p).map (fun r => (r.1, r.2.2)) = kput kvs k g p.2 := by
  have ek : rs.map (·.1) = kvs.map (·.1) := by rw [← e, List.map_map]; rfl
  unfold kput
  rw [ek]
  by_cases h : k ∈ kvs.map (·.1)
  · rw [if_pos h, if_pos h, ← e, List.map_map, List.map_map]
    refine List.map_congr_left fun x _ => ?_
    show ((if x.1 = k then (x.1, f x.2) else x).1, (if x.1 = k then (x.1, f x.2) else x).2.2) = if x.1 = k then (x.1, g x.2.2) else (x.1, x.2.2)
    by_cases c : x.1 = k
    · rw [if_pos c, if_pos c, hf]
    · rw [if_neg c, if_neg c]
  · rw [if_neg h, if_neg h, List.map_append, e]
    rfl
theorem a_write {f : V × V → V × V} {g : Value × Value → Value × Value} {gv : V → V} {h' : Heap} {t' : Nat} {rs : List HRow} {xs : List Row} (fg : ∀ p q, RelV p.1 q.1 ∧ RelV p.2 q.2 → RelV (f p).1 (g q).1 ∧ RelV (f p).2 (g q).2) (fk : ∀ q, (f q).1 = q.1) (hf : ∀ q, (f q).2 = gv q.2)
    (I : Inv X pins σ H s) (hd : (a == sysModules) = false) (h1 : H a = some (DO X.w a rs)) (h2 : rs.map (fun r => (r.1, r.2.2)) = kvs) (h3 : ∀ r ∈ rs, KV H r.2.1 r.1 ∧ r.1.depth ≤ 8) (hl : rs.length < sizeLine) (rl : Rel rs xs) (hk : AKey H y k) (ry : RelV y u) (rv : RelV v r)
    (dx : D X.w h' a (kput xs k g (u, r))) (sb : Heap.SameBut a s.heap h') :
    ∃ rs', HAt X.w (upd H a (DO X.w a rs')) a (kput kvs k gv v) ∧ Inv X pins σ (upd H a (DO X.w a rs')) { s with heap := h', toks := t' } := by
  have keep : ∀ b ys, H b = some (.tup ys) → ∀ o, upd H a o b = some (.tup ys) := fun b ys e o => by
    rw [upd_ne (ne_of e h1 fun z => do_ne ys z.symm)]
    exact e
  refine ⟨kput rs k f (y, v), ⟨_, upd_same, put_maps h2 (y, v) f gv hf, fun r' hr => ?_⟩, ?_⟩
  · rcases kput_mem hr with q | q | ⟨z, hz, ez, q⟩
    · exact ⟨(h3 r' q).1.up fun b ys e => keep b ys e _, (h3 r' q).2⟩
    · rw [q]
      exact ⟨hk.1.up fun b ys e => keep b ys e _, hk.2⟩
    · rw [q]
      have := h3 z hz
      rw [ez] at this
      exact ⟨by show KV _ (f z.2).1 k; rw [fk]; exact this.1.up fun b ys e => keep b ys e _, this.2⟩
  · have he : ∃ q, h'.get? a = some q := by
      obtain ⟨o, es, ep, T⟩ := id dx
      exact ⟨o, T.ob⟩
    refine d_write I (by rw [h1]; exact True.intro) sb he ⟨⟨hd, Nat.le_trans (kput_len _ _ _ _) hl, _, dx, rel_put fg ⟨ry, rv⟩ rl⟩, he, fun g1 g2 ⟨q1, q2, xs', q3, q4⟩ kp => ⟨q1, q2, xs', ?_, q4⟩⟩
    obtain ⟨o, es, ep, T⟩ := q3
    exact ⟨o, es, ep, kp _ T.ob, T.ex, T.da, T.en, T.nd⟩
theorem a_set {Q : Unit → Shared → Prop} (hu : A.units + 9 < cLine) (I : Inv X pins σ H s) (h : HAt X.w H a kvs) (hk : AKey H y k) (ry : RelV y u) (rv : RelV v r) (hl : kvs.length < sizeLine)
    (q : ∀ s' rs', HAt X.w (upd H a (DO X.w a rs')) a (aput kvs k v) → Inv X pins σ (upd H a (DO X.w a rs')) s' → Q () s') : wpAny (model X.prog X.w) A (setItem (.ref a) u r) Q E s := by
  obtain ⟨hd, rs, xs, h1, h2, h3, _, dx, rl, ky⟩ := a_of I h
  have l1 : rs.length < sizeLine := by rw [← h2, List.length_map] at hl; exact hl
  refine setI hu (a_key I hk ry) dx ky (by rw [← rel_len rl]; exact Nat.le_of_lt l1) fun h' dx' sb => ?_
  obtain ⟨rs', n1, n2⟩ := a_write (t' := s.toks + k.draws) (f := fun p => (p.1, v)) (g := fun p => (p.1, r)) (gv := fun _ => v) (fun p q z => ⟨z.1, rv⟩) (fun _ => rfl) (fun _ => rfl) I hd h1 h2 h3 l1 rl hk ry rv dx' sb
  exact q _ rs' n1 n2
end
end DA

set_option maxHeartbeats 3900000
namespace DA
open PySem PySem.Spec PyProof.Rows L2
def tANew (w : World) : TE := fun _ H Q => ∀ p, H p = none → HAt w (upd H p (DO w p [])) p [] → Q (.ref p) (upd H p (DO w p []))
def tAIn (w : World) (ty td : TE) : TE := fun σ H Q => ty σ H fun y H1 => td σ H1 fun x H2 => ∃ a kvs k, x = .ref a ∧ HAt w H2 a kvs ∧ AKey H2 y k ∧ Q (.bl (kat kvs k).isSome) H2
def sAPut (w : World) (td ty tv : TE) : TS := fun D σ H => tv σ H fun v H1 => td σ H1 fun x H2 => ty σ H2 fun y H3 => ∃ a kvs k, x = .ref a ∧ HAt w H3 a kvs ∧ AKey H3 y k ∧ kvs.length < sizeLine ∧ ∀ rs, HAt w (upd H3 a (DO w a rs)) a (aput kvs k v) → D.nx σ (upd H3 a (DO w a rs))
section
variable {X : Cx} {o i e f value : Expr} {pos pos' apos cpos : Pos} {td ty tz tv : TE}
theorem pe_anew : PE X (.Dict [] [] pos) (tANew X.w) := ⟨fun pins s σ H Q I h => by
  have hn := I.hok.fresh (Nat.le_refl s.heap.objs.size)
  refine wpAny_Dict_empty ⟨.ref s.heap.objs.size, _, I.laid (a := s.heap.objs.size) (o := DO X.w s.heap.objs.size []) (t' := s.toks) (fun _ _ q => Heap.get?_push_of_some _ q) (Nat.le_refl _) ?_, rfl, h _ hn ⟨[], upd_same, rfl, fun r hr => (by cases hr)⟩⟩
  have e : (s.heap.push { cls := .type "dict", data := .dict #[] }).get? s.heap.objs.size = some { cls := .type "dict", data := .dict #[] } := Heap.get?_push_size _ rfl
  exact ⟨⟨beq_eq_false_iff_ne.mpr (Ne.symm (Nat.ne_of_lt I.big)), Nat.zero_le _, [], ⟨_, #[], 0, e, ⟨rfl, rfl, rfl⟩, rfl, rfl, List.nodup_nil⟩, .nil⟩, ⟨_, e⟩, fun g1 g2 ⟨q1, q2, xs', q3, q4⟩ kp => ⟨q1, q2, xs', (by
    obtain ⟨o, es, ep, T⟩ := q3
    exact ⟨o, es, ep, kp _ T.ob, T.ex, T.da, T.en, T.nd⟩), q4⟩⟩⟩
theorem pc_ain (hu : X.A.units + 9 < cLine) (hi : PE X i ty) (ho : PE X o td) : PC X .In i o (tAIn X.w ty td) := by
  refine ⟨fun pins s σ H Q I h => ?_⟩
  refine thn (hi.run pins s σ H _ I h) fun iv s1 ⟨y, H1, I1, ry, q1⟩ => thn (ho.run pins s1 σ H1 _ I1 q1) fun u s2 ⟨x, H2, I2, rx, a, kvs, k, ex, g, hk, q2⟩ => ?_
  subst ex
  obtain rfl : u = Value.ref a := rx
  show wpAny _ _ (do return Value.bool (← contains (.ref a) iv)) _ _ s2
  exact wpAny_bind (a_in hu I2 g hk ry fun s3 I3 => wpAny_pure ⟨.bl (kat kvs k).isSome, H2, I3, rfl, q2⟩)
theorem ps_aput (hu : X.A.units + 9 < cLine) (ho : PE X o td) (hi : PE X i ty) (hv : PE X value tv) (hs : swapsWith value (some (.Subscript o i pos')) pos.line X.env = pure false) :
    PS X (.Assign [.Subscript o i pos'] value pos) (sAPut X.w td ty tv) := by
  refine ⟨fun pins s σ H D I h => ?_⟩
  refine wpAny_Assign_Subscript (thn (hv.run pins s σ H _ I h) fun r s1 ⟨v, H1, I1, rv, q1⟩ => thn (ho.run pins s1 σ H1 _ I1 q1) fun u s2 ⟨x, H2, I2, rx, q2⟩ => thn (hi.run pins s2 σ H2 _ I2 q2) fun iv s3 ⟨y, H3, I3, ry, a, kvs, k, ex, g, hk, hl, q3⟩ => ?_) hs
  subst ex
  obtain rfl : u = Value.ref a := rx
  exact a_set hu I3 g hk ry rv hl fun s4 rs n I4 => ⟨σ, _, I4, q3 rs n⟩
end
end DA

set_option maxHeartbeats 3900000
namespace DA
open PySem PySem.Spec PyProof.Rows L2
section
variable {X : Cx} {w : World} {o i e f value : Expr} {pos pos' apos cpos : Pos} {td ty tz tv : TE}
theorem pe_anewW (hw : X.w = w) : PE X (.Dict [] [] pos) (tANew w) := hw ▸ pe_anew
theorem pc_ainW (hw : X.w = w) (hu : X.A.units + 9 < cLine) (hi : PE X i ty) (ho : PE X o td) : PC X .In i o (tAIn w ty td) := hw ▸ pc_ain hu hi ho
theorem ps_aputW (hw : X.w = w) (hu : X.A.units + 9 < cLine) (ho : PE X o td) (hi : PE X i ty) (hv : PE X value tv) (hs : swapsWith value (some (.Subscript o i pos')) pos.line X.env = pure false) : PS X (.Assign [.Subscript o i pos'] value pos) (sAPut w td ty tv) := hw ▸ ps_aput hu ho hi hv hs
end
end DA

set_option maxHeartbeats 3900000
namespace EE
open PySem PySem.Spec PyProof.Rows L2
open CB
def rInT (K : PySem.W.Frag) : V → V → Hp → VK → Prop := fun x y H Q => ∃ d ds, Dp K H x d ∧ Dp K H y (.tuple ds) ∧ SeqAt.shaped d = true ∧ SeqAt.shaped (.tuple ds) = true ∧ Q (.bl (ds.any fun z => PyData.eqv z d)) H
theorem op_inT {X : Cx} (hu : X.A.units + 65 < cLine) : OpR X (compareOp .In) (rInT X.K) := by
  intro pins s σ H x y v u Q I rx ry h
  obtain ⟨d, ds, hd, he, sd, se, q⟩ := h
  obtain ⟨as, r1⟩ := Dp.reads I d x v hd rx
  obtain ⟨bs, r2⟩ := Dp.reads I (.tuple ds) y u he ry
  have c2 : PyData.canLayAll0 ds = true := SeqAt.canLay_of_shaped se
  exact SeqAt.in_tuple_reads r2 r1 c2 (SeqAt.canLay_of_shaped sd) (room_in_shaped sd hu) ⟨.bl _, H, I, rfl, q⟩
def iEnumE (K : PySem.W.Frag) (te : TE) : TI := fun σ H R => te σ H fun v H1 => ∃ a, v = .ref a ∧ ((∃ xs, SqT K H1 a xs ∧ R (ET.Itu K a xs) H1) ∨ ∃ xs, SqL K H1 a xs ∧ R (Ite K a) H1)
theorem pi_enumE {X : Cx} {e : Expr} {te : TE} {p pos tpos : Pos} {elts : List Expr} {kk : Nat} (hg : Gl X "enumerate") (hm : X.mg "enumerate" = none) (ha : PE X e te) (hs : starEach [e] X.env = [(false, eval e X.env)] := by rfl) :
    PI X (.Tuple elts kk tpos) (.Call (.Name "enumerate" p) [e] [] pos) (iEnumE X.K te) := by
  refine ⟨fun pins s σ H R I h => ?_⟩
  have arg := (pa_cons ha pa_nil hs).run pos pins s σ H (fun vs H1 => match vs with
    | [v] => ∃ a, v = .ref a ∧ ((∃ xs, SqT X.K H1 a xs ∧ R (ET.Itu X.K a xs) H1) ∨ ∃ xs, SqL X.K H1 a xs ∧ R (Ite X.K a) H1)
    | _ => False) I h
  refine Call_ (ld_blt I hg hm boot_enumerate (PyProof.Rows.callWith_type1 (thn arg fun us s1 ⟨vs, H1, I1, r1, w⟩ => ?_) hs rfl))
  obtain ⟨a, rfl, kind⟩ : ∃ a, vs = [.ref a] ∧ ((∃ xs, SqT X.K H1 a xs ∧ R (ET.Itu X.K a xs) H1) ∨ ∃ xs, SqL X.K H1 a xs ∧ R (Ite X.K a) H1) := by
    match vs, w with
    | [v], ⟨a, e, k⟩ => exact ⟨a, by rw [e], k⟩
  obtain rfl : us = [Value.ref a] := by
    cases r1 with
    | cons q qq =>
      cases qq
      cases q
      rfl
  have two : ∀ b : Addr, b ∈ [s1.heap.objs.size + 1, s1.heap.objs.size] → s1.heap.objs.size ≤ b := fun b hb => by
    rcases List.mem_cons.mp hb with z | z
    · rw [z]
      exact Nat.le_succ _
    · rw [List.mem_singleton.mp z]
      exact Nat.le_refl _
  rcases kind with ⟨xs, hq, q⟩ | ⟨xs, hq, q⟩
  · obtain ⟨its, rv, tup, hz⟩ := I1.tuple hq
    have tp : s1.heap.IsTuple a its.toArray := tup
    have lt : a < s1.heap.objs.size := by
      obtain ⟨_, z, _⟩ := tp
      exact Heap.lt_size z
    refine ET.call_enumT tp fun g hen hit kept => wpAny_pyIter_enum hen ?_
    have J : Inv X pins σ H1 { s1 with heap := g } := I1.kept (t' := s1.toks) kept
    exact ⟨s1.heap.objs.size + 1, [s1.heap.objs.size + 1, s1.heap.objs.size], _, _, H1, rfl, J, ET.turn_enumT a (s1.heap.objs.size + 1) s1.heap.objs.size xs, ⟨⟨.none, hen⟩, hit, Nat.succ_ne_self _, Nat.ne_of_lt lt, Nat.ne_of_lt (Nat.lt_succ_of_lt lt), Nat.zero_le _⟩, fun b hb => I1.fpOk (two b hb) (I1.hok.fresh (two b hb)), q⟩
  · obtain ⟨its, rv, lst, hz⟩ := I1.list hq
    refine call_enumerate_list lst.isList fun g hen hit sz kept => wpAny_pyIter_enum hen ?_
    have J : Inv X pins σ H1 { s1 with heap := g } := I1.kept (t' := s1.toks) kept
    exact ⟨s1.heap.objs.size + 1, [s1.heap.objs.size + 1, s1.heap.objs.size], _, _, H1, rfl, J, turn_enum a (s1.heap.objs.size + 1) s1.heap.objs.size, ⟨⟨.none, hen⟩, hit, Nat.succ_ne_self _⟩, fun b hb => I1.fpOk (two b hb) (I1.hok.fresh (two b hb)), q⟩
theorem for_enumE {K : PySem.W.Frag} {v : V} {xs : List V} {g : TG} {tb : TS} {D : Ends} {σ : L2.St} {H : Hp} (h : RowAt H v xs) (Pv : Nat → L2.St → Hp → Prop) (h0 : Pv 0 σ H) (keep : ∀ i τ H', Pv i τ H' → ∀ a o, v = .ref a → H a = some o → H' a = some o)
    (turn : ∀ i x T τ H', i < xs.length → Pv i τ H' → xs[i]? = some x → H' T = none → g (.ref T) τ (upd H' T (.tup [.int (i : Nat), x])) fun σ2 H2 => tb { D with nx := Pv (i + 1), ct := Pv (i + 1), bk := D.nx } σ2 H2) (done : ∀ τ H', Pv xs.length τ H' → D.nx τ H') :
    ∃ a, v = .ref a ∧ ((∃ xs, SqT K H a xs ∧ (fun (J : It) (H1 : Hp) => ∃ W : Nat → Nat → L2.St → Hp → Prop, (∃ m, W 0 m σ H1) ∧ ∀ i m σ H, W i m σ H → (J.stop i H ∧ D.nx σ H) ∨ (J.go i H ∧ ∃ N : L2.St → Hp → Prop, (∀ σ' H', N σ' H' → ∃ m', m' < m ∧ W (i + 1) m' σ' H') ∧ ∀ x H', J.yld i H x H' → g x σ H' fun σ2 H2 => tb { D with nx := N, ct := N, bk := D.nx } σ2 H2)) (ET.Itu K a xs) H) ∨
      ∃ xs, SqL K H a xs ∧ (fun (J : It) (H1 : Hp) => ∃ W : Nat → Nat → L2.St → Hp → Prop, (∃ m, W 0 m σ H1) ∧ ∀ i m σ H, W i m σ H → (J.stop i H ∧ D.nx σ H) ∨ (J.go i H ∧ ∃ N : L2.St → Hp → Prop, (∀ σ' H', N σ' H' → ∃ m', m' < m ∧ W (i + 1) m' σ' H') ∧ ∀ x H', J.yld i H x H' → g x σ H' fun σ2 H2 => tb { D with nx := N, ct := N, bk := D.nx } σ2 H2)) (Ite K a) H) := by
  obtain ⟨a, rfl, h1 | h1⟩ := h
  · refine ⟨a, rfl, .inl ⟨_, SqT.of h1, for_it (ET.walk_enumT (K := K) (a := a) (xs := xs)) Pv h0 (fun i τ H' _ p => SqT.of (keep i τ H' p _ _ rfl h1)) ?_ done⟩⟩
    rintro i x τ H' H2 hi p ⟨T, y0, y1, rfl, hT, rfl, hy0, hy1⟩
    cases hy0
    exact turn i y1 T τ _ hi p hy1 hT
  · refine ⟨a, rfl, .inr ⟨_, SqL.of h1, for_it (walk_enum (K := K) (a := a) (xs := xs)) Pv h0 (fun i τ H' _ p => SqL.of (keep i τ H' p _ _ rfl h1)) ?_ done⟩⟩
    rintro i x τ H' H2 hi p ⟨T, y0, y1, rfl, hT, rfl, hy0, hy1⟩
    cases hy0
    exact turn i y1 T τ _ hi p hy1 hT
end EE

set_option maxHeartbeats 3900000
namespace T6
open PySem PySem.Spec PyProof.Rows L2 TL
open C8 (pss_cut tCut pe_gc)
open CB XW LE LR
abbrev sPT : Stmt := top 21
abbrev sIE : Stmt := top 22
abbrev sLoA : Stmt := top 23
abbrev sUn : Stmt := top 24
inductive Tr
  | fin (z : Str)
  | ask (k : Lk) (cs : List (An × Tr)) (o : Tr)
abbrev Cs := List (An × Tr)
mutual
/-- it is passed: lists or tuples -/
inductive TrIn (H : Hp) : V → Tr → Prop
  | fin {v : V} {z : Str} (r : RowAt H v [.str "end", .str z]) : TrIn H v (.fin z)
  | ask {v kv cv ov : V} {xs : List V} {k : Lk} {cs : Cs} {o : Tr} (r : RowAt H v [.str "ask", kv, cv, ov]) (rk : RowAt H kv (lkV k)) (rc : RowAt H cv xs) (c : CsIn H xs cs) (t : TrIn H ov o) : TrIn H v (.ask k cs o)
inductive CsIn (H : Hp) : List V → Cs → Prop
  | nil : CsIn H [] []
  | cons {x av tv : V} {xs : List V} {a : An} {t : Tr} {cs : Cs} (r : RowAt H x [av, tv]) (ha : AnIn H av a) (ht : TrIn H tv t) (c : CsIn H xs cs) : CsIn H (x :: xs) ((a, t) :: cs)
end
mutual
/-- it is told: tuples throughout -/
inductive TrAt (H : Hp) : V → Tr → Prop
  | fin {p : Addr} {z : Str} (r : H p = some (.tup [.str "end", .str z])) : TrAt H (.ref p) (.fin z)
  | ask {p kp cp : Addr} {ov : V} {xs : List V} {k : Lk} {cs : Cs} {o : Tr} (r : H p = some (.tup [.str "ask", .ref kp, .ref cp, ov])) (rk : H kp = some (.tup (lkV k))) (rc : H cp = some (.tup xs)) (c : CsAt H xs cs) (t : TrAt H ov o) : TrAt H (.ref p) (.ask k cs o)
inductive CsAt (H : Hp) : List V → Cs → Prop
  | nil : CsAt H [] []
  | cons {p : Addr} {av tv : V} {xs : List V} {a : An} {t : Tr} {cs : Cs} (r : H p = some (.tup [av, tv])) (ha : AnAt H av a) (ht : TrAt H tv t) (c : CsAt H xs cs) : CsAt H (.ref p :: xs) ((a, t) :: cs)
end
mutual
theorem TrIn.up {H H' : Hp} (s : Same H H') : ∀ {v : V} {t : Tr}, TrIn H v t → TrIn H' v t
  | _, _, .fin r => .fin (r.up s)
  | _, _, .ask r rk rc c t => .ask (r.up s) (rk.up s) (rc.up s) (CsIn.up s c) (TrIn.up s t)
theorem CsIn.up {H H' : Hp} (s : Same H H') : ∀ {v : List V} {t : Cs}, CsIn H v t → CsIn H' v t
  | _, _, .nil => .nil
  | _, _, .cons r ha ht c => .cons (r.up s) (ha.up s) (TrIn.up s ht) (CsIn.up s c)
end
theorem AnAt.tup {H H' : Hp} {v : V} {a : An} (h : AnAt H v a) (e : TupS H H') : AnAt H' v a := by
  cases a with
  | no => exact h
  | tx z => exact h
  | es l =>
    obtain ⟨p, q, r⟩ := h
    exact ⟨p, q, e _ _ r⟩
mutual
theorem TrAt.tup {H H' : Hp} (s : TupS H H') : ∀ {v : V} {t : Tr}, TrAt H v t → TrAt H' v t
  | _, _, .fin r => .fin (s _ _ r)
  | _, _, .ask r rk rc c t => .ask (s _ _ r) (s _ _ rk) (s _ _ rc) (CsAt.tup s c) (TrAt.tup s t)
theorem CsAt.tup {H H' : Hp} (s : TupS H H') : ∀ {v : List V} {t : Cs}, CsAt H v t → CsAt H' v t
  | _, _, .nil => .nil
  | _, _, .cons r ha ht c => .cons (s _ _ r) (ha.tup s) (TrAt.tup s ht) (CsAt.tup s c)
end
theorem TrAt.up {H H' : Hp} (s : Same H H') {v : V} {t : Tr} (h : TrAt H v t) : TrAt H' v t := h.tup (TupS.of s)
theorem CsAt.up {H H' : Hp} (s : Same H H') {v : List V} {t : Cs} (h : CsAt H v t) : CsAt H' v t := h.tup (TupS.of s)
mutual
theorem TrAt.in {H : Hp} : ∀ {v : V} {t : Tr}, TrAt H v t → TrIn H v t
  | _, _, .fin r => .fin ⟨_, rfl, .inl r⟩
  | _, _, .ask r rk rc c t => .ask ⟨_, rfl, .inl r⟩ ⟨_, rfl, .inl rk⟩ ⟨_, rfl, .inl rc⟩ (CsAt.in c) (TrAt.in t)
theorem CsAt.in {H : Hp} : ∀ {v : List V} {t : Cs}, CsAt H v t → CsIn H v t
  | _, _, .nil => .nil
  | _, _, .cons r ha ht c => .cons ⟨_, rfl, .inl r⟩ ha.in (TrAt.in ht) (CsAt.in c)
end
mutual
/-- how deep -/
def dep : Tr → Nat
  | .fin _ => 0
  | .ask _ cs o => max (depC cs) (dep o) + 1
def depC : Cs → Nat
  | [] => 0
  | (_, t) :: r => max (dep t) (depC r)
end
mutual
/-- it may be passed, below these looks -/
def OkT (ab : List Lk) : Tr → Prop
  | .fin _ => True
  | .ask k cs o => LkOk k ∧ k ∉ ab ∧ (cs.map (·.1)).Nodup ∧ cs.length ≤ 100 ∧ OkC ab k cs ∧ OkT (ab ++ [k]) o
def OkC (ab : List Lk) (k : Lk) : Cs → Prop
  | [] => True
  | (a, t) :: r => SiOk' (k, a) ∧ OkT (ab ++ [k]) t ∧ OkC ab k r
end
theorem okC_mem {ab : List Lk} {k : Lk} : ∀ {cs : Cs}, OkC ab k cs → ∀ c ∈ cs, SiOk' (k, c.1) ∧ OkT (ab ++ [k]) c.2
  | (a, t) :: r, h, c, hc => by
    rcases List.mem_cons.mp hc with rfl | hc
    · exact ⟨h.1, h.2.1⟩
    · exact okC_mem h.2.2 c hc
theorem depC_mem : ∀ {cs : Cs}, ∀ c ∈ cs, dep c.2 ≤ depC cs
  | (a, t) :: r, c, hc => by
    unfold depC
    rcases List.mem_cons.mp hc with rfl | hc
    · exact Nat.le_max_left _ _
    · exact Nat.le_trans (depC_mem c hc) (Nat.le_max_right _ _)
theorem csIn_at {H : Hp} : ∀ {xs : List V} {cs : Cs}, CsIn H xs cs → xs.length = cs.length ∧ ∀ (i : Nat) (x : V), xs[i]? = some x → ∃ a t av tv, cs[i]? = some (a, t) ∧ RowAt H x [av, tv] ∧ AnIn H av a ∧ TrIn H tv t
  | _, _, .nil => ⟨rfl, fun i x h => by simp at h⟩
  | _, _, .cons r ha ht c => by
    obtain ⟨l, q⟩ := csIn_at c
    refine ⟨by rw [List.length_cons, List.length_cons, l], fun i x h => ?_⟩
    cases i with
    | zero =>
      cases h
      exact ⟨_, _, _, _, rfl, r, ha, ht⟩
    | succ i => exact q i x h
theorem csAt_snoc {H : Hp} {p : Addr} {av tv : V} {a : An} {t : Tr} (r : H p = some (.tup [av, tv])) (ha : AnAt H av a) (ht : TrAt H tv t) : ∀ {xs : List V} {cs : Cs}, CsAt H xs cs → CsAt H (xs ++ [.ref p]) (cs ++ [(a, t)])
  | _, _, .nil => .cons r ha ht .nil
  | _, _, .cons r1 h1 h2 c => .cons r1 h1 h2 (csAt_snoc r ha ht c)
theorem csAt_at {H : Hp} : ∀ {xs : List V} {cs : Cs}, CsAt H xs cs → xs.length = cs.length ∧ ∀ (i : Nat) (x : V), xs[i]? = some x → ∃ a t p av tv, cs[i]? = some (a, t) ∧ x = .ref p ∧ H p = some (.tup [av, tv]) ∧ AnAt H av a ∧ TrAt H tv t
  | _, _, .nil => ⟨rfl, fun i x h => by simp at h⟩
  | _, _, .cons r ha ht c => by
    obtain ⟨l, q⟩ := csAt_at c
    refine ⟨by rw [List.length_cons, List.length_cons, l], fun i x h => ?_⟩
    cases i with
    | zero =>
      cases h
      exact ⟨_, _, _, _, _, rfl, rfl, r, ha, ht⟩
    | succ i => exact q i x h
def anK : An → DA.NK
  | .no => .none
  | .tx z => .text z
  | .es l => .tup (l.map fun e => .text (ent e.1 e.2))
theorem keys_ents {H : Hp} : ∀ l : List (Str × Bool), DA.KVs H (l.map entV) (l.map fun e => .text (ent e.1 e.2))
  | [] => .nil
  | e :: r => .cons (.str _) (keys_ents r)
theorem depth_ents : ∀ l : List (Str × Bool), NestedKey.depthAll (l.map fun e => .text (ent e.1 e.2)) ≤ 1
  | [] => by simp [NestedKey.depthAll]
  | e :: r => by
    have := depth_ents r
    simp only [List.map_cons, NestedKey.depthAll, NestedKey.depth]
    omega
theorem an_key {H : Hp} {v : V} {a : An} (h : AnAt H v a) : DA.AKey H v (anK a) := by
  cases a with
  | no =>
    obtain rfl : v = .non := h
    exact ⟨.non, by decide⟩
  | tx z =>
    obtain rfl : v = .str z := h
    exact ⟨.str z, by show NestedKey.depth (.text z) ≤ 8; simp [NestedKey.depth]⟩
  | es l =>
    obtain ⟨p, rfl, hp⟩ := h
    refine ⟨.tup hp (keys_ents l), ?_⟩
    have := depth_ents l
    show NestedKey.depth (.tup (l.map fun e => .text (ent e.1 e.2))) ≤ 8
    simp only [NestedKey.depth]
    omega
def spIE : Sp := fun vs H Q _ => ∃ v t, vs = [v] ∧ TrIn H v t ∧ ∀ H', Same H H' → Q (.bl (match t with | .fin _ => true | _ => false)) H'
def spLoA : Sp := fun vs H Q _ => ∃ v k cs o, vs = [v] ∧ TrIn H v (.ask k cs o) ∧ LkOk k ∧ ∀ p H', Same H H' → H' p = some (.tup (lkV k)) → Q (.ref p) H'
section
variable {P : Program} {w : World} {K : PySem.W.Frag} {mg : Str → Option Value} {base : Heap}
theorem scIE : FnScope ["thing"] ["thing"] (defScope sIE) := ⟨rfl, rfl, rfl, by decide +kernel, rfl, by decide +kernel, by decide +kernel⟩
theorem ok_ie {f fR : Addr} {fd fdR : FuncData} (F : Fun K "is_end" "is_end" sIE f fd) (T : TB mg) (aRow : At K mg "is_row" fR fdR ["thing", "size"]) (GRow : FnOk P w K mg base CX0 1 fR fdR ["thing", "size"] spRow) : FnOk P w K mg base CX0 2 f fd ["thing"] spIE := by
  refine F.ok scIE (fun vs H Q E h => ?_) (fun cdv A outer s H vs Q E hr h => ?_)
  · obtain ⟨v, t, rfl, _⟩ := h
    rfl
  · obtain ⟨v, t, rfl, ht, k⟩ := h
    refine ⟨_, pss_one (ps_ret (pe_and (pe_call GRow (hr.mono (by decide)) rfl aRow.m aRow.k aRow.b .nil pass0 (pa_cons (pv 0) (pa_cons pe_int pa_nil))) (pe_and (pe_callB call_isi (by rfl) T.isinstance (by decide +kernel) (pa_cons (pe_ix ix_row (pv 0) pe_int (fun _ _ => rfl)) (pa_cons (pe_bltn (v := .ty "str") (by rfl) T.str (by decide +kernel) rfl) pa_nil))) (pe_and (pe_cmpR op_eq (pe_ix ix_row (pv 0) pe_int (fun _ _ => rfl)) pe_str (nomark _)) (pe_one (pe_callB call_isi (by rfl) T.isinstance (by decide +kernel) (pa_cons (pe_ix ix_row (pv 0) pe_int (fun _ _ => rfl)) (pa_cons (pe_bltn (v := .ty "str") (by rfl) T.str (by decide +kernel) rfl) pa_nil)))))))), ?_⟩
    cases ht with
    | fin r =>
      refine ⟨_, rfl, v, _, 2, rfl, r, fun H1 s1 => ?_⟩
      have r1 := r.up s1
      exact ⟨_, rfl, iteY rfl ⟨_, rfl, _, 0, _, r1, rfl, atI_nat (j := 0) rfl, _, _, .type "str", .type "str", true, rfl, .ty "str", .base (.str _), kit_ty (by decide +kernel), _, rfl, iteT ⟨_, rfl, _, 0, _, r1, rfl, atI_nat (j := 0) rfl, rfl, _, rfl, iteY rfl ⟨_, rfl, _, 1, _, r1, rfl, atI_nat (j := 1) rfl, _, _, .type "str", .type "str", true, rfl, .ty "str", .base (.str _), kit_ty (by decide +kernel), k _ s1⟩⟩⟩⟩
    | ask r rk rc c t =>
      exact ⟨_, rfl, v, _, 2, rfl, r, fun H1 s1 => ⟨_, rfl, iteN (by show ¬ ((4 : Nat) : Int) = 2; decide) (k H1 s1)⟩⟩
theorem scLoA : FnScope ["thing"] ["thing"] (defScope sLoA) := ⟨rfl, rfl, rfl, by decide +kernel, rfl, by decide +kernel, by decide +kernel⟩
theorem ok_loa {f fR fL : Addr} {fd fdR fdL : FuncData} (F : Fun K "look_of_ask" "look_of_ask" sLoA f fd) (T : TB mg) (aRow : At K mg "is_row" fR fdR ["thing", "size"]) (GRow : FnOk P w K mg base CX0 1 fR fdR ["thing", "size"] spRow)
    (aAsLook : At K mg "as_look" fL fdL ["thing"]) (GAsLook : FnOk P w K mg base CX0 5 fL fdL ["thing"] spAsLook) : FnOk P w K mg base CX0 6 f fd ["thing"] spLoA := by
  refine F.ok scLoA (fun vs H Q E h => ?_) (fun cdv A outer s H vs Q E hr h => ?_)
  · obtain ⟨v, k, cs, o, rfl, _⟩ := h
    rfl
  · obtain ⟨v, kk, cs, o, rfl, ht, hk, k⟩ := h
    have hu := hr.units
    refine ⟨_, pss_cons (ps_if (PW.pt (pw_or (pt_not (pt_val (pe_call GRow (hr.mono (by decide)) rfl aRow.m aRow.k aRow.b .nil pass0 (pa_cons (pv 0) (pa_cons pe_int pa_nil))))) (pw_or (pt_not (pt_val (pe_callB call_isi (by rfl) T.isinstance (by decide +kernel) (pa_cons (pe_ix ix_row (pv 0) pe_int (fun _ _ => rfl)) (pa_cons (pe_bltn (v := .ty "str") (by rfl) T.str (by decide +kernel) rfl) pa_nil))))) (pw_or1 (pt_cmpR op_ne (pe_ix ix_row (pv 0) pe_int (fun _ _ => rfl)) pe_str (nomark _)))))) (pss_one (ps_ret pe_non)) (pss_nil))
            (pss_one (ps_ret (pe_ifExp (pt_val (pe_callB isi_LT (by rfl) T.isinstance (by decide +kernel) (pa_cons (pe_ix ix_row (pv 0) pe_int (fun _ _ => rfl)) (pa_cons (pe_tup (pa_cons (pe_bltn (v := .ty "list") (by rfl) T.list (by decide +kernel) rfl) (pa_cons (pe_bltn (v := .ty "tuple") (by rfl) T.tuple (by decide +kernel) rfl) pa_nil))) pa_nil)))) (pe_call GAsLook (hr.mono (by decide)) rfl aAsLook.m aAsLook.k aAsLook.b .nil pass0 (pa_cons (pe_ix ix_row (pv 0) pe_int (fun _ _ => rfl)) pa_nil)) pe_non))), ?_⟩
    cases ht with
    | ask r rk rc c t =>
    refine ⟨_, rfl, v, _, 4, rfl, r, fun H1 s1 => ⟨_, rfl, iteF ?_⟩⟩
    have r1 := r.up s1
    refine ⟨_, rfl, _, 0, _, r1, rfl, atI_nat (j := 0) rfl, _, _, .type "str", .type "str", true, rfl, .ty "str", .base (.str _), kit_ty (by decide +kernel), _, rfl, iteF ⟨_, rfl, _, 0, _, r1, rfl, atI_nat (j := 0) rfl, rfl, _, rfl, iteF ?_⟩⟩
    refine ⟨_, rfl, _, 2, _, r1, rfl, atI_nat (j := 2) rfl, by show 2 ≤ sizeLine; decide, fun tp ht => ⟨_, tp, true, rfl, upd_same, .inl ⟨rfl, _, (rc.up s1).up (same_mk ht)⟩, _, rfl, iteT ?_⟩⟩
    have s2 := s1.trans (same_mk (o := .tup [.ty "list", .ty "tuple"]) ht)
    exact ⟨_, rfl, _, 1, _, r.up s2, rfl, atI_nat (j := 1) rfl, _, kk, rfl, rk.up s2, hk, fun p H3 s3 hp => k p H3 (s2.trans s3) hp⟩
end
end T6

set_option maxHeartbeats 3900000
namespace T6
open PySem PySem.Spec PyProof.Rows L2 TL
open C8 (pss_cut tCut pe_gc)
open CB XW LE LR
def LksT (H : Hp) (vs : List V) (ks : List Lk) : Prop := vs.length = ks.length ∧ ∀ (i : Nat) (v : V) (k : Lk), vs[i]? = some v → ks[i]? = some k → ∃ p, v = .ref p ∧ H p = some (.tup (lkV k))
theorem LksT.up {H H' : Hp} {vs : List V} {ks : List Lk} (h : LksT H vs ks) (s : Same H H') : LksT H' vs ks := ⟨h.1, fun i v k a b => by
  obtain ⟨p, e, q⟩ := h.2 i v k a b
  exact ⟨p, e, s _ _ q⟩⟩
theorem LksT.snoc {H : Hp} {vs : List V} {ks : List Lk} {p : Addr} {k : Lk} (h : LksT H vs ks) (hp : H p = some (.tup (lkV k))) : LksT H (vs ++ [.ref p]) (ks ++ [k]) := by
  refine ⟨by rw [List.length_append, List.length_append, h.1]; rfl, fun i v j a b => ?_⟩
  by_cases e : i < vs.length
  · rw [List.getElem?_append_left e] at a
    rw [List.getElem?_append_left (h.1 ▸ e)] at b
    exact h.2 i v j a b
  · have e2 := h.1
    rw [List.getElem?_append_right (by omega)] at a
    rw [List.getElem?_append_right (by omega)] at b
    have lt := (List.getElem?_eq_some_iff.mp a).1
    rw [List.length_singleton] at lt
    rw [show i - vs.length = 0 by omega] at a
    rw [show i - ks.length = 0 by omega] at b
    cases a
    cases b
    exact ⟨p, rfl, hp⟩
theorem lksT_dp {K : PySem.W.Frag} {H : Hp} : ∀ {vs : List V} {ks : List Lk}, LksT H vs ks → DpAll K H vs (ks.map lkD)
  | [], [], _ => .nil
  | [], _ :: _, h => by cases h.1
  | _ :: _, [], h => by cases h.1
  | v :: vs, k :: ks, h => by
    obtain ⟨p, e, q⟩ := h.2 0 v k rfl rfl
    refine .cons (by rw [e]; exact lk_dp q) (lksT_dp ⟨Nat.succ.inj h.1, fun i v k a b => h.2 (i + 1) v k a b⟩)
theorem ks_shapedT {l : List Lk} (h : ∀ k ∈ l, LkW k) : SeqAt.shaped (.tuple (l.map lkD)) = true := by
  have lay : ∀ {l : List Lk}, (∀ k ∈ l, LkW k) → PyData.canLayAll0 (l.map lkD) = true := by
    intro l
    induction l with
    | nil => intro _; simp [PyData.canLayAll0]
    | cons k r ih =>
      intro h
      have h1 := siD_lay (s := (k, .no)) ⟨h k List.mem_cons_self, trivial⟩
      have h2 := ih fun x hx => h x (List.mem_cons_of_mem k hx)
      simp only [siD, PyData.canLay0, PyData.canLayAll0, Bool.and_eq_true] at h1
      simp [PyData.canLayAll0, h1.1, h2]
  have dep : ∀ l : List Lk, PyData.depthAll (l.map lkD) ≤ 3 := by
    intro l
    induction l with
    | nil => simp [PyData.depthAll]
    | cons k r ih =>
      have h1 := siD_dep (k, .no)
      simp only [siD, PyData.depth, PyData.depthAll] at h1
      simp only [List.map_cons, PyData.depthAll]
      omega
  refine shaped_mk (by simp only [PyData.canLay0]; exact lay h) ?_
  have := dep l
  simp only [PyData.depth]
  omega
theorem catA_all {K : PySem.W.Frag} {H : Hp} {a b : Addr} {xs ys : List V} {Q : VK} (ha : H a = some (.tup xs)) (hb : H b = some (.tup ys)) (hl : xs.length + ys.length ≤ sizeLine) (k : ∀ p H', Same H H' → H' p = some (.tup (xs ++ ys)) → Q (.ref p) H') : rCatA K (.ref a) (.ref b) H Q := by
  refine ⟨a, b, xs, ys, rfl, rfl, SqT.of ha, SqT.of hb, hl, fun e => ?_, fun _ e => ?_, fun _ _ p hp => k p _ (same_mk hp) upd_same⟩
  · exact k b H (Same.refl H) (by rw [e, List.nil_append]; exact hb)
  · exact k a H (Same.refl H) (by rw [e, List.append_nil]; exact ha)
theorem anK_inj {a b : An} (ha : AnW a) (hb : AnW b) (e : anK a = anK b) : a = b := by
  cases a <;> cases b <;> simp only [anK] at e <;> first | rfl | (cases e; done) | skip
  · injection e with e
    rw [e]
  · injection e with e
    rename_i l m
    have key : ∀ l m : List (Str × Bool), (l.map fun e => NestedKey.text (ent e.1 e.2)) = (m.map fun e => NestedKey.text (ent e.1 e.2)) → (l.map fun e => ent e.1 e.2) = (m.map fun e => ent e.1 e.2) := by
      intro l
      induction l with
      | nil => intro m h; cases m with
        | nil => rfl
        | cons y r => cases h
      | cons x r ih => intro m h; cases m with
        | nil => cases h
        | cons y t =>
          rw [List.map_cons, List.map_cons] at h ⊢
          injection h with h1 h2
          injection h1 with h1
          rw [h1, ih t h2]
    rw [ents_inj ha.1 hb.1 (key l m e)]
theorem keys_fresh {cs : Cs} {kk : Lk} (nd : (cs.map (·.1)).Nodup) (w : ∀ c ∈ cs, AnW c.1) {i : Nat} {a : An} {t : Tr} (hi : cs[i]? = some (a, t)) {α : Type} (v : α) : DA.kat ((cs.take i).map fun c => (anK c.1, v)) (anK a) = none := by
  refine DA.kat_none fun x hx e => ?_
  obtain ⟨c, hc, rfl⟩ := List.mem_map.mp hx
  have wa : AnW a := w (a, t) (List.mem_of_getElem? hi)
  have ea := anK_inj (w c (List.mem_of_mem_take hc)) wa e
  obtain ⟨j, hj⟩ := List.getElem?_of_mem hc
  have jl : j < i := by
    have := (List.getElem?_eq_some_iff.mp hj).1
    rw [List.length_take] at this
    omega
  rw [List.getElem?_take_of_lt jl] at hj
  have h1 : (cs.map (·.1))[j]? = some a := by rw [List.getElem?_map, hj, ← ea]; rfl
  have h2 : (cs.map (·.1))[i]? = some a := by rw [List.getElem?_map, hi]; rfl
  have := (List.getElem?_inj (List.getElem?_eq_some_iff.mp h1).1 nd).mp (h1.trans h2.symm)
  omega
theorem kput_new {α : Type} {xs : List (DA.NK × α)} {k : DA.NK} {f : α → α} {v : α} (h : DA.kat xs k = none) : DA.kput xs k f v = xs ++ [(k, v)] := by
  unfold DA.kput
  rw [if_neg]
  intro m
  obtain ⟨x, hx, e⟩ := List.mem_map.mp m
  unfold DA.kat at h
  rw [Option.map_eq_none_iff, List.find?_eq_none] at h
  exact h x hx (decide_eq_true e)
def spPT (n : Nat) : Sp := fun vs H Q _ => ∃ v pa aa t pl abv ab, vs = [v, .ref pa, .ref aa] ∧ TrIn H v t ∧ dep t < n ∧ H pa = some (.tup pl) ∧ pl.length + dep t ≤ 50 ∧ H aa = some (.tup abv) ∧ LksT H abv ab ∧ ab.length + dep t ≤ 50 ∧ OkT ab t ∧ (∀ k ∈ ab, LkW k) ∧
  ∀ r H', Same H H' → TrAt H' r t → Q r H'
section
variable {P : Program} {w : World} {K : PySem.W.Frag} {mg : Str → Option Value} {base : Heap}
theorem scPT : FnScope ["thing", "place", "above", "look", "known", "cases", "answers", "number", "case", "sight", "other"] ["thing", "place", "above"] (defScope sPT) := ⟨rfl, rfl, rfl, by decide +kernel, rfl, by decide +kernel, by decide +kernel⟩
theorem ok_pt {f fE fL fS fR : Addr} {fd fdE fdL fdS fdR : FuncData} (F : Fun K "plain_tree" "plain_tree" sPT f fd) (T : TB mg) (aPT : At K mg "plain_tree" f fd ["thing", "place", "above"]) (aIsE : At K mg "is_end" fE fdE ["thing"]) (GIsE : FnOk P w K mg base CX0 2 fE fdE ["thing"] spIE)
    (aLoA : At K mg "look_of_ask" fL fdL ["thing"]) (GLoA : FnOk P w K mg base CX0 6 fL fdL ["thing"] spLoA) (aAsSight : At K mg "as_sight" fS fdS ["thing"]) (GAsSight : FnOk P w K mg base CX0 6 fS fdS ["thing"] spAsSight)
    (aRow : At K mg "is_row" fR fdR ["thing", "size"]) (GRow : FnOk P w K mg base CX0 1 fR fdR ["thing", "size"] spRow) : ∀ n, FnOk P w K mg base CX0 (7 + n) f fd ["thing", "place", "above"] (spPT n) := by
  intro n
  induction n with
  | zero =>
    refine ⟨fun vs H Q E h => ?_, fun A outer s H args us vs Q E hr he hb hv h => ?_⟩
    · obtain ⟨v, pa, aa, t, pl, abv, ab, rfl, _⟩ := h
      rfl
    · obtain ⟨v, pa, aa, t, pl, abv, ab, _, _, hd, _⟩ := h
      exact absurd hd (Nat.not_lt_zero _)
  | succ n GPT =>
    refine F.ok scPT (fun vs H Q E h => ?_) (fun cdv A outer s H vs Q E hr h => ?_)
    · obtain ⟨v, pa, aa, t, pl, abv, ab, rfl, _⟩ := h
      rfl
    · obtain ⟨v, pa, aa, t, pl, abv, ab, rfl, ht, hd, hpa, hpl, haa, hab, hal, ok, aw, k⟩ := h
      have hu0 := hr.un
      have hu5 : (A.deeper (envOfC "plain_tree" (defScope sPT) s.heap.objs.size f cdv)).units + 65 < cLine := by omega
      have hu9 : (A.deeper (envOfC "plain_tree" (defScope sPT) s.heap.objs.size f cdv)).units + 9 < cLine := by omega
      have hrN : ∀ m, m ≤ 7 + n → Room m (A.deeper (envOfC "plain_tree" (defScope sPT) s.heap.objs.size f cdv)) := fun m h => hr.mono h
      refine ⟨_, pss_cons (ps_if (pt_val (pe_call GIsE (hrN _ (by omega)) rfl aIsE.m aIsE.k aIsE.b .nil pass0 (pa_cons (pv 0) pa_nil))) (pss_one (ps_ret (pe_tup (pa_cons pe_str (pa_cons (pe_ix ix_row (pv 0) pe_int (fun _ _ => rfl)) pa_nil))))) (pss_nil))
              (pss_cons (ps_set (i := 3) scPT.nd rfl (Or.inl rfl) (pe_call GLoA (hrN _ (by omega)) rfl aLoA.m aLoA.k aLoA.b .nil pass0 (pa_cons (pv 0) pa_nil)))
              (pss_cons (ps_if (PW.pt (pw_or (pt_cmp (pc_isN (pv 3))) (pw_or1 (pt_cmpR (EE.op_inT hu5) (pv 3) (pv 2) (by rfl))))) (pss_one (ps_never)) (pss_nil))
              (pss_cons (ps_set (i := 4) scPT.nd rfl (Or.inl rfl) (pe_op op_catA (pv 2) (pe_tup (pa_cons (pv 3) pa_nil))))
              (pss_cons (ps_set (i := 5) scPT.nd rfl (Or.inl rfl) (pe_lst pa_nil))
              (pss_cons (ps_set (i := 6) scPT.nd rfl (Or.inl rfl) (DA.pe_anewW (w := w) rfl))
              (pss_cons (ps_for PassesOwn.never rfl (EE.pi_enumE rfl T.enumerate (pe_ix ix_row (pv 0) pe_int (fun _ _ => rfl))) (pg_tup rfl (pgs_cons (pg_name (i := 7) scPT.nd rfl (Or.inl rfl)) (pgs_cons (pg_name (i := 8) scPT.nd rfl (Or.inl rfl)) pgs_nil))) (pss_cons (ps_set (i := 9) scPT.nd rfl (Or.inl rfl) (pe_ifExp (pt_val (pe_call GRow (hrN _ (by omega)) rfl aRow.m aRow.k aRow.b .nil pass0 (pa_cons (pv 8) (pa_cons pe_int pa_nil)))) (pe_call GAsSight (hrN _ (by omega)) rfl aAsSight.m aAsSight.k aAsSight.b .nil pass0 (pa_cons (pe_tup (pa_cons (pv 3) (pa_cons (pe_ix ix_row (pv 8) pe_int (fun _ _ => rfl)) pa_nil))) pa_nil)) pe_non))
              (pss_cons (ps_if (PW.pt (pw_or (pt_cmp (pc_isN (pv 9))) (pw_or1 (pt_cmp (DA.pc_ainW (w := w) rfl hu9 (pe_ix ix_tup (pv 9) pe_int (fun _ _ => rfl)) (pv 6)))))) (pss_one (ps_never)) (pss_nil))
              (pss_cons (DA.ps_aputW (w := w) rfl hu9 (pv 6) (pe_ix ix_tup (pv 9) pe_int (fun _ _ => rfl)) pe_bl rfl)
              (pss_one (ps_expr (pe_bm PySem.F.plainAttrs_list PySem.F.slot_list_append PySem.F.type_list_append mt_append (pv 5) (pa_cons (pe_tup (pa_cons (pe_ix ix_tup (pv 9) pe_int (fun _ _ => rfl)) (pa_cons (pe_call GPT (hrN _ (by omega)) rfl aPT.m aPT.k aPT.b .nil pass0 (pa_cons (pe_ix ix_row (pv 8) pe_int (fun _ _ => rfl)) (pa_cons (pe_op op_catA (pv 1) (pe_tup (pa_cons (pv 7) pa_nil))) (pa_cons (pv 4) pa_nil)))) pa_nil))) pa_nil))))))))
              (pss_cons (ps_set (i := 10) scPT.nd rfl (Or.inl rfl) (pe_call GPT (hrN _ (by omega)) rfl aPT.m aPT.k aPT.b .nil pass0 (pa_cons (pe_ix ix_row (pv 0) pe_int (fun _ _ => rfl)) (pa_cons (pe_op op_catA (pv 1) (pe_tup (pa_cons (pe_callB call_len_seq (by rfl) T.len PySem.boot_len (pa_cons (pv 5) pa_nil)) pa_nil))) (pa_cons (pv 4) pa_nil)))))
              (pss_one (ps_ret (pe_tup (pa_cons pe_str (pa_cons (pv 3) (pa_cons (pe_callTy call_tuple_of (by rfl) T.tuple (by decide +kernel) (pa_cons (pv 5) pa_nil)) (pa_cons (pv 10) pa_nil)))))))))))))), ?_⟩
      cases ht with
      | fin r =>
        refine ⟨_, rfl, v, _, rfl, .fin r, fun H1 s1 => ⟨_, rfl, iteT ?_⟩⟩
        refine ⟨_, rfl, _, 1, _, r.up s1, rfl, atI_nat (j := 1) rfl, by show 2 ≤ sizeLine; decide, fun p hp => ?_⟩
        exact k _ _ (s1.trans (same_mk hp)) (.fin upd_same)
      | @ask _ kv cv ov xs kk cs o r rk rc cc to =>
        obtain ⟨lok, nin, nd, cl, okc, oko⟩ := ok
        have dc : depC cs < n ∧ dep o < n := by
          have : max (depC cs) (dep o) + 1 < n + 1 := hd
          omega
        refine ⟨_, rfl, v, _, rfl, .ask r rk rc cc to, fun H1 s1 => ⟨_, rfl, iteF ?_⟩⟩
        refine ⟨_, rfl, v, kk, cs, o, rfl, .ask (r.up s1) (rk.up s1) (rc.up s1) (CsIn.up s1 cc) (TrIn.up s1 to), lok, fun lk H2 s2 hlk => ?_⟩
        have hpa2 := (s1.trans s2) _ _ hpa
        have haa2 := (s1.trans s2) _ _ haa
        have ab2 := hab.up (s1.trans s2)
        refine ⟨_, rfl, _, rfl, iteF ⟨_, rfl, _, rfl, lkD kk, ab.map lkD, lk_dp hlk, .tup (SqT.of haa2) (lksT_dp ab2), lkD_shaped (LkOk.w lok), ks_shapedT aw, ?_⟩⟩
        rw [any_lk (LkOk.w lok) aw, decide_eq_false nin]
        refine ⟨_, rfl, iteF ?_⟩
        refine ⟨_, rfl, _, rfl, by show 1 ≤ sizeLine; decide, fun t1 ht1 => ?_⟩
        have s3 := same_mk (o := .tup [.ref lk]) ht1
        have z2 : abv.length + 1 ≤ sizeLine := Nat.le_trans (show abv.length + 1 ≤ 51 by have := ab2.1; omega) (by decide)
        refine catA_all (s3 _ _ haa2) upd_same z2 fun kn H4 s4 hkn => ?_
        have s24 := s3.trans s4
        have s14 := (s1.trans s2).trans s24
        have abk : LksT H4 (abv ++ [.ref lk]) (ab ++ [kk]) := (ab2.up s24).snoc (s24 _ _ hlk)
        have hpa4 := s24 _ _ hpa2
        have hlk4 := s24 _ _ hlk
        have hr4 := r.up s14
        have hc4 := rc.up s14
        have cc4 := CsIn.up s14 cc
        have to4 := TrIn.up s14 to
        refine ⟨by show 0 ≤ sizeLine; decide, fun D hD => ?_⟩
        have s5 := same_mk (o := .lst []) hD
        refine fun d hd2 ha0 => ?_
        have s6 : Same H4 (upd (upd H4 D (.lst [])) d (DA.DO w d [])) := s5.trans (same_mk hd2)
        have dD : d ≠ D := fun z => by rw [z, upd_same] at hd2; cases hd2
        have hD6 : (upd (upd H4 D (.lst [])) d (DA.DO w d [])) D = some (.lst []) := by rw [upd_ne dD.symm, upd_same]
        have fD : H4 D = none := hD
        have fd0 : H4 d = none := s5.free hd2
        generalize upd (upd H4 D (.lst [])) d (DA.DO w d []) = H6 at s6 hD6 ha0 ⊢
        refine ⟨_, rfl, _, 2, _, hr4.up s6, rfl, atI_nat (j := 2) rfl, EE.for_enumE (hc4.up s6) (fun i σ H' => ∃ x7 x8 x9 x10 ys, σ = [some v, some (.ref pa), some (.ref aa), some (.ref lk), some (.ref kn), some (.ref D), some (.ref d), x7, x8, x9, x10] ∧ Same H4 H' ∧ H' D = some (.lst ys) ∧ CsAt H' ys (cs.take i) ∧ DA.HAt w H' d ((cs.take i).map fun c => (anK c.1, .bl true)))
          ⟨none, none, none, none, [], rfl, s6, hD6, .nil, ha0⟩ (fun i τ H' ⟨x7, x8, x9, x10, ys, _, s7, _⟩ a o e ho => ?_) ?_ ?_⟩
        · subst e
          obtain ⟨p, e, q⟩ := hc4
          cases e
          rcases q with q | q
          · have := s6 _ _ q
            rw [ho] at this
            cases this
            exact s7 _ _ q
          · have := s6 _ _ q
            rw [ho] at this
            cases this
            exact s7 _ _ q
        · rintro i x Tt _ H7 hi ⟨x7, x8, x9, x10, ys, rfl, s7, hD7, cy, hat⟩ hx hT
          obtain ⟨cl2, cat⟩ := csIn_at cc4
          obtain ⟨a, t, av, tv, hci, hrow, han, htr⟩ := cat i x hx
          have ic : i < cs.length := cl2 ▸ hi
          obtain ⟨sok, tok⟩ := okC_mem okc (a, t) (List.mem_of_getElem? hci)
          have sT := same_mk (o := .tup [.int (i : Nat), x]) hT
          refine ⟨Tt, _, rfl, SqT.of upd_same, rfl, _, _, rfl, _, _, rfl, rfl, ?_⟩
          have s8 := s7.trans sT
          have hD8 := sT _ _ hD7
          have cy8 := CsAt.up sT cy
          have hat8 := hat.same sT
          generalize upd H7 Tt (.tup [.int (i : Nat), x]) = H8 at s8 hD8 cy8 hat8 ⊢
          refine ⟨_, rfl, x, _, 2, rfl, hrow.up s8, fun H9 s9 => ⟨_, rfl, iteY rfl ?_⟩⟩
          have s49 := s8.trans s9
          refine ⟨_, rfl, _, rfl, _, 0, _, hrow.up s49, rfl, atI_nat (j := 0) rfl, by show 2 ≤ sizeLine; decide, fun tt htt => ?_⟩
          have sA := same_mk (o := .tup [.ref lk, av]) htt
          refine ⟨.ref tt, (kk, a), rfl, ⟨.ref lk, av, ⟨tt, rfl, .inl upd_same⟩, ⟨lk, rfl, .inl ((s49.trans sA) _ _ hlk4)⟩, han.up (s49.trans sA)⟩, sok.1, fun sv HB sB hsv => ?_⟩
          obtain ⟨t2, u2, va2, rfl, h2, hu2, ha2⟩ := hsv
          have s4B := (s49.trans sA).trans sB
          have s8B := (s9.trans sA).trans sB
          have hD9 := s8B _ _ hD8
          have hatB := hat8.same s8B
          have cyB := CsAt.up s8B cy8
          have kno : DA.kat ((cs.take i).map fun c => (anK c.1, V.bl true)) (anK a) = none := keys_fresh (kk := kk) nd (fun c hc => (okC_mem okc c hc).1.2.2) hci _
          refine ⟨_, rfl, _, rfl, iteF ⟨_, rfl, t2, _, 1, _, rfl, rfl, SqT.of h2, atI_nat (j := 1) rfl, _, rfl, d, _, anK a, rfl, hatB, an_key ha2, _, rfl, ?_⟩⟩
          rw [kno]
          refine iteF ?_
          have l1 : ((cs.take i).map fun c => (anK c.1, V.bl true)).length < sizeLine := by
            rw [List.length_map, List.length_take]
            exact Nat.lt_of_lt_of_le (show min i cs.length < 1000 by omega) (by decide)
          refine ⟨_, rfl, _, rfl, t2, _, 1, _, rfl, rfl, SqT.of h2, atI_nat (j := 1) rfl, d, _, anK a, rfl, hatB, an_key ha2, l1, fun rs hat2 => ?_⟩
          rw [show DA.aput _ (anK a) (V.bl true) = _ from kput_new kno] at hat2
          obtain ⟨rs0, hd0, _, _⟩ := id hatB
          have tupC : TupS HB (upd HB d (DA.DO w d rs)) := fun b xs e => by
            rw [upd_ne (ne_of e hd0 fun z => DA.do_ne xs z.symm)]
            exact e
          have s4C : Same H4 (upd HB d (DA.DO w d rs)) := fun b o e => by
            rw [upd_ne fun z => by rw [z, fd0] at e; cases e]
            exact s4B _ _ e
          have hDC : upd HB d (DA.DO w d rs) D = some (.lst ys) := by rw [upd_ne dD.symm]; exact hD9
          have cyC := CsAt.tup tupC cyB
          have h2C := tupC _ _ h2
          have ha2C := AnAt.tup ha2 tupC
          generalize upd HB d (DA.DO w d rs) = HC at s4C hDC cyC h2C ha2C hat2 ⊢
          refine ⟨_, rfl, .inl ⟨rfl, _, SqL.of hDC⟩, _, rfl, t2, _, 1, _, rfl, rfl, SqT.of h2C, atI_nat (j := 1) rfl, ?_⟩
          refine ⟨_, rfl, _, 1, _, hrow.up s4C, rfl, atI_nat (j := 1) rfl, _, rfl, _, rfl, by show 1 ≤ sizeLine; decide, fun tn htn => ?_⟩
          have sD := same_mk (o := .tup [.int (i : Nat)]) htn
          have pl1 : pl.length + 1 ≤ sizeLine := Nat.le_trans (show pl.length + 1 ≤ 51 by omega) (by decide)
          refine catA_all ((s4C.trans sD) _ _ hpa4) upd_same pl1 fun pp HD sD2 hpp => ?_
          have sCD := sD.trans sD2
          have s4D := s4C.trans sCD
          have dt : dep t < n ∧ pl.length + 1 + dep t ≤ 50 ∧ ab.length + 1 + dep t ≤ 50 := by
            have h1 := depC_mem (a, t) (List.mem_of_getElem? hci)
            have h2 : dep (Tr.ask kk cs o) = max (depC cs) (dep o) + 1 := by simp [dep]
            have h3 : dep t ≤ depC cs := h1
            rw [h2] at hpl hal
            omega
          refine ⟨_, rfl, tv, pp, kn, t, _, _, _, rfl, htr.up s4D, dt.1, hpp, by rw [List.length_append]; exact dt.2.1, s4D _ _ hkn, abk.up s4D, by rw [List.length_append]; exact dt.2.2, tok, fun j hj => ?_, fun rv HE sE hrv => ?_⟩
          · rcases List.mem_append.mp hj with z | z
            · exact aw j z
            · rw [List.mem_singleton.mp z]
              exact LkOk.w lok
          · have sCE := sCD.trans sE
            refine ⟨by show 2 ≤ sizeLine; decide, fun p hp => ?_⟩
            have sF := same_mk (o := .tup [va2, rv]) hp
            have sCF := sCE.trans sF
            have hDF := sCF _ _ hDC
            have yl : ys.length ≤ 1000 := by
              rw [(csAt_at cyC).1, List.length_take]
              omega
            refine ⟨D, ys, .ref p, rfl, rfl, hDF, Nat.lt_of_le_of_lt yl (by decide), ?_⟩
            have gp := upd_same (H := HE) (a := p) (o := .tup [va2, rv])
            have arv := TrAt.up sF hrv
            have cyF := CsAt.up sCF cyC
            have haF := AnAt.up ha2C sCF
            have hatF := hat2.same sCF
            have s4F := s4C.trans sCF
            generalize upd HE p (.tup [va2, rv]) = HF at hDF gp arv cyF haF hatF s4F ⊢
            have tupD : TupS HF (upd HF D (.lst (ys ++ [.ref p]))) := tupS_put hDF (by intro xs z; cases z)
            have etk : cs.take (i + 1) = cs.take i ++ [(a, t)] := by rw [List.take_succ, hci]; rfl
            refine ⟨_, _, _, _, ys ++ [.ref p], rfl, fun b o e => ?_, upd_same, ?_, ?_⟩
            · rw [upd_ne fun z => by rw [z, fD] at e; cases e]
              exact s4F _ _ e
            · rw [etk]
              exact csAt_snoc (tupD _ _ gp) (AnAt.tup haF tupD) (TrAt.tup tupD arv) (CsAt.tup tupD cyF)
            · rw [etk, List.map_append]
              exact hatF.keep (fun rs e => by rw [upd_ne dD]; exact e) fun b xs e => tupD b xs e
        · rintro _ H7 ⟨x7, x8, x9, x10, ys, rfl, s7, hD7, cy, hat⟩
          have el : (CsIn H4 xs cs) := cc4
          rw [(csIn_at cc4).1, List.take_length] at cy
          have yl := (csAt_at cy).1
          refine ⟨_, rfl, _, 3, _, hr4.up s7, rfl, atI_nat (j := 3) rfl, _, rfl, _, rfl, D, ys, rfl, .inl (SqL.of hD7), by show 1 ≤ sizeLine; decide, fun tn htn => ?_⟩
          have sD := same_mk (o := .tup [.int (ys.length : Int)]) htn
          have pl1 : pl.length + 1 ≤ sizeLine := Nat.le_trans (show pl.length + 1 ≤ 51 by omega) (by decide)
          refine catA_all ((s7.trans sD) _ _ hpa4) upd_same pl1 fun pp H8 s8 hpp => ?_
          have s78 := sD.trans s8
          have s48 := s7.trans s78
          have dt : pl.length + 1 + dep o ≤ 50 ∧ ab.length + 1 + dep o ≤ 50 := by
            have h2 : dep (Tr.ask kk cs o) = max (depC cs) (dep o) + 1 := by simp [dep]
            rw [h2] at hpl hal
            omega
          refine ⟨_, rfl, ov, pp, kn, o, _, _, _, rfl, to4.up s48, dc.2, hpp, by rw [List.length_append]; exact dt.1, s48 _ _ hkn, abk.up s48, by rw [List.length_append]; exact dt.2, oko, fun j hj => ?_, fun rv H9 s9 hrv => ?_⟩
          · rcases List.mem_append.mp hj with z | z
            · exact aw j z
            · rw [List.mem_singleton.mp z]
              exact LkOk.w lok
          · have s79 := s78.trans s9
            refine ⟨_, rfl, _, rfl, D, ys, rfl, .inl ⟨SqL.of (s79 _ _ hD7), fun cp hcp => ⟨_, rfl, by show 4 ≤ sizeLine; decide, fun q hq => ?_⟩⟩⟩
            have sE := same_mk (o := .tup ys) hcp
            have sF := same_mk (o := .tup [.str "ask", .ref lk, .ref cp, rv]) hq
            have sEF := sE.trans sF
            refine k _ _ ((s14.trans s7).trans (s79.trans sEF)) (.ask upd_same ((s7.trans (s79.trans sEF)) _ _ hlk4) (sF _ _ upd_same) (CsAt.up (s79.trans sEF) cy) (TrAt.up sEF hrv))
end
end T6

set_option maxHeartbeats 3900000
namespace T6
open PySem PySem.Spec PyProof.Rows L2 TL
open C8 (pss_cut tCut pe_gc)
open CB XW LE LR
def DKeep (w : World) (N : Addr → Prop) (H H' : Hp) : Prop := ∀ b rs, N b → H b = some (DA.DO w b rs) → H' b = some (DA.DO w b rs)
mutual
/-- a tree with a dict for the cases of each ask; N holds of each dict -/
inductive UAt (w : World) (N : Addr → Prop) (H : Hp) : V → Tr → Prop
  | fin {p : Addr} {z : Str} (r : H p = some (.tup [.str "end", .str z])) : UAt w N H (.ref p) (.fin z)
  | ask {p kp d : Addr} {ov : V} {kvs : List (DA.NK × V)} {k : Lk} {cs : Cs} {o : Tr} (r : H p = some (.tup [.str "ask", .ref kp, .ref d, ov])) (rk : H kp = some (.tup (lkV k))) (hn : N d) (hd : DA.HAt w H d kvs) (c : CsU w N H kvs cs) (t : UAt w N H ov o) : UAt w N H (.ref p) (.ask k cs o)
inductive CsU (w : World) (N : Addr → Prop) (H : Hp) : List (DA.NK × V) → Cs → Prop
  | nil : CsU w N H [] []
  | cons {v : V} {kvs : List (DA.NK × V)} {a : An} {t : Tr} {cs : Cs} (h : UAt w N H v t) (c : CsU w N H kvs cs) : CsU w N H ((anK a, v) :: kvs) ((a, t) :: cs)
end
mutual
theorem UAt.go {w : World} {N M : Addr → Prop} {H H' : Hp} (s : TupS H H') (e : DKeep w N H H') (nm : ∀ b, N b → M b) : ∀ {v : V} {t : Tr}, UAt w N H v t → UAt w M H' v t
  | _, _, .fin r => .fin (s _ _ r)
  | _, _, .ask r rk hn hd c t => .ask (s _ _ r) (s _ _ rk) (nm _ hn) (hd.keep (fun rs q => e _ rs hn q) fun b xs q => s b xs q) (CsU.go s e nm c) (UAt.go s e nm t)
theorem CsU.go {w : World} {N M : Addr → Prop} {H H' : Hp} (s : TupS H H') (e : DKeep w N H H') (nm : ∀ b, N b → M b) : ∀ {v : List (DA.NK × V)} {t : Cs}, CsU w N H v t → CsU w M H' v t
  | _, _, .nil => .nil
  | _, _, .cons h c => .cons (UAt.go s e nm h) (CsU.go s e nm c)
end
theorem dkeep_same {w : World} {N : Addr → Prop} {H H' : Hp} (s : Same H H') : DKeep w N H H' := fun b _ _ h => s b _ h
theorem CsU.up {w : World} {N : Addr → Prop} {H H' : Hp} (s : Same H H') {v : List (DA.NK × V)} {t : Cs} (h : CsU w N H v t) : CsU w N H' v t := h.go (TupS.of s) (dkeep_same s) fun _ x => x
theorem csU_snoc {w : World} {N : Addr → Prop} {H : Hp} {v : V} {a : An} {t : Tr} (h : UAt w N H v t) : ∀ {kvs : List (DA.NK × V)} {cs : Cs}, CsU w N H kvs cs → CsU w N H (kvs ++ [(anK a, v)]) (cs ++ [(a, t)])
  | _, _, .nil => .cons h .nil
  | _, _, .cons h1 c => .cons h1 (csU_snoc h c)
theorem csU_keys {w : World} {N : Addr → Prop} {H : Hp} : ∀ {kvs : List (DA.NK × V)} {cs : Cs}, CsU w N H kvs cs → kvs.map (·.1) = cs.map fun c => anK c.1
  | _, _, .nil => rfl
  | _, _, .cons h c => by
    rw [List.map_cons, List.map_cons, csU_keys c]
theorem csU_fresh {w : World} {N : Addr → Prop} {H : Hp} {cs : Cs} {kk : Lk} (nd : (cs.map (·.1)).Nodup) (wd : ∀ c ∈ cs, AnW c.1) {i : Nat} {a : An} {t : Tr} (hi : cs[i]? = some (a, t)) {kvs : List (DA.NK × V)} (c : CsU w N H kvs (cs.take i)) : DA.kat kvs (anK a) = none := by
  refine DA.kat_none fun x hx e => ?_
  have m : x.1 ∈ kvs.map (·.1) := List.mem_map.mpr ⟨x, hx, rfl⟩
  rw [csU_keys c] at m
  obtain ⟨c, hc, e2⟩ := List.mem_map.mp m
  have wa : AnW a := wd (a, t) (List.mem_of_getElem? hi)
  have ea := anK_inj (wd c (List.mem_of_mem_take hc)) wa (e2.trans e)
  obtain ⟨j, hj⟩ := List.getElem?_of_mem hc
  have jl : j < i := by
    have := (List.getElem?_eq_some_iff.mp hj).1
    rw [List.length_take] at this
    omega
  rw [List.getElem?_take_of_lt jl] at hj
  have h1 : (cs.map (·.1))[j]? = some a := by rw [List.getElem?_map, hj, ← ea]; rfl
  have h2 : (cs.map (·.1))[i]? = some a := by rw [List.getElem?_map, hi]; rfl
  have := (List.getElem?_inj (List.getElem?_eq_some_iff.mp h1).1 nd).mp (h1.trans h2.symm)
  omega
theorem csU_len {w : World} {N : Addr → Prop} {H : Hp} : ∀ {kvs : List (DA.NK × V)} {cs : Cs}, CsU w N H kvs cs → kvs.length = cs.length
  | _, _, .nil => rfl
  | _, _, .cons h c => by
    rw [List.length_cons, List.length_cons, csU_len c]
def spUn (w : World) (n : Nat) : Sp := fun vs H Q _ => ∃ v t ab, vs = [v] ∧ TrAt H v t ∧ dep t < n ∧ OkT ab t ∧ ∀ r H', Same H H' → UAt w (fun b => H b = none) H' r t → Q r H'
section
variable {P : Program} {w : World} {K : PySem.W.Frag} {mg : Str → Option Value} {base : Heap}
theorem scUn : FnScope ["tree", "look", "cases", "other", "parts", "answer", "part"] ["tree"] (defScope sUn) := ⟨rfl, rfl, rfl, by decide +kernel, rfl, by decide +kernel, by decide +kernel⟩
theorem ok_un {f : Addr} {fd : FuncData} (F : Fun K "unordered" "unordered" sUn f fd) (T : TB mg) (aUn : At K mg "unordered" f fd ["tree"]) : ∀ n, FnOk P w K mg base CX0 n f fd ["tree"] (spUn w n) := by
  intro n
  induction n with
  | zero =>
    refine ⟨fun vs H Q E h => ?_, fun A outer s H args us vs Q E hr he hb hv h => ?_⟩
    · obtain ⟨v, t, ab, rfl, _⟩ := h
      rfl
    · obtain ⟨v, t, ab, _, _, hd, _⟩ := h
      exact absurd hd (Nat.not_lt_zero _)
  | succ n GUn =>
    refine F.ok scUn (fun vs H Q E h => ?_) (fun cdv A outer s H vs Q E hr h => ?_)
    · obtain ⟨v, t, ab, rfl, _⟩ := h
      rfl
    · obtain ⟨v, t, ab, rfl, ht, hd, ok, k⟩ := h
      have hu := hr.un
      have hu9 : (A.deeper (envOfC "unordered" (defScope sUn) s.heap.objs.size f cdv)).units + 9 < cLine := by omega
      have hrN : ∀ m, m ≤ n → Room m (A.deeper (envOfC "unordered" (defScope sUn) s.heap.objs.size f cdv)) := fun m h => hr.mono h
      refine ⟨_, pss_cons (ps_if (pt_cmpR op_eq (pe_ix ix_tup (pv 0) pe_int (fun _ _ => rfl)) pe_str (nomark _)) (pss_one (ps_ret (pv 0))) (pss_nil))
              (pss_cons (ps_asg (pe_slice sl_tup (pv 0) (po_some pe_int) po_none) (pg_tup rfl (pgs_cons (pg_name (i := 1) scUn.nd rfl (Or.inl rfl)) (pgs_cons (pg_name (i := 2) scUn.nd rfl (Or.inl rfl)) (pgs_cons (pg_name (i := 3) scUn.nd rfl (Or.inl rfl)) pgs_nil)))))
              (pss_cons (ps_set (i := 4) scUn.nd rfl (Or.inl rfl) (DA.pe_anewW (w := w) rfl))
              (pss_cons (ps_for PassesOwn.never rfl (pi_tup (pv 2)) (pg_tup rfl (pgs_cons (pg_name (i := 5) scUn.nd rfl (Or.inl rfl)) (pgs_cons (pg_name (i := 6) scUn.nd rfl (Or.inl rfl)) pgs_nil))) (pss_one (DA.ps_aputW (w := w) rfl hu9 (pv 4) (pv 5) (pe_call GUn (hrN _ (by omega)) rfl aUn.m aUn.k aUn.b .nil pass0 (pa_cons (pv 6) pa_nil)) rfl)))
              (pss_one (ps_ret (pe_tup (pa_cons pe_str (pa_cons (pv 1) (pa_cons (pv 4) (pa_cons (pe_call GUn (hrN _ (by omega)) rfl aUn.m aUn.k aUn.b .nil pass0 (pa_cons (pv 3) pa_nil)) pa_nil)))))))))), ?_⟩
      cases ht with
      | @fin p z r =>
        exact ⟨_, rfl, p, _, 0, _, rfl, rfl, SqT.of r, atI_nat (j := 0) rfl, rfl, _, rfl, iteT ⟨_, rfl, k _ H (Same.refl H) (.fin r)⟩⟩
      | @ask p kp cp ov xs kk cs o r rk rc cc to =>
        obtain ⟨lok, nin, nd, cl, okc, oko⟩ := ok
        have dc : depC cs < n ∧ dep o < n := by
          have : max (depC cs) (dep o) + 1 < n + 1 := hd
          omega
        refine ⟨_, rfl, p, _, 0, _, rfl, rfl, SqT.of r, atI_nat (j := 0) rfl, rfl, _, rfl, iteF ?_⟩
        refine ⟨_, rfl, 1, rfl, p, _, rfl, SqT.of r, fun z => absurd z.1 (by decide : ¬ HT.sIx 4 0 (some 1) = 0), fun q hq => ?_⟩
        have s1 := same_mk (o := .tup [.ref kp, .ref cp, ov]) hq
        show gTup _ 3 _ _ _ (upd H q (.tup [.ref kp, .ref cp, ov])) _
        refine ⟨q, _, rfl, SqT.of (xs := [.ref kp, .ref cp, ov]) upd_same, rfl, ?_⟩
        refine ⟨_, _, rfl, _, _, rfl, _, _, rfl, rfl, fun d hd2 ha0 => ?_⟩
        have hd3 : H d = none := s1.free hd2
        have s2 := s1.trans (same_mk (o := DA.DO w d []) hd2)
        generalize upd (upd H q (.tup [.ref kp, .ref cp, ov])) d (DA.DO w d []) = H2 at s2 ha0 ⊢
        obtain ⟨cl2, cat⟩ := csAt_at cc
        refine ⟨_, rfl, cp, rfl, ⟨_, SqT.of (s2 _ _ rc)⟩, for_tup (xs := xs) (fun i σ H' => ∃ x5 x6 kvs, σ = [some (.ref p), some (.ref kp), some (.ref cp), some ov, some (.ref d), x5, x6] ∧ Same H H' ∧ DA.HAt w H' d kvs ∧ CsU w (fun b => b ≠ d ∧ H b = none) H' kvs (cs.take i))
          ⟨none, none, [], rfl, s2, ha0, .nil⟩ (fun i σ H' _ ⟨_, _, _, _, s3, _⟩ => SqT.of (s3 _ _ rc)) ?_ ?_⟩
        · rintro i x σ H3 hx ⟨x5, x6, kvs, rfl, s3, hat, cu⟩
          obtain ⟨a, t, tp, av, tv, hci, rfl, htp, han, htr⟩ := cat i x hx
          refine ⟨tp, _, rfl, SqT.of (s3 _ _ htp), rfl, _, _, rfl, _, _, rfl, rfl, ?_⟩
          obtain ⟨sok, tok⟩ := okC_mem okc (a, t) (List.mem_of_getElem? hci)
          have h3 : dep t ≤ depC cs := depC_mem (a, t) (List.mem_of_getElem? hci)
          refine ⟨_, rfl, tv, t, _, rfl, htr.up s3, by omega, tok, fun rv H4 s4 hrv => ?_⟩
          have hat4 := hat.same s4
          have cu4 := CsU.up s4 cu
          have kno := csU_fresh (kk := kk) nd (fun c hc => (okC_mem okc c hc).1.2.2) hci cu4
          have l1 : kvs.length < sizeLine := by
            rw [csU_len cu, List.length_take]
            exact Nat.lt_of_lt_of_le (show min i cs.length < 1000 by omega) (by decide)
          refine ⟨_, rfl, _, rfl, d, kvs, anK a, rfl, hat4, an_key (AnAt.up han (s3.trans s4)), l1, fun rs hat5 => ?_⟩
          rw [show DA.aput kvs (anK a) rv = _ from kput_new kno] at hat5
          obtain ⟨rs0, hdo, _, _⟩ := id hat4
          have s35 : Same H (upd H4 d (DA.DO w d rs)) := fun b o e => by
            rw [upd_ne fun z => by rw [z, hd3] at e; cases e]
            exact (s3.trans s4) _ _ e
          have tup5 : TupS H4 (upd H4 d (DA.DO w d rs)) := fun b xs e => by
            rw [upd_ne (ne_of e hdo fun z => DA.do_ne xs z.symm)]
            exact e
          have dk {N : Addr → Prop} (hN : ∀ b, N b → b ≠ d) : DKeep w N H4 (upd H4 d (DA.DO w d rs)) := fun b rs nb e => by
            rw [upd_ne (hN b nb)]
            exact e
          refine ⟨_, _, kvs ++ [(anK a, rv)], rfl, s35, hat5, ?_⟩
          rw [show cs.take (i + 1) = cs.take i ++ [(a, t)] by rw [List.take_succ, hci]; rfl]
          have nd3 : ∀ b, H3 b = none → b ≠ d ∧ H b = none := fun b hb => by
            refine ⟨fun z => ?_, s3.free hb⟩
            obtain ⟨_, g, _⟩ := id hat
            rw [z, g] at hb
            cases hb
          exact csU_snoc (UAt.go tup5 (dk fun b hb => (nd3 b hb).1) nd3 hrv) (CsU.go tup5 (dk fun b hb => hb.1) (fun _ x => x) cu4)
        · rintro _ H3 ⟨x5, x6, kvs, rfl, s3, hat, cu⟩
          rw [cl2, List.take_length] at cu
          refine ⟨_, rfl, _, rfl, _, rfl, ov, o, _, rfl, to.up s3, dc.2, oko, fun rv H4 s4 hrv => ⟨by show 4 ≤ sizeLine; decide, fun u hu => ?_⟩⟩
          have s5 := s4.trans (same_mk (o := .tup [.str "ask", .ref kp, .ref d, rv]) hu)
          have su := same_mk (o := .tup [.str "ask", .ref kp, .ref d, rv]) hu
          have s35 := s3.trans s5
          refine k _ _ s35 (.ask upd_same (s35 _ _ rk) hd3 (hat.same s5) (CsU.go (TupS.of s5) (dkeep_same s5) (fun b hb => hb.2) cu) (UAt.go (TupS.of su) (dkeep_same su) (fun b hb => s3.free hb) hrv))
end
end T6

set_option maxHeartbeats 3900000
namespace SX
open PySem PySem.Spec PyProof.Rows L2 PpSet
def textOf : Value → Str
  | .str x _ => x
  | _ => ""
abbrev txs (es : Array (Int × Value)) : List Str := es.toList.map fun e => textOf e.2
structure Tab (w : World) (es : Array (Int × Value)) (t : SetTable) (S : Str → Bool) (n : Nat) : Prop where
  good : ∀ e ∈ es.toList, ∃ x k, e = (keyH w (.inr x), Value.str x k)
  nd : (txs es).Nodup
  mem : ∀ x, S x = true ↔ x ∈ txs es
  small : es.size < scanBound
  fits : t.fits es.size = true
  size : es.size = n
  ris : Ris t.place.toList
  led : w.params.followText "set-order" = true ∨ t.led = true
def SetT (w : World) (h : Heap) (a : Addr) (S : Str → Bool) (n : Nat) : Prop := ∃ o es ep t, h.get? a = some o ∧ o.ExactSet ∧ o.data = .set es ep t ∧ Tab w es t S n
theorem SetT.at {w : World} {h h' : Heap} {a : Addr} {S : Str → Bool} {n : Nat} (R : SetT w h a S n) (k : ∀ o, h.get? a = some o → h'.get? a = some o) : SetT w h' a S n := by
  obtain ⟨o, es, ep, t, ho, r⟩ := R
  exact ⟨o, es, ep, t, k o ho, r⟩
section
variable {P : Program} {w : World} {es : Array (Int × Value)} {t : SetTable} {S : Str → Bool} {n : Nat}
theorem Tab.moved (T : Tab w es t S n) {es2 : Array (Int × Value)} {t2 : SetTable} (pm : es2.toList.Perm es.toList) (f : t2.fits es2.size = true) (r : Ris t2.place.toList) (l : t2.led = t.led) : Tab w es2 t2 S n := by
  have hs : es2.size = es.size := by rw [← Array.length_toList, pm.length_eq, Array.length_toList]
  exact ⟨fun e he => T.good e (pm.mem_iff.mp he), (pm.map _).nodup_iff.mpr T.nd, fun x => (T.mem x).trans (pm.map _).mem_iff.symm, by rw [hs]; exact T.small, f, by rw [hs]; exact T.size, r, T.led.imp id fun z => by rw [l]; exact z⟩
end
section
variable {P : Program} {w : World} {A : Around} {E : Value → Shared → Prop} {s : Shared} {a : Addr} {S : Str → Bool} {n : Nat}
theorem put_at {h : Heap} {o : Obj} {es es' : Array (Int × Value)} {ep : Nat} {t t' : SetTable} (ho : h.get? a = some o) (hd : o.data = .set es ep t) : (h.update a (Obj.putSet es' t')).get? a = some { o with data := .set es' (ep + 1) t' } := storeB_at ho hd
theorem tail {g : Bool → Sem Unit} (hg : ∀ (b : Bool) (s₁ : Shared) (Q' : Unit → Shared → Prop), Q' () s₁ → wpAny (model P w) A (g b) Q' E s₁) {o : Obj} {es : Array (Int × Value)} {ep : Nat} {t : SetTable} (ho : s.heap.get? a = some o) (hex : o.ExactSet) (hd : o.data = .set es ep t)
    {es1 : Array (Int × Value)} {t2 : SetTable} (T : Tab w es1 t2 S n) {wd : Bool} {R : Option Bool → Shared → Prop} (hR : ∀ h', Heap.SameBut a s.heap h' → SetT w h' a S n → R (some true) { s with heap := h' }) :
    wpAny (model P w) A (do
      storeSet a es1 t2
      if (!wd && t2.tooFull) = true then
        (do g (relayAll t2 es1
              (SetTable.grown es1.size)).2.2
            storeSet a (relayAll t2 es1
              (SetTable.grown es1.size)).1 (relayAll t2 es1
              (SetTable.grown es1.size)).2.1
            pure (some true))
      else pure (some true)) R E s := by
  refine wpAny_bind (wpAny_storeSet_of ho hd ?_ (fits_of_scanBound T.small))
  have ho1 := put_at (es' := es1) (t' := t2) ho hd
  have sb1 := Heap.SameBut.update s.heap a (Obj.putSet es1 t2)
  split
  · have T3 := T.moved (relayAll_perm t2 es1 (SetTable.grown es1.size)) (relayAll_fits ..) (relayAll_ris ..) (relayAll_led ..)
    refine wpAny_bind (hg _ _ _ (wpAny_bind (wpAny_storeSet_of ho1 rfl ?_ (fits_of_scanBound T3.small))))
    exact wpAny_pure (hR _ (sb1.trans (Heap.SameBut.update _ a _)) ⟨_, _, _, _, put_at ho1 rfl, hex, rfl, T3⟩)
  · exact wpAny_pure (hR _ sb1 ⟨_, _, _, _, ho1, hex, rfl, T⟩)
theorem fresh {h : Heap} (w : World) : SetT w (h.push { cls := .type "set", dict := none, data := .set #[] 0 (.fresh 0 0 (!w.params.followText "set-order")) }) h.objs.size (fun _ => false) 0 := by
  refine ⟨_, #[], 0, _, Heap.get?_push_size _ rfl, ⟨rfl, rfl, rfl⟩, rfl, (fun e he => by simp at he), by simp [txs], (fun k => by simp [txs]), by decide, by rfl, rfl, List.Pairwise.nil, ?_⟩
  show _ ∨ (!w.params.followText "set-order") = true
  cases w.params.followText "set-order"
  · exact .inr rfl
  · exact .inl rfl
end
def SetTO (w : World) (a : Addr) (S : Str → Bool) (n : Nat) : HO := .ext fun h => SetT w h a S n
section
variable {X : Cx} {pins : List (Addr × Obj)} {σ : L2.St} {H : Hp} {s : Shared} {a : Addr} {S : Str → Bool} {n : Nat}
theorem get (I : Inv X pins σ H s) (ha : H a = some (SetTO X.w a S n)) : SetT X.w s.heap a S n := (I.hok a _ ha).1
end
section
variable {X : Cx}
end
end SX

set_option maxHeartbeats 3900000
namespace SX
open PySem PySem.Spec PyProof.Rows L2 PpSet
section
variable {X : Cx} {elt tg iter : Expr} {ifs : List Expr} {scope : Scope} {own : List (PySem.Str × Nat)} {pos : Pos} {wi : TI} {g : TG} {tt : TT} {te : TE}
end
end SX

set_option maxHeartbeats 3900000
namespace T6
open PySem PySem.Spec PyProof.Rows L2 TL
open C8 (pss_cut tCut pe_gc)
open CB
section
variable {P : Program} {w : World} {K : PySem.W.Frag} {mg : Str → Option Value} {base : Heap}
end
end T6

set_option maxHeartbeats 3900000
namespace T6
open PySem PySem.Spec PyProof.Rows L2 TL
open C8 (pss_cut tCut pe_gc)
open CB
section
variable {α : Type} {J : It} {n : Nat} {G : Hp → Prop} {Y : Nat → Hp → V → Hp → Prop} {tt : TT} {te : TE} {σ : L2.St} {H1 : Hp} {D : Addr} {Qd : Hp → Prop} {j : Nat}
theorem lcFM (w : Walk J n G Y) (zs : List α) (u g : α → V) (f : α → Bool) (hn : zs.length = n) (hs : n < 1000000) (hY : ∀ i H x H', Y i H x H' → H' = H ∧ (zs.map u)[i]? = some x) (hD : H1 D = none) (hG : ∀ H', Same H1 H' → G H')
    (test : ∀ z ∈ zs, ∀ (H2 : Hp), Same H1 H2 → ∀ Q1 : Bool → Hp → Prop, (∀ H3, Same H2 H3 → Q1 (f z) H3) → tt ((wipe σ [j]).set j (some (u z))) H2 Q1)
    (elt : ∀ z ∈ zs, f z = true → ∀ (H2 : Hp), Same H1 H2 → ∀ Q1 : VK, (∀ H3, Same H2 H3 → Q1 (g z) H3) → te ((wipe σ [j]).set j (some (u z))) H2 Q1)
    (hd : ∀ H', Same H1 H' → H' D = some (.lst ((zs.filter f).map g)) → Qd H') :
    ∃ W : Nat → Nat → Hp → Prop, (∃ m, W 0 m (upd H1 D (.lst []))) ∧ ∀ i m H, W i m H →
      (J.stop i H ∧ Qd H) ∨ (J.go i H ∧ ∃ Nx : Hp → Prop, (∀ H', Nx H' → ∃ m', m' < m ∧ W (i + 1) m' H') ∧ ∀ x H', J.yld i H x H' → gName j x (wipe σ [j]) H' fun σ2 H2 => wipe σ2 [j] = wipe σ [j] ∧ tt σ2 H2 fun b H3 =>
        if b = true then te σ2 H3 fun y H4 => ∃ acc, H4 D = some (.lst acc) ∧ acc.length < sizeLine ∧ Nx (upd H4 D (.lst (acc ++ [y]))) else Nx H3) := by
  subst hn
  refine lc_it w (fun i H' => Same H1 H' ∧ H' D = some (.lst (((zs.take i).filter f).map g))) ⟨same_mk hD, upd_same⟩ (fun i H' _ q => hG H' q.1) ?_ ?_
  · rintro i x H2 H3 hi ⟨s2, hd2⟩ y
    obtain ⟨rfl, hx⟩ := hY i H2 x H3 y
    rw [List.getElem?_map, List.getElem?_eq_getElem hi] at hx
    cases hx
    have hm : zs[i] ∈ zs := List.getElem_mem hi
    have tk : zs.take (i + 1) = zs.take i ++ [zs[i]] := by
      rw [List.take_succ, List.getElem?_eq_getElem hi]
      rfl
    refine ⟨wipe1 _, test zs[i] hm _ s2 _ fun H4 s4 => ?_⟩
    cases hf : f zs[i] with
    | true =>
      refine iteT (elt _ hm hf _ (s2.trans s4) _ fun H5 s5 => ⟨_, s5 _ _ (s4 _ _ hd2), ?_, same_ch ((s2.trans s4).trans s5) hD, ?_⟩)
      · rw [List.length_map]
        have h1 := List.length_filter_le f (zs.take i)
        rw [List.length_take] at h1
        exact Nat.lt_of_lt_of_le (show _ < 1000000 by omega) (by decide)
      · rw [upd_same, tk, List.filter_append, List.filter_cons_of_pos hf, List.filter_nil, List.map_append]
        rfl
    | false =>
      refine iteF ⟨s2.trans s4, ?_⟩
      rw [tk, List.filter_append, List.filter_cons_of_neg (by rw [hf]; decide), List.filter_nil, List.append_nil]
      exact s4 _ _ hd2
  · rintro H' ⟨s, h⟩
    rw [List.take_length] at h
    exact hd H' s h
end
end T6

set_option maxHeartbeats 3900000
namespace T6
open PySem PySem.Spec PyProof.Rows L2 TL
open C8 (pss_cut tCut pe_gc)
open CB
section
variable {P : Program} {w : World} {K : PySem.W.Frag} {mg : Str → Option Value} {base : Heap}
end
end T6

set_option maxHeartbeats 3900000
namespace T6
open PySem PySem.Spec PyProof.Rows L2 TL
open C8 (pss_cut tCut pe_gc)
open CB
section
variable {u v t : V}
end
section
variable {P : Program} {w : World} {K : PySem.W.Frag} {mg : Str → Option Value} {base : Heap} {C : Addr}
end
end T6

set_option maxHeartbeats 3900000
namespace EN
open PySem PySem.Spec PyProof.Rows L2
def rEqNil (K : PySem.W.Frag) : R2 := fun x y H Q => ∃ a b xs, x = .ref a ∧ y = .ref b ∧ SqL K H a xs ∧ SqL K H b [] ∧ Q (.bl xs.isEmpty) H
theorem op_eqNil {X : Cx} (hu : X.A.units < cLine) : OpR X (compareOp .Eq) (rEqNil X.K) := by
  intro pins s σ H x y v u Q I rx ry h
  obtain ⟨a, b, xs, rfl, rfl, ha, hb, q⟩ := h
  cases rx
  cases ry
  obtain ⟨its, rv, pl, hz⟩ := I.list ha
  obtain ⟨its2, rv2, pl2, hz2⟩ := I.list hb
  cases rv2
  cases xs with
  | nil =>
    cases rv
    have r := SeqAt.RcAt.lists (A := X.A) (e := fun _ => true) pl.isList pl2.isList rfl hu (fun j h1 h2 => absurd h1 (by simp))
    exact r X.prog X.w X.xe _ ⟨.bl _, H, I, rfl, q⟩
  | cons z zs =>
    cases rv with
    | cons rz rr =>
      have r := SeqAt.RcAt.lists_lengths (A := X.A) pl.isList pl2.isList (by simp) hu
      exact r X.prog X.w X.xe _ ⟨.bl _, H, I, rfl, q⟩
def rNeNil (K : PySem.W.Frag) : R2 := fun x y H Q => ∃ a b xs, x = .ref a ∧ y = .ref b ∧ SqL K H a xs ∧ SqL K H b [] ∧ Q (.bl (!xs.isEmpty)) H
theorem op_neNil {X : Cx} (hu : X.A.units < cLine) : OpR X (compareOp .NotEq) (rNeNil X.K) := by
  intro pins s σ H x y v u Q I rx ry h
  obtain ⟨a, b, xs, rfl, rfl, ha, hb, q⟩ := h
  cases rx
  cases ry
  obtain ⟨its, rv, pl, hz⟩ := I.list ha
  obtain ⟨its2, rv2, pl2, hz2⟩ := I.list hb
  cases rv2
  cases xs with
  | nil =>
    cases rv
    have r := SeqAt.RcNeAt.lists (A := X.A) (e := fun _ => true) pl.isList pl2.isList rfl hu (fun j h1 h2 => absurd h1 (by simp))
    exact r X.prog X.w X.xe _ ⟨.bl _, H, I, rfl, q⟩
  | cons z zs =>
    cases rv with
    | cons rz rr =>
      have r := SeqAt.RcNeAt.lists_lengths (A := X.A) pl.isList pl2.isList (by simp) hu
      exact r X.prog X.w X.xe _ ⟨.bl _, H, I, rfl, q⟩
end EN

set_option maxHeartbeats 3900000
namespace T6
open PySem PySem.Spec PyProof.Rows L2 TL
open C8 (pss_cut tCut pe_gc)
open CB
section
variable {K : PySem.W.Frag} {D : Addr} {H1 : Hp} {σ : L2.St} {tt : TT} {te : TE} {Qd : Hp → Prop} {jk jw : Nat}
end
theorem map_tl_inj : ∀ {a b : List Str}, a.map tl = b.map tl → a = b
  | [], [], _ => rfl
  | [], _ :: _, h => by cases h
  | _ :: _, [], h => by cases h
  | x :: a, y :: b, h => by
    rw [List.map_cons, List.map_cons] at h
    obtain ⟨h1, h2⟩ := List.cons.inj h
    rw [ext_tl h1, map_tl_inj h2]
section
variable {P : Program} {w : World} {K : PySem.W.Frag} {mg : Str → Option Value} {base : Heap}
end
end T6

set_option maxHeartbeats 3900000
namespace T6
open PySem PySem.Spec PyProof.Rows L2 TL
open C8 (pss_cut tCut pe_gc)
open CB
section
variable {P : Program} {w : World} {K : PySem.W.Frag} {mg : Str → Option Value} {base : Heap}
end
end T6

set_option maxHeartbeats 3900000
namespace T6
open PySem PySem.Spec PyProof.Rows L2 TL
open C8 (pss_cut tCut pe_gc)
open CB
section
variable {α : Type} {J : It} {n : Nat} {G : Hp → Prop} {Y : Nat → Hp → V → Hp → Prop} {tk tv : TE} {σ : L2.St} {H1 : Hp} {D : Addr} {Qd : Hp → Prop} {j : Nat}
end
section
variable {P : Program} {w : World} {K : PySem.W.Frag} {mg : Str → Option Value} {base : Heap} {C : Addr}
end
end T6

set_option maxHeartbeats 3900000
namespace T6
open PySem PySem.Spec PyProof.Rows L2 TL
open C8 (pss_cut tCut pe_gc)
open CB
section
variable {P : Program} {w : World} {K : PySem.W.Frag} {mg : Str → Option Value} {base : Heap} {C : Addr}
end
end T6

set_option maxHeartbeats 3900000
namespace T6
open PySem PySem.Spec PyProof.Rows L2 TL
open C8 (pss_cut tCut pe_gc)
open CB
section
variable {P : Program} {w : World} {K : PySem.W.Frag} {mg : Str → Option Value} {base : Heap} {C : Addr}
end
end T6

set_option maxHeartbeats 3900000
namespace T6
open PySem PySem.Spec PyProof.Rows L2 TL
open C8 (pss_cut tCut pe_gc)
open CB XW LE LR
section
variable {P : Program} {w : World} {K : PySem.W.Frag} {mg : Str → Option Value} {base : Heap} {C : Addr}
end
end T6

set_option maxHeartbeats 3900000
namespace T6
open PySem PySem.Spec PyProof.Rows L2 TL
open C8 (pss_cut tCut pe_gc)
open CB XW LE LR
abbrev sTIni : Stmt := inClass (top 28) 0
def tMeth : List Str := ["tree"]
structure TCl (K : PySem.W.Frag) (mg : Str → Option Value) (C : Addr) (mt : Str → Addr) : Prop where
  mg : mg "Step" = some (.ref C)
  cl : Cls K C
  n1 : NoAttr K C "top"
  n2 : NoAttr K C "choices"
  mak : Mk K C (mt "__init__")
  me : ∀ m ∈ tMeth, Meth K C m (mt m)
  ha : PySem.W.findIn K (.ref C) "__class__" = some (some (.builtin "object.__class__"))
  hn : PySem.W.specialIn K (.builtin "object.__class__") "__get__" = some (some (.builtin "getset_descriptor.__get__"))
  ht : PySem.W.takesIn K (.builtin "object.__class__") = some true
  hm : PySem.W.mroIn K C (.type "object") = some true
def StAt (w : World) (C : Addr) (H : Hp) (o : Addr) (t : Tr) : Prop := ∃ dx u v, H o = some (.ins C dx [(("top" : Str), u), ("choices", v)]) ∧ TrAt H u t ∧ UAt w (fun _ => True) H v t
def spTIni (w : World) (C : Addr) (n : Nat) : Sp := fun vs H Q _ => ∃ o dx v t, vs = [.ref o, v] ∧ H o = some (.ins C dx []) ∧ TrIn H v t ∧ dep t < n ∧ n ≤ 40 ∧ OkT [] t ∧ ∀ H', ButO o H H' → StAt w C H' o t → Q .non H'
section
variable {P : Program} {w : World} {K : PySem.W.Frag} {mg : Str → Option Value} {base : Heap} {C CR CW CS CA : Addr} {mt : Str → Addr}
theorem scTIni : FnScope ["self", "tree"] ["self", "tree"] (defScope sTIni) := ⟨rfl, rfl, rfl, by decide +kernel, rfl, by decide +kernel, by decide +kernel⟩
theorem ok_tini {n : Nat} {f fPT fUn : Addr} {fd fdPT fdUn : FuncData} (F : Fun K "__init__" "Step.__init__" sTIni f fd) (T : TB mg) (S0 : TCl K mg C mt) (aPT : At K mg "plain_tree" fPT fdPT ["thing", "place", "above"]) (GPT : FnOk P w K mg base CX0 (7 + n) fPT fdPT ["thing", "place", "above"] (spPT n)) (aUn : At K mg "unordered" fUn fdUn ["tree"]) (GUn : FnOk P w K mg base CX0 n fUn fdUn ["tree"] (spUn w n)) : FnOk P w K mg base CX0 (7 + n + 1) f fd ["self", "tree"] (spTIni w C n) := by
  refine F.ok scTIni (fun vs H Q E h => ?_) (fun cdv A outer s H vs Q E hr h => ?_)
  · obtain ⟨o, dx, v, t, rfl, _⟩ := h
    rfl
  · obtain ⟨o, dx, v, t, rfl, ho, ht, hd, hn, ok, k⟩ := h
    have hrN : ∀ m, m ≤ 7 + n → Room m (A.deeper (envOfC "Step.__init__" (defScope sTIni) s.heap.objs.size f cdv)) := fun m h => hr.mono h
    refine ⟨_, pss_cons (ps_fld (pv 0) (pe_call GPT (hrN _ (by omega)) rfl aPT.m aPT.k aPT.b .nil pass0 (pa_cons (pv 1) (pa_cons (pe_tup pa_nil) (pa_cons (pe_tup pa_nil) pa_nil)))) rfl)
            (pss_one (ps_fld (pv 0) (pe_call GUn (hrN _ (by omega)) rfl aUn.m aUn.k aUn.b .nil pass0 (pa_cons (pe_fld (pv 0) rfl) pa_nil)) rfl)), ?_⟩
    refine ⟨_, rfl, by show 0 ≤ sizeLine; decide, fun p1 hp1 => ⟨by show 0 ≤ sizeLine; decide, fun p2 hp2 => ?_⟩⟩
    have s1 := same_mk (o := .tup []) hp1
    have s2 := same_mk (o := .tup []) hp2
    have s12 := s1.trans s2
    refine ⟨v, p1, p2, t, [], [], [], rfl, ht.up s12, hd, s2 _ _ upd_same, by show 0 + dep t ≤ 50; omega, upd_same, ⟨rfl, fun i x k h => by simp at h⟩, by show 0 + dep t ≤ 50; omega, ok, fun k hk => by simp at hk, fun r H3 s3 hr3 => ?_⟩
    have s13 := s12.trans s3
    have ho3 := s13 _ _ ho
    refine ⟨_, rfl, o, C, dx, [], rfl, ho3, S0.cl, S0.n1, by show 0 < 1000; decide, ?_⟩
    have t4 : TupS H3 (upd H3 o (.ins C dx [("top", r)])) := tupS_put ho3 fun xs z => by cases z
    have b4 : ButO o H (upd H3 o (.ins C dx [("top", r)])) := fun b u hb nb => by rw [upd_ne nb]; exact s13 _ _ hb
    have ho4 := upd_same (H := H3) (a := o) (o := .ins C dx [("top", r)])
    have hr4 := TrAt.tup t4 hr3
    refine ⟨_, rfl, o, C, dx, _, _, rfl, ho4, S0.cl, S0.n1, rfl, r, t, [], rfl, hr4, hd, ok, fun u H5 s5 hu5 => ?_⟩
    have ho5 := s5 _ _ ho4
    refine ⟨_, rfl, o, C, dx, [("top", r)], rfl, ho5, S0.cl, S0.n2, by show 1 < 1000; decide, ?_⟩
    have t6 : TupS H5 (upd H5 o (.ins C dx [("top", r), ("choices", u)])) := tupS_put ho5 fun xs z => by cases z
    refine k (upd H5 o (.ins C dx [("top", r), ("choices", u)])) (fun b x hb nb => ?_) ⟨dx, r, u, upd_same, TrAt.tup t6 (hr4.up s5), UAt.go t6 (fun b rs _ hb => ?_) (fun _ _ => trivial) hu5⟩
    · rw [upd_ne nb]
      exact s5 _ _ (b4 _ _ hb nb)
    · rw [upd_ne (ne_of hb ho5 fun z => by unfold DA.DO at z; cases z)]
      exact hb
end
end T6

set_option maxHeartbeats 3900000
namespace T6
open PySem PySem.Spec PyProof.Rows L2 TL
open C8 (pss_cut tCut pe_gc)
open CB XW LE LR
theorem at_snoc {α β : Type} {R : α → β → Prop} {vs : List α} {sg : List β} {x : α} {y : β} (vl : vs.length = sg.length) (hv : ∀ (i : Nat) (v : α) (s : β), vs[i]? = some v → sg[i]? = some s → R v s) (hx : R x y) : ∀ (i : Nat) (v : α) (s : β), (vs ++ [x])[i]? = some v → (sg ++ [y])[i]? = some s → R v s := fun i v s h1 h2 => by
  by_cases lt : i < vs.length
  · rw [List.getElem?_append_left lt] at h1
    rw [List.getElem?_append_left (vl ▸ lt)] at h2
    exact hv i v s h1 h2
  · have l1 := (List.getElem?_eq_some_iff.mp h1).1
    rw [List.length_append] at l1
    have l2 : ([x] : List α).length = 1 := rfl
    obtain rfl : i = vs.length := by omega
    rw [List.getElem?_append_right (Nat.le_refl _), Nat.sub_self] at h1
    rw [vl, List.getElem?_append_right (Nat.le_refl _), Nat.sub_self] at h2
    cases h1
    cases h2
    exact hx
section
variable {P : Program} {w : World} {K : PySem.W.Frag} {mg : Str → Option Value} {base : Heap} {C CR CW CS CA : Addr} {mt : Str → Addr}
end
end T6

set_option maxHeartbeats 3900000
namespace T6
open PySem PySem.Spec PyProof.Rows L2 TL
open C8 (pss_cut tCut pe_gc)
open CB XW LE LR
abbrev sLTree : Stmt := top 41
def dW : Nat → Nat
  | 0 => 25
  | m + 1 => 206 + 4 * dW m
mutual
/-- a drawn tree: its looks and answers are on the pool's names -/
def OnT (zs : List Str) : Tr → Prop
  | .fin z => z ∈ (["good", "bad", "", "no"] : List Str)
  | .ask k cs o => LkOn zs 3 k ∧ cs.length ≤ 3 ∧ OnC zs cs ∧ OnT zs o
def OnC (zs : List Str) : Cs → Prop
  | [] => True
  | (a, t) :: r => AnOn zs a ∧ OnT zs t ∧ OnC zs r
end
theorem onC_snoc {zs : List Str} {a : An} {t : Tr} (ha : AnOn zs a) (ht : OnT zs t) : ∀ {cs : Cs}, OnC zs cs → OnC zs (cs ++ [(a, t)])
  | [], _ => ⟨ha, ht, trivial⟩
  | (_, _) :: _, h => ⟨h.1, h.2.1, onC_snoc ha ht h.2.2⟩
theorem okC_snoc {ab : List Lk} {k : Lk} {a : An} {t : Tr} (ha : SiOk' (k, a)) (ht : OkT (ab ++ [k]) t) : ∀ {cs : Cs}, OkC ab k cs → OkC ab k (cs ++ [(a, t)])
  | [], _ => ⟨ha, ht, trivial⟩
  | (_, _) :: _, h => ⟨h.1, h.2.1, okC_snoc ha ht h.2.2⟩
theorem depC_le {n : Nat} : ∀ {cs : Cs}, (∀ c ∈ cs, dep c.2 ≤ n) → depC cs ≤ n
  | [], _ => Nat.zero_le _
  | (a, t) :: r, h => by
    unfold depC
    exact Nat.max_le.mpr ⟨h (a, t) List.mem_cons_self, depC_le fun c hc => h c (List.mem_cons_of_mem _ hc)⟩
theorem any_an {a : An} (h : AnW a) : ∀ {l : List An}, (∀ t ∈ l, AnW t) → ((l.map anD).any fun z => z.eqv (anD a)) = decide (a ∈ l)
  | [], _ => by simp
  | t :: l, w => by
    rw [List.map_cons, List.any_cons, any_an h fun x hx => w x (List.mem_cons_of_mem t hx), eqv_an (w t List.mem_cons_self) h]
    by_cases e : t = a
    · subst e
      simp
    · have e2 : ¬ a = t := fun z => e z.symm
      simp [e, e2]
theorem lksL_tup {H H' : Hp} {D : Addr} {ks : List Lk} (h : LksL H D ks) (e : ∀ xs, H D = some (.lst xs) → H' D = some (.lst xs)) (t : TupS H H') : LksL H' D ks := by
  obtain ⟨vs, h1, h2, h3⟩ := h
  exact ⟨vs, e _ h1, h2, fun i v k a b => by
    obtain ⟨p, e, q⟩ := h3 i v k a b
    exact ⟨p, e, t _ _ q⟩⟩
theorem cs_zip {H : Hp} : ∀ {ys : List V} {cs : Cs}, CsAt H ys cs → ∃ zs : List (V × V × An), zs.map (·.1) = ys ∧ zs.map (·.2.2) = cs.map (·.1) ∧ ∀ z ∈ zs, ∃ p tv, z.1 = .ref p ∧ H p = some (.tup [z.2.1, tv]) ∧ AnAt H z.2.1 z.2.2
  | _, _, .nil => ⟨[], rfl, rfl, fun z hz => by cases hz⟩
  | _, _, .cons (p := p) (av := av) (tv := tv) (a := a) r ha ht c => by
    obtain ⟨zs, e1, e2, e3⟩ := cs_zip c
    refine ⟨(.ref p, av, a) :: zs, by rw [List.map_cons, e1], by rw [List.map_cons, List.map_cons, e2], fun z hz => ?_⟩
    rcases List.mem_cons.mp hz with rfl | hz
    · exact ⟨p, tv, rfl, r, ha⟩
    · exact e3 z hz
theorem ans_dp {K : PySem.W.Frag} {H : Hp} : ∀ {zs : List (V × V × An)}, (∀ z ∈ zs, AnAt H z.2.1 z.2.2) → DpAll K H (zs.map (·.2.1)) ((zs.map (·.2.2)).map anD)
  | [], _ => .nil
  | z :: r, h => .cons (an_dp (h z List.mem_cons_self)) (ans_dp fun y hy => h y (List.mem_cons_of_mem _ hy))
theorem ans_shaped {l : List An} (h : ∀ a ∈ l, AnW a) : SeqAt.shaped (.list (l.map anD)) = true := by
  have lay : ∀ {l : List An}, (∀ k ∈ l, AnW k) → PyData.canLayAll0 (l.map anD) = true := by
    intro l
    induction l with
    | nil => intro _; simp [PyData.canLayAll0]
    | cons k r ih =>
      intro h
      rw [List.map_cons]
      unfold PyData.canLayAll0
      rw [ih fun x hx => h x (List.mem_cons_of_mem _ hx), anD_lay (h k List.mem_cons_self)]
      rfl
  have dpt : ∀ {l : List An}, (∀ k ∈ l, AnW k) → PyData.depthAll (l.map anD) ≤ 10 := by
    intro l
    induction l with
    | nil => intro _; simp [PyData.depthAll]
    | cons k r ih =>
      intro h
      rw [List.map_cons]
      unfold PyData.depthAll
      have h1 := ih fun x hx => h x (List.mem_cons_of_mem _ hx)
      have h2 := anD_dep k
      omega
  refine shaped_mk (by unfold PyData.canLay0; exact lay h) ?_
  have := dpt h
  unfold PyData.depth
  omega
def spLTree (n : Nat) : Sp := fun vs H Q _ => ∃ (st l p D : Addr) (c : Nat) (zs : List Str) (ab : List Lk) (m : Nat) (vm : V), vs = [.ref st, .ref p, .ref D, vm] ∧ vm = .int (m : Int) ∧ m < n ∧ Strm H st l c ∧ c + dW m ≤ 700000 ∧ Pool H st l p zs ∧ zs.Nodup ∧ 0 < zs.length ∧ zs.length < 20 ∧ (∀ z ∈ zs, IsNm z) ∧ LksL H D ab ∧ D ≠ st ∧ D ≠ l ∧ ab.length + m ≤ 20 ∧ (∀ k ∈ ab, LkW k) ∧
  ∀ v t H' c', TrAt H' v t → OkT ab t → OnT zs t → dep t ≤ m → But st l H H' → Strm H' st l c' → c' ≤ c + dW m → Q v H'
theorem thrice {P R : Hp → Prop} {G : Prop} (main : (∀ H7, R H7 → P H7) → G) (rest : ∀ H7, R H7 → P H7) : G := main rest
section
variable {P : Program} {w : World} {K : PySem.W.Frag} {mg : Str → Option Value} {base : Heap}
theorem scLTree : FnScope ["_law_stream", "_law_pool_here", "_law_looks_here", "_law_most", "_law_look_here", "_law_left", "_law_cases", "_law_k", "_law_answer", "_law_case"] ["_law_stream", "_law_pool_here", "_law_looks_here", "_law_most"] (defScope sLTree) := ⟨rfl, rfl, rfl, by decide +kernel, rfl, by decide +kernel, by decide +kernel⟩
theorem ok_ltree {f fD fL fS : Addr} {fd fdD fdL fdS : FuncData} (F : Fun K "_law_tree" "_law_tree" sLTree f fd) (T : TB mg) (aD : aD' K mg fD fdD) (GD : FnOk P w K mg base CX0 1 fD fdD ["_law_stream", "_law_many"] spDraw)
    (aLooks : At K mg "_law_looks" fL fdL ["_law_stream", "_law_pool_here", "_law_many"]) (GLooks : FnOk P w K mg base CX0 5 fL fdL ["_law_stream", "_law_pool_here", "_law_many"] spLooks)
    (aSo : At K mg "_law_some_answer" fS fdS ["_law_stream", "_law_pool_here", "_law_look_here"]) (GSo : FnOk P w K mg base CX0 3 fS fdS ["_law_stream", "_law_pool_here", "_law_look_here"] spSome)
    (aLTree : At K mg "_law_tree" f fd ["_law_stream", "_law_pool_here", "_law_looks_here", "_law_most"]) : ∀ n, FnOk P w K mg base CX0 (6 + n) f fd ["_law_stream", "_law_pool_here", "_law_looks_here", "_law_most"] (spLTree n) := by
  intro n
  induction n with
  | zero =>
    refine ⟨fun vs H Q E h => ?_, fun A outer s H args us vs Q E hr he hb hv h => ?_⟩
    · obtain ⟨st, l, p, D, c, zs, ab, m, vm, rfl, _⟩ := h
      rfl
    · obtain ⟨st, l, p, D, c, zs, ab, m, vm, _, _, hd, _⟩ := h
      exact absurd hd (Nat.not_lt_zero _)
  | succ n GLTree =>
    refine F.ok scLTree (fun vs H Q E h => ?_) (fun cdv A outer s H vs Q E hr h => ?_)
    · obtain ⟨st, l, p, D, c, zs, ab, m, vm, rfl, _⟩ := h
      rfl
    · obtain ⟨st, l, p, D, c, zs, ab, m, vm, rfl, rfl, mn, S, hc, L, znd, z0, z1, nm, hD, Dst, Dl, al, aw, k⟩ := h
      have hu := hr.units
      have hu0 : (A.deeper (envOfC "_law_tree" (defScope sLTree) s.heap.objs.size f cdv)).units < cLine := by have := hr.un; omega
      have hu5 : (A.deeper (envOfC "_law_tree" (defScope sLTree) s.heap.objs.size f cdv)).units + 65 < cLine := by have := hr.un; omega
      have hu9 : (A.deeper (envOfC "_law_tree" (defScope sLTree) s.heap.objs.size f cdv)).units + 9 < cLine := by have := hr.un; omega
      have hrN : ∀ m, m ≤ 6 + n → Room m (A.deeper (envOfC "_law_tree" (defScope sLTree) s.heap.objs.size f cdv)) := fun m h => hr.mono h
      refine ⟨_, pss_cons (ps_setLc (i := 5) (own := [("_law_look_here", 4)]) (g := gName 4) (tt := _) rfl scLTree.nd rfl rfl (sw_true rfl rfl rfl (by decide +kernel)) (pi_list (pe_call GLooks (hrN _ (by omega)) rfl aLooks.m aLooks.k aLooks.b .nil pass0 (pa_cons (pv 0) (pa_cons (pv 1) (pa_cons pe_int pa_nil))))) (blkOk_by (own := [("_law_look_here", 4)]) (N := ["_law_stream", "_law_pool_here", "_law_looks_here", "_law_most", "_law_look_here", "_law_left", "_law_cases", "_law_k", "_law_answer", "_law_case"]) (sc := defScope sLTree) (by decide +kernel)) (fun _ _ _ _ _ => (pg_name (i := 4) scLTree.nd rfl (Or.inl rfl))) (fun _ _ _ _ _ => (by exact pts_one (pt_cmpR (LE.notInDK (K0 := K) rfl hu5) (pv 4) (pv 2) (by rfl)))) (fun _ _ _ _ _ => (by exact (pv 4))))
              (pss_cons (ps_if (PW.pt (pw_or (pt_cmpR op_eq (pv 3) pe_int (nomark _)) (pw_or (pt_cmpR (EN.op_eqNil hu0) (pv 5) (pe_lst pa_nil) (nomark _)) (pw_or1 (pt_cmpR op_eq (pe_call GD (hrN _ (by omega)) rfl aD.m aD.k aD.b .nil pass0 (pa_cons (pv 0) (pa_cons pe_int pa_nil))) pe_int (nomark _)))))) (pss_one (ps_ret (pe_tup (pa_cons pe_str (pa_cons (pe_ix ix_list (pe_lst (pa_cons pe_str (pa_cons pe_str (pa_cons pe_str (pa_cons pe_str pa_nil))))) (pe_call GD (hrN _ (by omega)) rfl aD.m aD.k aD.b .nil pass0 (pa_cons (pv 0) (pa_cons pe_int pa_nil))) (fun _ _ => rfl)) pa_nil))))) (pss_nil))
              (pss_cons (ps_par (i := 4) (j := 6) (by rfl) scLTree.nd rfl rfl (by decide) rfl rfl (pa_cons (pe_ix ix_list (pv 5) pe_int (fun _ _ => rfl)) (pa_cons (pe_lst pa_nil) pa_nil)) (by rfl))
              (pss_cons (ps_for PassesOwn.never rfl (pi_range1 rfl T.range (pa_cons (pe_call GD (hrN _ (by omega)) rfl aD.m aD.k aD.b .nil pass0 (pa_cons (pv 0) (pa_cons pe_int pa_nil))) pa_nil)) (pg_name (i := 7) scLTree.nd rfl (Or.inl rfl)) (pss_cons (ps_set (i := 8) scLTree.nd rfl (Or.inl rfl) (pe_call GSo (hrN _ (by omega)) rfl aSo.m aSo.k aSo.b .nil pass0 (pa_cons (pv 0) (pa_cons (pv 1) (pa_cons (pv 4) pa_nil)))))
              (pss_one (ps_if (pt_cmpR (op_notInD hu5) (pv 8) (pe_lc (own := [("_law_case", 9)]) (g := gName 9) (tt := tYes) rfl scLTree.nd (pi_list (pv 6)) (blkOk_by (own := [("_law_case", 9)]) (N := ["_law_stream", "_law_pool_here", "_law_looks_here", "_law_most", "_law_look_here", "_law_left", "_law_cases", "_law_k", "_law_answer", "_law_case"]) (sc := defScope sLTree) (by decide +kernel)) (fun _ _ _ _ _ => (pg_name (i := 9) scLTree.nd rfl (Or.inl rfl))) (fun _ _ _ _ _ => pts_nil) (fun _ _ _ _ _ => (by exact (pe_ix (ix_tupK (K0 := K) rfl) (pv 9) pe_int (fun _ _ => rfl))))) (by rfl)) (pss_one (ps_expr (pe_bm PySem.F.plainAttrs_list PySem.F.slot_list_append PySem.F.type_list_append mt_append (pv 6) (pa_cons (pe_tup (pa_cons (pv 8) (pa_cons (pe_call GLTree (hrN _ (by omega)) rfl aLTree.m aLTree.k aLTree.b .nil pass0 (pa_cons (pv 0) (pa_cons (pv 1) (pa_cons (pe_op op_cat (pv 2) (pe_lst (pa_cons (pv 4) pa_nil))) (pa_cons (pe_op op_sub (pv 3) pe_int) pa_nil))))) pa_nil))) pa_nil)))) (pss_nil)))))
              (pss_one (ps_ret (pe_tup (pa_cons pe_str (pa_cons (pv 4) (pa_cons (pe_callTy call_tuple_of (by rfl) T.tuple (by decide +kernel) (pa_cons (pv 6) pa_nil)) (pa_cons (pe_call GLTree (hrN _ (by omega)) rfl aLTree.m aLTree.k aLTree.b .nil pass0 (pa_cons (pv 0) (pa_cons (pv 1) (pa_cons (pe_op op_cat (pv 2) (pe_lst (pa_cons (pv 4) pa_nil))) (pa_cons (pe_op op_sub (pv 3) pe_int) pa_nil))))) pa_nil)))))))))), ?_⟩
      have hW : 25 ≤ dW m := by
        cases m with
        | zero => exact Nat.le_refl _
        | succ m => unfold dW; omega
      refine ⟨_, rfl, _, rfl, st, l, p, c, zs, 4, rfl, S, by omega, L, z0, by omega, nm, by decide, by decide, fun D1 ks H1 c1 kl ko knd hD1 hks B1 S1 hc1 => ?_⟩
      have hc1 : c1 ≤ c + 24 := hc1
      obtain ⟨zk, hz, rfl, ek⟩ := lks_zip hks
      have nD1 := S.ne_new hD1
      have hab1 : LksL H1 D ab := lksL_tup hD (fun xs e => B1 _ _ e Dst Dl) (tup_but S B1)
      have zkl : zk.length ≤ 4 := by rw [List.length_map] at kl; omega
      have kw : ∀ z ∈ zk, LkW z.2 := fun z hz2 => (on_ok (ko _ (List.mem_map_of_mem hz2)) nm).w
      refine ⟨D1, rfl, ⟨_, SqL.of hz⟩, fun L0 hL0 => ?_⟩
      refine lcFM (walk_list (K := K) (a := D1) (xs := zk.map Prod.fst)) zk Prod.fst Prod.fst (fun z => decide (z.2 ∉ ab)) (by rw [List.length_map]) (by rw [List.length_map]; omega) (fun i H x H' y => y) hL0 (fun H' s => SqL.of (s _ _ hz)) ?_ ?_ ?_
      · intro z hz2 H2 s2 Q1 q1
        obtain ⟨t, e1, ht⟩ := ek z hz2
        have hab2 : LksL H2 D ab := lksL_tup hab1 (fun xs e => s2 _ _ e) (TupS.of s2)
        obtain ⟨za, ha1, ha2, ha3⟩ := lks_zip hab2
        have dpD := ks_dp (K := K) ha1 ha3
        rw [ha2] at dpD
        refine ⟨_, rfl, _, rfl, lkD z.2, ab.map lkD, by rw [e1]; exact lk_dp (s2 _ _ ht), dpD, lkD_shaped (kw z hz2), shaped_lks ab aw, ?_⟩
        rw [any_lk (kw z hz2) aw]
        refine ⟨_, rfl, ?_⟩
        have := q1 H2 (Same.refl _)
        by_cases m0 : z.2 ∈ ab
        · simpa [m0] using this
        · simpa [m0] using this
      · intro z hz2 _ H2 s2 Q1 q1
        exact ⟨_, rfl, q1 H2 (Same.refl _)⟩
      · intro H2 s2 hL2
        have B2 : But st l H H2 := B1.trans (But.same s2)
        have S2 := S1.up s2
        have nL0 := S1.ne_new hL0
        apply thrice (R := fun H7 => But st l H H7 ∧ ∃ c7, Strm H7 st l c7 ∧ c7 ≤ c + 24 + (if m = 0 then 0 else 1))
        case main =>
          intro fin
          by_cases m0 : m = 0
          · refine ⟨_, rfl, rfl, _, rfl, iteY (by rw [m0]; rfl) ?_⟩
            exact iteT (fin H2 ⟨B2, c1, S2, by omega⟩)
          · refine ⟨_, rfl, rfl, _, rfl, iteN (fun e => m0 (by cases e; rfl)) ?_⟩
            have hc20 : c1 ≤ c + 24 := hc1
            refine ⟨_, rfl, by show 0 ≤ sizeLine; decide, fun q hq => ⟨L0, q, _, rfl, rfl, SqL.of (same_mk hq _ _ hL2), SqL.of upd_same, _, rfl, ?_⟩⟩
            have sq := same_mk (o := .lst []) hq
            have S3 := S2.up sq
            have B3 : But st l H (upd H2 q (.lst [])) := B2.trans (But.same sq)
            have hL3 := sq _ _ hL2
            cases efl : zk.filter (fun z => decide (z.2 ∉ ab)) with
            | nil => exact iteT (iteT (fin _ ⟨B3, c1, S3, by omega⟩))
            | cons z0 rest =>
            rw [efl] at hL3
            have mz0 : z0 ∈ zk.filter (fun z => decide (z.2 ∉ ab)) := by rw [efl]; exact List.mem_cons_self
            obtain ⟨mz, nz⟩ := List.mem_filter.mp mz0
            have nz := of_decide_eq_true nz
            have lk0 := ko _ (List.mem_map_of_mem mz)
            have lok0 := on_ok lk0 nm
            obtain ⟨kp, e1, hkp⟩ := ek z0 mz
            have hkp3 := sq _ _ (s2 _ _ hkp)
            obtain ⟨zv, k0⟩ := z0
            obtain rfl : zv = .ref kp := e1
            refine iteF ?_
            refine ⟨_, rfl, st, l, c1, 5, rfl, S3, by omega, by decide, by decide, fun d H4 d0 d1 B4 S4 => ⟨rfl, _, rfl, ?_⟩⟩
            have B04 := B3.trans B4
            have nL3 : L0 ≠ st ∧ L0 ≠ l := nL0
            have hL4 := B4 _ _ hL3 nL3.1 nL3.2
            have tb4 := tup_but S3 B4
            have hkp4 := tb4 _ _ hkp3
            by_cases d00 : d = 0
            · exact iteY (by rw [d00]) (fin H4 ⟨B04, c1 + 1, S4, by rw [if_neg m0]; omega⟩)
            refine iteN (fun e => d00 (by cases e; rfl)) ?_
            refine ⟨_, rfl, L0, _, 0, _, rfl, rfl, SqL.of hL4, atI_nat (j := 0) rfl, by show 0 ≤ sizeLine; decide, fun C0 hC0 => ⟨_, _, rfl, ?_⟩⟩
            have sC := same_mk (o := .lst []) hC0
            have nC0 := S4.ne_new hC0
            have S5 := S4.up sC
            have B05 : But st l H (upd H4 C0 (.lst [])) := B04.trans (But.same sC)
            have fC0 : H C0 = none := by
              cases e : H C0 with
              | none => rfl
              | some o =>
                rw [B04 _ _ e nC0.1 nC0.2] at hC0
                cases hC0
            have hkp5 := sC _ _ hkp4
            obtain ⟨m1, rfl⟩ := Nat.exists_eq_succ_of_ne_zero m0
            have eW : dW (m1 + 1) = 206 + 4 * dW m1 := rfl
            have hc := hc
            rw [show m1.succ = m1 + 1 from rfl, eW] at hc
            refine ⟨_, rfl, st, l, c1 + 1, 4, rfl, S5, by omega, by decide, by decide, fun e H6 e0 e1 B6 S6 => ⟨_, rfl, by omega, by omega, ?_⟩⟩
            have hC6 := B6 _ _ (upd_same (H := H4) (a := C0) (o := .lst [])) nC0.1 nC0.2
            have B06 := B05.trans B6
            have hkp6 := tup_but S5 B6 _ _ hkp5
            generalize upd H4 C0 (.lst []) = H5 at B05 S5 hkp5 B6
            refine for_range (lo := 0) (n := e.toNat) (fun i σ H' => ∃ x7 x8 x9 ys cs c7, σ = [some (.ref st), some (.ref p), some (.ref D), some (.int ((m1 + 1 : Nat) : Int)), some (.ref kp), some (.ref L0), some (.ref C0), x7, x8, x9] ∧ But st l H H' ∧ Strm H' st l c7 ∧ c7 ≤ c + 26 + i * (60 + dW m1) ∧ H' C0 = some (.lst ys) ∧ CsAt H' ys cs ∧ cs.length ≤ i ∧ (cs.map (·.1)).Nodup ∧ OkC ab k0 cs ∧ (∀ x ∈ cs, dep x.2 ≤ m1) ∧ OnC zs cs ∧ H' kp = some (.tup (lkV k0)))
              ⟨_, _, _, [], [], c1 + 2, rfl, B06, S6, by omega, hC6, .nil, Nat.zero_le _, .nil, trivial, (fun x hx => absurd hx List.not_mem_nil), trivial, hkp6⟩ ?_ ?_
            · rintro i _ H7 hi ⟨x7, x8, x9, ys, cs, c7, rfl, B7, S7, hc7, hC7, cy, cl, cnd, okc, cdep, onc, hkp7⟩
              have i3 : i < 3 := by omega
              have im : i * (60 + dW m1) ≤ 2 * (60 + dW m1) := Nat.mul_le_mul_right _ (by omega)
              have is : (i + 1) * (60 + dW m1) = i * (60 + dW m1) + (60 + dW m1) := Nat.succ_mul _ _
              refine ⟨_, rfl, _, rfl, _, rfl, st, l, p, kp, c7, zs, k0, rfl, S7, by omega, L.but B7, znd, z0, z1, nm, hkp7, lok0.w, fun av a H8 c8 han aok aon B8 S8 hc8 => ?_⟩
              have tb8 := tup_but S7 B8
              have aw1 := (on_an aon lk0 nm).1
              have hC8 := B8 _ _ hC7 nC0.1 nC0.2
              have cy8 := CsAt.tup tb8 cy
              have hkp8 := tb8 _ _ hkp7
              have B08 := B7.trans B8
              obtain ⟨zc, ec1, ec2, ec3⟩ := cs_zip cy8
              have csw : ∀ t ∈ cs.map (·.1), AnW t := fun t ht => by
                obtain ⟨x, hx, rfl⟩ := List.mem_map.mp ht
                exact (okC_mem okc x hx).1.2.2
              have zcl : zc.length = cs.length := by rw [← List.length_map (f := (·.2.2)) (as := zc), ec2, List.length_map]
              refine ⟨_, rfl, _, rfl, C0, rfl, ⟨_, SqL.of hC8⟩, fun L1 hL1 => ?_⟩
              refine lcFM (walk_list (K := K) (a := C0) (xs := ys)) zc (·.1) (·.2.1) (fun _ => true) (by rw [← ec1, List.length_map]) (by rw [← ec1, List.length_map]; omega) (fun i H x H' y => by rw [ec1]; exact y) hL1 (fun H' s => SqL.of (s _ _ hC8)) (fun z hz2 H9 s9 Q1 q1 => q1 H9 (Same.refl _)) (fun z hz2 _ H9 s9 Q1 q1 => ?_) ?_
              · obtain ⟨pz, tz, e1, hp, _⟩ := ec3 z hz2
                exact ⟨_, rfl, pz, _, 0, _, e1, rfl, SqT.of (s9 _ _ hp), atI_nat (j := 0) rfl, q1 H9 (Same.refl _)⟩
              · intro H9 s9 hL9
                rw [List.filter_eq_self.mpr (fun _ _ => rfl)] at hL9
                have dd : DpAll K H9 (zc.map (·.2.1)) ((cs.map (·.1)).map anD) := by
                  rw [← ec2]
                  refine ans_dp fun z hz2 => ?_
                  obtain ⟨_, _, _, _, h⟩ := ec3 z hz2
                  exact h.up s9
                refine ⟨anD a, _, an_dp (han.up s9), .lst (SqL.of hL9) dd, anD_shaped aw1, ans_shaped csw, ?_⟩
                rw [any_an aw1 csw]
                have B09 := B08.trans (But.same s9)
                have S9 := S8.up s9
                have hC9 := s9 _ _ hC8
                have cy9 := CsAt.up s9 cy8
                have hkp9 := s9 _ _ hkp8
                have han9 := han.up s9
                by_cases ma : a ∈ cs.map (·.1)
                · rw [decide_eq_true ma]
                  exact ⟨_, rfl, iteF ⟨_, _, _, ys, cs, c8, rfl, B09, S9, by omega, hC9, cy9, Nat.le_succ_of_le cl, cnd, okc, cdep, onc, hkp9⟩⟩
                · rw [decide_eq_false ma]
                  refine ⟨_, rfl, iteT ?_⟩
                  refine ⟨_, rfl, .inl ⟨rfl, _, SqL.of hC9⟩, _, rfl, _, rfl, _, rfl, _, rfl, _, rfl, by show 1 ≤ sizeLine; decide, fun q hq => ?_⟩
                  have sq := same_mk (o := .lst [.ref kp]) hq
                  have hDq : LksL (upd H9 q (.lst [.ref kp])) D ab := lksL_tup hD (fun xs e => sq _ _ (B09 _ _ e Dst Dl)) (TupS.trans (tup_but S B09) (TupS.of sq))
                  obtain ⟨vD, hvD, vDl, hvDs⟩ := hDq
                  refine ⟨D, q, vD, [.ref kp], rfl, rfl, hvD, upd_same, Nat.le_trans (show vD.length + 1 ≤ 40 by omega) (by decide), fun pp hpp => ?_⟩
                  have sp := same_mk (o := .lst (vD ++ [.ref kp])) hpp
                  have sqp := sq.trans sp
                  have Sp := S9.up sqp
                  have npp := (S9.up sq).ne_new hpp
                  refine ⟨_, rfl, _, _, rfl, rfl, st, l, p, pp, c8, zs, ab ++ [k0], m1, _, rfl, congrArg V.int (by omega : ((m1 + 1 : Nat) : Int) - 1 = (m1 : Int)), by omega, Sp, by omega, L.but (B09.trans (But.same sqp)), znd, z0, z1, nm, ⟨vD ++ [.ref kp], upd_same, by rw [List.length_append, List.length_append, vDl]; rfl, at_snoc vDl (fun i v k h1 h2 => ?_) ⟨kp, rfl, sqp _ _ hkp9⟩⟩, npp.1, npp.2, by rw [List.length_append]; show ab.length + 1 + m1 ≤ 20; omega, fun x hx => ?_, fun tv t H10 c10 htr tok ton tdep B10 S10 hc10 => ?_⟩
                  · obtain ⟨y, e, h⟩ := hvDs i v k h1 h2
                    exact ⟨y, e, sp _ _ h⟩
                  · rcases List.mem_append.mp hx with hx | hx
                    · exact aw x hx
                    · rw [List.mem_singleton.mp hx]
                      exact lok0.w
                  have tb10 := tup_but Sp B10
                  have B010 := (B09.trans (But.same sqp)).trans B10
                  have hC10 := B10 _ _ (sqp _ _ hC9) nC0.1 nC0.2
                  have cy10 := CsAt.tup tb10 (CsAt.up sqp cy9)
                  have han10 := (han9.up sqp).tup tb10
                  have hkp10 := tb10 _ _ (sqp _ _ hkp9)
                  refine ⟨by show 2 ≤ sizeLine; decide, fun u hu => ?_⟩
                  have su := same_mk (o := .tup [av, tv]) hu
                  have yl : ys.length ≤ 3 := by rw [← ec1, List.length_map]; omega
                  refine ⟨C0, ys, .ref u, rfl, rfl, su _ _ hC10, Nat.lt_of_le_of_lt yl (by decide), ?_⟩
                  have hup := upd_same (H := H10) (a := u) (o := .tup [av, tv])
                  have cyu := CsAt.up su cy10
                  have hanu := han10.up su
                  have htru := htr.up su
                  have Su := S10.up su
                  have B0u := B010.trans (But.same su)
                  have hCu := su _ _ hC10
                  have hkpu := su _ _ hkp10
                  generalize upd H10 u (.tup [av, tv]) = H11 at hup cyu hanu htru Su B0u hCu hkpu ⊢
                  have tb12 : TupS H11 (upd H11 C0 (.lst (ys ++ [.ref u]))) := tupS_put hCu fun xs z => by cases z
                  refine ⟨_, _, _, ys ++ [.ref u], cs ++ [(a, t)], c10, rfl, fun b o hb n1 n2 => ?_, Su.put nC0, by omega, upd_same, csAt_snoc (tb12 _ _ hup) (hanu.tup tb12) (TrAt.tup tb12 htru) (CsAt.tup tb12 cyu), by rw [List.length_append]; exact Nat.succ_le_succ cl, ?_, okC_snoc ⟨⟨lok0, aok⟩, lok0.w, aw1⟩ tok okc, fun x hx => ?_, onC_snoc aon ton onc, tb12 _ _ hkpu⟩
                  · rw [upd_ne fun z => by rw [z, fC0] at hb; cases hb]
                    exact B0u _ _ hb n1 n2
                  · rw [List.map_append]
                    refine List.nodup_append.mpr ⟨cnd, by simp, fun x hx y hy e => ?_⟩
                    have e2 : y = a := List.mem_singleton.mp hy
                    rw [e, e2] at hx
                    exact ma hx
                  · rcases List.mem_append.mp hx with hx | hx
                    · exact cdep x hx
                    · rw [List.mem_singleton.mp hx]
                      exact tdep
            · rintro _ H7 ⟨x7, x8, x9, ys, cs, c7, rfl, B7, S7, hc7, hC7, cy, cl, cnd, okc, cdep, onc, hkp7⟩
              have e3 : e.toNat ≤ 3 := by omega
              have im : e.toNat * (60 + dW m1) ≤ 3 * (60 + dW m1) := Nat.mul_le_mul_right _ e3
              have yl : ys.length = cs.length := (csAt_at cy).1
              refine ⟨_, rfl, _, rfl, C0, ys, rfl, .inl ⟨SqL.of hC7, fun tp htp => ?_⟩⟩
              have st1 := same_mk (o := .tup ys) htp
              refine ⟨_, rfl, _, rfl, _, rfl, _, rfl, by show 1 ≤ sizeLine; decide, fun q hq => ?_⟩
              have sq := same_mk (o := .lst [.ref kp]) hq
              have s1q := st1.trans sq
              have B0q := B7.trans (But.same s1q)
              have hDq := lksL_tup hD (fun xs e => B0q _ _ e Dst Dl) (tup_but S B0q)
              obtain ⟨vD, hvD, vDl, hvDs⟩ := hDq
              refine ⟨D, q, vD, [.ref kp], rfl, rfl, hvD, upd_same, Nat.le_trans (show vD.length + 1 ≤ 40 by omega) (by decide), fun pp hpp => ?_⟩
              have sp := same_mk (o := .lst (vD ++ [.ref kp])) hpp
              have sqp := s1q.trans sp
              have Sp := S7.up sqp
              have npp := (S7.up s1q).ne_new hpp
              refine ⟨_, rfl, _, _, rfl, rfl, st, l, p, pp, c7, zs, ab ++ [k0], m1, _, rfl, congrArg V.int (by omega : ((m1 + 1 : Nat) : Int) - 1 = (m1 : Int)), by omega, Sp, by omega, L.but (B7.trans (But.same sqp)), znd, z0, z1, nm, ⟨vD ++ [.ref kp], upd_same, by rw [List.length_append, List.length_append, vDl]; rfl, at_snoc vDl (fun i v k h1 h2 => ?_) ⟨kp, rfl, sqp _ _ hkp7⟩⟩, npp.1, npp.2, by rw [List.length_append]; show ab.length + 1 + m1 ≤ 20; omega, fun x hx => ?_, fun ov t H10 c10 htr tok ton tdep B10 S10 hc10 => ?_⟩
              · obtain ⟨y, e, h⟩ := hvDs i v k h1 h2
                exact ⟨y, e, sp _ _ h⟩
              · rcases List.mem_append.mp hx with hx | hx
                · exact aw x hx
                · rw [List.mem_singleton.mp hx]
                  exact lok0.w
              have tb10 := tup_but Sp B10
              have cy10 := CsAt.tup tb10 (CsAt.up sqp cy)
              have hkp10 := tb10 _ _ (sqp _ _ hkp7)
              have htp10 := tb10 _ _ ((sq.trans sp) _ _ (upd_same (H := H7) (a := tp) (o := .tup ys)))
              refine ⟨by show 4 ≤ sizeLine; decide, fun u hu => ?_⟩
              have su := same_mk (o := .tup [.str "ask", .ref kp, .ref tp, ov]) hu
              refine k (.ref u) (.ask k0 cs t) _ c10 (.ask upd_same (su _ _ hkp10) (su _ _ htp10) (CsAt.up su cy10) (htr.up su)) ⟨lok0, nz, cnd, by omega, okc, tok⟩ ⟨lk0, by omega, onc, ton⟩ ?_ (((B7.trans (But.same sqp)).trans B10).trans (But.same su)) (S10.up su) ?_
              · show max (depC cs) (dep t) + 1 ≤ m1 + 1
                have := depC_le cdep
                omega
              · show c10 ≤ c + dW (m1 + 1)
                omega
        case rest =>
          rintro H7 ⟨B7, c7, S7, hc7⟩
          have h25 : c7 ≤ c + 25 := by split at hc7 <;> omega
          refine ⟨by show 4 ≤ sizeLine; decide, fun q hq => ?_⟩
          have sq := same_mk (o := .lst [.str "good", .str "bad", .str "", .str "no"]) hq
          have nq := S7.ne_new hq
          refine ⟨_, rfl, st, l, c7, 4, rfl, S7.up sq, by omega, by decide, by decide, fun d H8 d0 d1 B8 S8 => ?_⟩
          obtain ⟨j, rfl⟩ := Int.eq_ofNat_of_zero_le d0
          have hz : ∃ z : Str, z ∈ (["good", "bad", "", "no"] : List Str) ∧ ([.str "good", .str "bad", .str "", .str "no"] : List V)[j]? = some (.str z) := by
            match j, d1 with
            | 0, _ => exact ⟨_, by simp, rfl⟩
            | 1, _ => exact ⟨_, by simp, rfl⟩
            | 2, _ => exact ⟨_, by simp, rfl⟩
            | 3, _ => exact ⟨_, by simp, rfl⟩
            | j + 4, h => omega
          obtain ⟨z, mz, hj⟩ := hz
          refine ⟨q, _, _, _, rfl, rfl, SqL.of (B8 _ _ upd_same nq.1 nq.2), atI_nat hj, by show 2 ≤ sizeLine; decide, fun u hu => ?_⟩
          have su := same_mk (o := .tup [.str "end", .str z]) hu
          refine k (.ref u) (.fin z) _ (c7 + 1) (.fin upd_same) trivial mz (Nat.zero_le _) (B7.trans ((But.same sq).trans (B8.trans (But.same su)))) (S8.up su) ?_
          by_cases m0 : m = 0
          · rw [if_pos m0] at hc7
            omega
          · rw [if_neg m0] at hc7
            obtain ⟨m1, rfl⟩ := Nat.exists_eq_succ_of_ne_zero m0
            have : dW (m1 + 1) = 206 + 4 * dW m1 := rfl
            show c7 + 1 ≤ c + dW (m1 + 1)
            omega
end
end T6

set_option maxHeartbeats 3900000
namespace LW
open PySem PySem.Spec PyProof.Rows L2 TL
open C8 (pss_cut tCut pe_gc)
open CB
section
variable {J : It} {n : Nat} {G : Hp → Prop} {Y : Nat → Hp → V → Hp → Prop} {i j : Nat} {te : TE} {σ : L2.St} {H1 : Hp} {D : Addr} {Qd : Hp → Prop} {K : PySem.W.Frag}
end
end LW

set_option maxHeartbeats 3900000
namespace LW2
open PySem PySem.Spec PyProof.Rows L2 TL
open C8 (pss_cut tCut pe_gc)
open CB
section
variable {α : Type} {J : It} {n : Nat} {G : Hp → Prop} {Y : Nat → Hp → V → Hp → Prop} {i j : Nat} {tt : TT} {te : TE} {σ : L2.St} {H1 : Hp} {D : Addr} {Qd : Hp → Prop} {K : PySem.W.Frag}
end
end LW2

set_option maxHeartbeats 3900000
namespace T6
open PySem PySem.Spec PyProof.Rows L2 TL
open C8 (pss_cut tCut pe_gc)
open CB XW LE LR
section
variable {P : Program} {w : World} {K : PySem.W.Frag} {mg : Str → Option Value} {base : Heap}
end
end T6

set_option maxHeartbeats 3900000
namespace SX
open PySem PySem.Spec PyProof.Rows L2 PpSet
section
variable {P : Program} {w : World} {A : Around} {E : Value → Shared → Prop} {s : Shared}
end
end SX

set_option maxHeartbeats 3900000
namespace T6
open PySem PySem.Spec PyProof.Rows L2 TL RP
open CB
inductive Ch
  | put (p : List Str) (t : Str)
  | drop (p : List Str)
  | set (n : Str) (t : Option Str)
  | tool (t : Str)
structure St0 where
  f : List Str → Option Str
  s : Str → Option Str
  z : Str
def St0.do (a : St0) : Ch → St0
  | .put p t => ⟨fun q => if q = p then some t else a.f q, a.s, a.z⟩
  | .drop p => ⟨fun q => if q = p then none else a.f q, a.s, a.z⟩
  | .set n t => ⟨a.f, fun q => if q = n then t else a.s q, a.z⟩
  | .tool t => ⟨a.f, a.s, t⟩
end T6

set_option maxHeartbeats 3900000
namespace T6
open PySem PySem.Spec PyProof.Rows L2 TL
open C8 (pss_cut tCut pe_gc)
open CB XW LE LR
section
variable {P : Program} {w : World} {K : PySem.W.Frag} {mg : Str → Option Value} {base : Heap}
end
end T6

set_option maxHeartbeats 3900000
namespace STP
open PySem PySem.Spec PyProof.Rows L2
open C8 (pss_cut tCut pe_gc)
def Step (X : Cx) (st : Stmt) (A B : L2.St → Hp → Prop) : Prop := ∃ t, PS X st t ∧ ∀ (D : Ends) σ H, A σ H → (∀ σ' H', B σ' H' → D.nx σ' H') → t D σ H
def Steps (X : Cx) (ss : List Stmt) (A B : L2.St → Hp → Prop) : Prop := ∃ t, PSs X ss t ∧ ∀ (D : Ends) σ H, A σ H → (∀ σ' H', B σ' H' → D.nx σ' H') → t D σ H
theorem steps_cons {X : Cx} {st : Stmt} {ss : List Stmt} {A B C : L2.St → Hp → Prop} (h : Step X st A B) (r : Steps X ss B C) : Steps X (st :: ss) A C := by
  obtain ⟨t, p, q⟩ := h
  obtain ⟨u, p2, q2⟩ := r
  exact ⟨_, pss_cut p p2, fun D σ H a k => ⟨B, q _ σ H a fun _ _ b => b, fun σ' H' b => q2 D σ' H' b k⟩⟩
theorem steps_one {X : Cx} {st : Stmt} {A B : L2.St → Hp → Prop} (h : Step X st A B) : Steps X [st] A B := by
  obtain ⟨t, p, q⟩ := h
  exact ⟨_, pss_one p, fun D σ H a k => q D σ H a k⟩
def tW (X : Cx) (ss : List Stmt) : TS := fun D σ H => ∀ (pins : List (Addr × Obj)) (s : Shared), Inv X pins σ H s → wpAny (model X.prog X.w) X.A (execs ss X.env) (SP X pins D) X.xe s
theorem psW {X : Cx} {ss : List Stmt} : PSs X ss (tW X ss) := ⟨fun pins s σ H D I h => h pins s I⟩
theorem Steps.wish {X : Cx} {ss : List Stmt} {A B : L2.St → Hp → Prop} (h : Steps X ss A B) {D : Ends} {σ : L2.St} {H : Hp} (a : A σ H) (k : ∀ σ' H', B σ' H' → D.nx σ' H') : tW X ss D σ H := by
  obtain ⟨t, p, q⟩ := h
  exact fun pins s I => p.run pins s σ H D I (q D σ H a k)
def forBody : Stmt → List Stmt
  | .For _ _ b _ _ => b
  | _ => []
abbrev nth (ss : List Stmt) (i : Nat) : Stmt := ss.getD i (.Pass ⟨0, 0, 0, 0⟩)
end STP

set_option maxHeartbeats 3900000
namespace T6
open PySem PySem.Spec PyProof.Rows L2 TL
open C8 (pss_cut tCut pe_gc)
open STP CB XW LE LR RP FI
structure PlO (H : Hp) (st l p : Addr) (zs : List Str) : Prop where
  L : Pool H st l p zs
  nd : zs.Nodup
  z1 : 1 < zs.length
  z3 : zs.length ≤ 3
  nm : ∀ y ∈ zs, IsNm y
theorem on_sh {zs : List Str} {k : Lk} (h : LkOn zs 3 k) : ShN 3 k := by
  cases k with
  | rd p => exact h.2.1
  | ls p => exact h.1
  | se n => trivial
  | tl => trivial
inductive FineAll (dep : Nat) : List PyData → Nat → Prop
  | nil : FineAll dep [] 0
  | cons {d : PyData} {ds : List PyData} {n m : Nat} (h : Fine d dep n) (r : FineAll dep ds m) : FineAll dep (d :: ds) (n + 2 + m)
theorem FineAll.sh {dep m : Nat} {ds : List PyData} (h : FineAll dep ds m) : PyData.showableAll ds = true ∧ PyData.depthAll ds ≤ dep ∧ piled (PyData.shownAll ds) ≤ m := by
  induction h with
  | nil => exact ⟨by simp [PyData.showableAll], by simp [PyData.depthAll], by simp only [PyData.shownAll]; rw [piled_nil]; exact Nat.le_refl _⟩
  | cons h r ih =>
    obtain ⟨h1, h2, h3⟩ := ih
    refine ⟨by simp [PyData.showableAll, h.sh, h1], ?_, ?_⟩
    · have := h.dp
      simp only [PyData.depthAll]
      omega
    · have := h.sz
      simp only [PyData.shownAll]
      rw [piled_cons]
      omega
theorem FineAll.tup {dep m n : Nat} {ds : List PyData} (h : FineAll dep ds m) (hn : 3 + m ≤ n) : Fine (.tuple ds) (dep + 1) n := by
  obtain ⟨h1, h2, h3⟩ := h.sh
  refine ⟨by simp only [PyData.showable]; exact h1, by simp only [PyData.depth]; omega, ?_⟩
  simp only [PyData.shown]
  unfold tupleText
  rw [strLen_append, strLen_append]
  have e1 : ((("(" : String) : Str)).length = 1 := rfl
  have e3 : (((if (PyData.shownAll ds).length == 1 then ",)" else ")" : String) : Str)).length ≤ 2 := by
    by_cases q : ((PyData.shownAll ds).length == 1) = true
    · rw [if_pos q]
      exact Nat.le_refl _
    · rw [if_neg q]
      exact Nat.le_succ _
  by_cases e : PyData.shownAll ds = []
  · rw [e] at e3 ⊢
    have e4 : ((Str.ofString ", ").join ([] : List Str)).length = 0 := by decide +kernel
    rw [e1, e4]
    omega
  · have j := join_length_add (PyData.shownAll ds) e
    rw [e1]
    omega
mutual
def trD : Tr → PyData
  | .fin z => .tuple [.str "end", .str z]
  | .ask k cs o => .tuple [.str "ask", lkD k, .tuple (csD cs), trD o]
def csD : Cs → List PyData
  | [] => []
  | (a, t) :: r => .tuple [anD a, trD t] :: csD r
end
theorem lk_dqt {K : PySem.W.Frag} {H : Hp} {u : Addr} {k : Lk} (h : H u = some (.tup (lkV k))) : Dq K H (.ref u) (lkD k) := by
  rw [lkV_S] at h
  exact .tup h (dq_strs (lkS k))
theorem ents_dqt {K : PySem.W.Frag} {H : Hp} : ∀ l : List (Str × Bool), DqAll K H (l.map entV) ((l.map fun e => ent e.1 e.2).map PyData.str)
  | [] => .nil
  | e :: r => .cons (.str _) (ents_dqt r)
theorem an_dqt {K : PySem.W.Frag} {H : Hp} {v : V} {a : An} (h : AnAt H v a) : Dq K H v (anD a) := by
  cases a with
  | no => cases (show v = .non from h); exact .non
  | tx z => cases (show v = .str z from h); exact .str z
  | es l =>
    obtain ⟨p, rfl, hp⟩ := h
    exact .tup hp (ents_dqt l)
def bT : Nat → Nat
  | 0 => 200
  | d + 1 => 4 * bT d + 8000
theorem an_fine {k : Lk} {a : An} (d : Dn (k, a)) : Fine (anD a) 1 1900 := by
  cases a with
  | no => exact fine_non.up (by decide) (by decide)
  | tx z =>
    have oz : PyData.strOk z = true := d.ok.2.2
    refine (fine_str (n := 20) (fun c hc => ?_) d.an).up (by decide) (by decide)
    have := Array.all_eq_true_iff_forall_mem.mp oz c (Array.mem_toList_iff.mp hc)
    have := of_decide_eq_true this
    omega
  | es l =>
    refine fine_any (ents_fine d.ok.2.2.1) ?_ (Nat.le_refl 1) (.inl rfl)
    have : l.length ≤ 20 := d.sz.2
    rw [List.length_map, List.length_map]
    omega
theorem fine_word {z : Str} (h : z ∈ (["ask", "end", "good", "bad", "", "no"] : List Str)) : Fine (.str z) 0 42 := by
  refine fine_str (n := 4) ?_ ?_
  · have : (["ask", "end", "good", "bad", "", "no"] : List Str).all fun z => (tl z).all fun c => decide (c < 16 ^ 8) := by decide +kernel
    intro c hc
    exact of_decide_eq_true (List.all_eq_true.mp (List.all_eq_true.mp this z h) c hc)
  · have : (["ask", "end", "good", "bad", "", "no"] : List Str).all fun z => decide (z.length ≤ 4) := by decide +kernel
    exact of_decide_eq_true (List.all_eq_true.mp this z h)
mutual
theorem tr_fine {zs : List Str} (nm : ∀ y ∈ zs, IsNm y) : ∀ (t : Tr) (d : Nat) (ab : List Lk), OnT zs t → OkT ab t → dep t ≤ d → Fine (trD t) (3 * d + 1) (bT d)
  | .fin z, d, ab, on, _, _ => by
    unfold trD
    have h1 : 200 ≤ bT d := by
      cases d with
      | zero => exact Nat.le_refl _
      | succ d => unfold bT; omega
    have mz : z ∈ (["ask", "end", "good", "bad", "", "no"] : List Str) := List.mem_cons_of_mem _ (List.mem_cons_of_mem _ on)
    exact (FineAll.tup (.cons (fine_word (by simp)) (.cons (fine_word mz) .nil)) (by show 3 + (42 + 2 + (42 + 2 + 0)) ≤ 200; decide)).up (by omega) h1
  | .ask k cs o, 0, ab, _, _, h => by
    have h2 : dep (Tr.ask k cs o) = max (depC cs) (dep o) + 1 := by simp [dep]
    omega
  | .ask k cs o, d + 1, ab, on, ok, h => by
    unfold trD
    have h2 : dep (Tr.ask k cs o) = max (depC cs) (dep o) + 1 := by simp [dep]
    obtain ⟨on1, on2, on3, on4⟩ := on
    obtain ⟨k1, k2, k3, k4, k5, k6⟩ := ok
    have f1 : Fine (lkD k) 1 1900 := fine_any (lkS_fine k1 (on_sh on1)) (by have := lkS_len k; omega) (Nat.le_refl 1) (.inl rfl)
    obtain ⟨m, hm, fc⟩ := cs_fine nm cs d ab k on1 on3 k5 (by omega)
    have fo := tr_fine nm o d (ab ++ [k]) on4 k6 (by omega)
    have fcs : Fine (.tuple (csD cs)) (3 * d + 3) (3 + m) := FineAll.tup fc (Nat.le_refl _)
    have ml : m ≤ 3 * (1909 + bT d) := Nat.le_trans hm (Nat.mul_le_mul_right _ on2)
    refine (FineAll.tup (dep := 3 * d + 3) (.cons ((fine_word (by simp)).up (Nat.zero_le _) (Nat.le_refl _)) (.cons (f1.up (by omega) (Nat.le_refl _)) (.cons fcs (.cons (fo.up (by omega) (Nat.le_refl _)) .nil)))) ?_).up (by omega) (Nat.le_refl _)
    show _ ≤ 4 * bT d + 8000
    omega
theorem cs_fine {zs : List Str} (nm : ∀ y ∈ zs, IsNm y) : ∀ (cs : Cs) (d : Nat) (ab : List Lk) (k : Lk), LkOn zs 3 k → OnC zs cs → OkC ab k cs → depC cs ≤ d → ∃ m, m ≤ cs.length * (1909 + bT d) ∧ FineAll (3 * d + 2) (csD cs) m
  | [], d, ab, k, _, _, _, _ => ⟨0, Nat.zero_le _, by unfold csD; exact .nil⟩
  | (a, t) :: r, d, ab, k, onk, on, ok, h => by
    unfold csD
    have h1 : depC ((a, t) :: r) = max (dep t) (depC r) := by simp [depC]
    obtain ⟨m, hm, fc⟩ := cs_fine nm r d ab k onk on.2.2 ok.2.2 (by omega)
    have ft := tr_fine nm t d (ab ++ [k]) on.2.1 ok.2.1 (by omega)
    obtain ⟨_, as, sz⟩ := on_an on.1 onk nm
    have fa := an_fine ⟨ok.1, sz, as, on_sh onk⟩
    refine ⟨_, ?_, .cons (FineAll.tup (dep := 3 * d + 1) (.cons (fa.up (by omega) (Nat.le_refl _)) (.cons ft .nil)) (Nat.le_refl _)) fc⟩
    rw [List.length_cons, Nat.succ_mul]
    omega
end
end T6

set_option maxHeartbeats 3900000
namespace T6
open PySem PySem.Spec PyProof.Rows L2 TL RP FI
open CB XW LE LR
inductive Cse (α : Type)
  | odd (d : PyData)
  | ok (a : An) (t : α)
  | ans (d : PyData) (t : α)
inductive OT
  | fin (z : Str)
  | bad (d : PyData)
  | ask (k : Lk) (cs : List (Cse OT)) (o : OT)
abbrev Os := List (Cse OT)
inductive BadR (H : Hp) : V → Prop
  | no {v : V} (h : NoRow H v) : BadR H v
  | lst {a : Addr} {xs : List V} (h : H a = some (.lst xs)) (n2 : xs.length ≠ 2) (n4 : xs.length ≠ 4) : BadR H (.ref a)
  | len {a : Addr} {xs : List V} (h : H a = some (.tup xs)) (n2 : xs.length ≠ 2) (n4 : xs.length ≠ 4) : BadR H (.ref a)
  | twoW {a : Addr} {w : Str} {y : V} (h : H a = some (.tup [.str w, y])) (n : w ≠ "end") : BadR H (.ref a)
  | twoT {a : Addr} {y : V} (h : H a = some (.tup [.str "end", y])) (n : NoText H y) : BadR H (.ref a)
  | fourW {a : Addr} {w : Str} {x y z : V} (h : H a = some (.tup [.str w, x, y, z])) (n : w ≠ "ask") : BadR H (.ref a)
  | fourN {a y : Addr} {ys : List V} {z : V} (h : H a = some (.tup [.str "ask", .non, .ref y, z])) (hy : H y = some (.tup ys)) : BadR H (.ref a)
  | fourL {a u y : Addr} {ys : List V} {z : V} {t : Str} (h : H a = some (.tup [.str "ask", .ref u, .ref y, z])) (hu : H u = some (.tup [.str t])) (n : t ∉ (["read", "list", "setting", "tool"] : List Str)) (hy : H y = some (.tup ys)) (ok : Okz t) : BadR H (.ref a)
  | fourY {a u : Addr} {i : Int} {z : V} (h : H a = some (.tup [.str "ask", .ref u, .int i, z])) (hu : H u = some (.tup (lkV .tl))) : BadR H (.ref a)
inductive BadA (H : Hp) : V → Prop
  | bl (b : Bool) : BadA H (.bl b)
  | int (i : Int) : BadA H (.int i)
  | xy {q : Addr} (h : H q = some (.tup [.str "x/y"])) : BadA H (.ref q)
inductive BadC (H : Hp) : V → Prop
  | no {v : V} (h : v = .non ∨ ∃ i, v = .int i) : BadC H v
  | len {a : Addr} {xs : List V} (h : H a = some (.tup xs)) (n : xs.length ≠ 2) : BadC H (.ref a)
def BadT (K : PySem.W.Frag) (st l : Addr) (H : Hp) (v : V) (d : PyData) : Prop := ∀ H', But st l H H' → BadR H' v ∧ Dq K H' v d
def BadS (K : PySem.W.Frag) (st l : Addr) (H : Hp) (v : V) (d : PyData) : Prop := ∀ H', But st l H H' → BadC H' v ∧ Dq K H' v d
def BadV (K : PySem.W.Frag) (st l : Addr) (H : Hp) (v : V) (d : PyData) : Prop := ∀ H', But st l H H' → BadA H' v ∧ Dq K H' v d
theorem BadV.but {K : PySem.W.Frag} {st l : Addr} {H H' : Hp} {v : V} {d : PyData} (h : BadV K st l H v d) (B : But st l H H') : BadV K st l H' v d := fun H2 b => h H2 (B.trans b)
theorem BadT.but {K : PySem.W.Frag} {st l : Addr} {H H' : Hp} {v : V} {d : PyData} (h : BadT K st l H v d) (B : But st l H H') : BadT K st l H' v d := fun H2 b => h H2 (B.trans b)
theorem BadS.but {K : PySem.W.Frag} {st l : Addr} {H H' : Hp} {v : V} {d : PyData} (h : BadS K st l H v d) (B : But st l H H') : BadS K st l H' v d := fun H2 b => h H2 (B.trans b)
section
variable (K : PySem.W.Frag) (st l : Addr)
mutual
inductive OtAt (H : Hp) : V → OT → Prop
  | fin {p : Addr} {z : Str} (r : H p = some (.tup [.str "end", .str z])) : OtAt H (.ref p) (.fin z)
  | bad {v : V} {d : PyData} (b : BadT K st l H v d) : OtAt H v (.bad d)
  | ask {p kp cp : Addr} {ov : V} {xs : List V} {k : Lk} {cs : Os} {o : OT} (r : H p = some (.tup [.str "ask", .ref kp, .ref cp, ov])) (rk : H kp = some (.tup (lkV k))) (rc : H cp = some (.tup xs)) (c : OsAt H xs cs) (t : OtAt H ov o) : OtAt H (.ref p) (.ask k cs o)
inductive OsAt (H : Hp) : List V → Os → Prop
  | nil : OsAt H [] []
  | odd {v : V} {d : PyData} {xs : List V} {cs : Os} (b : BadS K st l H v d) (c : OsAt H xs cs) : OsAt H (v :: xs) (.odd d :: cs)
  | ok {p : Addr} {av tv : V} {xs : List V} {a : An} {t : OT} {cs : Os} (r : H p = some (.tup [av, tv])) (ha : AnAt H av a) (ht : OtAt H tv t) (c : OsAt H xs cs) : OsAt H (.ref p :: xs) (.ok a t :: cs)
  | ans {p : Addr} {av tv : V} {xs : List V} {d : PyData} {t : OT} {cs : Os} (r : H p = some (.tup [av, tv])) (b : BadV K st l H av d) (ht : OtAt H tv t) (c : OsAt H xs cs) : OsAt H (.ref p :: xs) (.ans d t :: cs)
end
end
section
variable {K : PySem.W.Frag} {st l : Addr}
mutual
theorem OtAt.but {H H' : Hp} (s : TupS H H') (B : But st l H H') : ∀ {v : V} {t : OT}, OtAt K st l H v t → OtAt K st l H' v t
  | _, _, .fin r => .fin (s _ _ r)
  | _, _, .bad b => .bad (b.but B)
  | _, _, .ask r rk rc c t => .ask (s _ _ r) (s _ _ rk) (s _ _ rc) (OsAt.but s B c) (OtAt.but s B t)
theorem OsAt.but {H H' : Hp} (s : TupS H H') (B : But st l H H') : ∀ {xs : List V} {cs : Os}, OsAt K st l H xs cs → OsAt K st l H' xs cs
  | _, _, .nil => .nil
  | _, _, .odd b c => .odd (b.but B) (OsAt.but s B c)
  | _, _, .ok r ha ht c => .ok (s _ _ r) (ha.tup s) (OtAt.but s B ht) (OsAt.but s B c)
  | _, _, .ans r b ht c => .ans (s _ _ r) (b.but B) (OtAt.but s B ht) (OsAt.but s B c)
end
theorem OtAt.up {H H' : Hp} (s : Same H H') {v : V} {t : OT} (h : OtAt K st l H v t) : OtAt K st l H' v t := h.but (TupS.of s) (But.same s)
theorem OsAt.up {H H' : Hp} (s : Same H H') {v : List V} {t : Os} (h : OsAt K st l H v t) : OsAt K st l H' v t := h.but (TupS.of s) (But.same s)
def CsO (K : PySem.W.Frag) (st l : Addr) (H : Hp) (x : V) : Cse OT → Prop
  | .odd d => BadS K st l H x d
  | .ok a t => ∃ p av tv, x = .ref p ∧ H p = some (.tup [av, tv]) ∧ AnAt H av a ∧ OtAt K st l H tv t
  | .ans d t => ∃ p av tv, x = .ref p ∧ H p = some (.tup [av, tv]) ∧ BadV K st l H av d ∧ OtAt K st l H tv t
theorem osAt_iff {H : Hp} : ∀ {xs : List V} {cs : Os}, OsAt K st l H xs cs ↔ xs.length = cs.length ∧ ∀ (i : Nat) (x : V) (c : Cse OT), xs[i]? = some x → cs[i]? = some c → CsO K st l H x c
  | [], [] => ⟨fun _ => ⟨rfl, fun i x c h => by cases h⟩, fun _ => .nil⟩
  | [], _ :: _ => ⟨fun h => (nomatch h), fun h => by cases h.1⟩
  | _ :: _, [] => ⟨fun h => (nomatch h), fun h => by cases h.1⟩
  | x :: xs, c :: cs => by
    constructor
    · intro h
      cases h with
      | odd b r =>
        obtain ⟨q1, q2⟩ := osAt_iff.mp r
        refine ⟨by rw [List.length_cons, List.length_cons, q1], fun i y e h1 h2 => ?_⟩
        cases i with
        | zero => cases h1; cases h2; exact b
        | succ i => exact q2 i y e h1 h2
      | ok r ha ht r2 =>
        obtain ⟨q1, q2⟩ := osAt_iff.mp r2
        refine ⟨by rw [List.length_cons, List.length_cons, q1], fun i y e h1 h2 => ?_⟩
        cases i with
        | zero => cases h1; cases h2; exact ⟨_, _, _, rfl, r, ha, ht⟩
        | succ i => exact q2 i y e h1 h2
      | ans r b ht r2 =>
        obtain ⟨q1, q2⟩ := osAt_iff.mp r2
        refine ⟨by rw [List.length_cons, List.length_cons, q1], fun i y e h1 h2 => ?_⟩
        cases i with
        | zero => cases h1; cases h2; exact ⟨_, _, _, rfl, r, b, ht⟩
        | succ i => exact q2 i y e h1 h2
    · rintro ⟨q1, q2⟩
      have r : OsAt K st l H xs cs := osAt_iff.mpr ⟨Nat.succ.inj q1, fun i y e h1 h2 => q2 (i + 1) y e h1 h2⟩
      have q := q2 0 x c rfl rfl
      cases c with
      | odd d => exact .odd q r
      | ok a t =>
        obtain ⟨p, av, tv, rfl, h1, h2, h3⟩ := q
        exact .ok h1 h2 h3 r
      | ans d t =>
        obtain ⟨p, av, tv, rfl, h1, h2, h3⟩ := q
        exact .ans h1 h2 h3 r
end
mutual
def depO : OT → Nat
  | .fin _ => 0
  | .bad _ => 0
  | .ask _ cs o => max (depS cs) (depO o) + 1
def depS : Os → Nat
  | [] => 0
  | .odd _ :: r => depS r
  | .ok _ t :: r => max (depO t) (depS r)
  | .ans _ t :: r => max (depO t) (depS r)
end
def depCs : Cse OT → Nat
  | .odd _ => 0
  | .ok _ t => depO t
  | .ans _ t => depO t
mutual
/-- the way to the first wrong place -/
def fw (ab : List Lk) : OT → Option (List Nat)
  | .fin _ => none
  | .bad _ => some []
  | .ask k cs o => if k ∈ ab then some [] else match fwC (ab ++ [k]) [] 0 cs with
    | some p => some p
    | none => match fw (ab ++ [k]) o with
      | some p => some (cs.length :: p)
      | none => none
def fwC (ab : List Lk) (seen : List An) (i : Nat) : Os → Option (List Nat)
  | [] => none
  | .odd _ :: _ => some [i]
  | .ans _ _ :: _ => some [i]
  | .ok a t :: r => if a ∈ seen then some [i] else match fw ab t with
    | some p => some (i :: p)
    | none => fwC ab (seen ++ [a]) (i + 1) r
end
mutual
/-- looks and answers are ones -/
def OkO : OT → Prop
  | .fin _ => True
  | .bad _ => True
  | .ask k cs o => LkOk k ∧ cs.length ≤ 20 ∧ OkS k cs ∧ OkO o
def OkS (k : Lk) : Os → Prop
  | [] => True
  | .odd _ :: r => OkS k r
  | .ok a t :: r => (SiOk' (k, a) ∧ OkO t) ∧ OkS k r
  | .ans _ t :: r => OkO t ∧ OkS k r
end
def OkCs (k : Lk) : Cse OT → Prop
  | .odd _ => True
  | .ok a t => SiOk' (k, a) ∧ OkO t
  | .ans _ t => OkO t
theorem okS_mem {k : Lk} : ∀ {cs : Os}, OkS k cs ↔ ∀ c ∈ cs, OkCs k c
  | [] => ⟨fun _ c h => (nomatch h), fun _ => trivial⟩
  | .odd d :: r => by
    rw [List.forall_mem_cons]
    exact ⟨fun h => ⟨trivial, (okS_mem (cs := r)).mp h⟩, fun h => (okS_mem (cs := r)).mpr h.2⟩
  | .ok a t :: r => by
    rw [List.forall_mem_cons]
    exact ⟨fun h => ⟨h.1, (okS_mem (cs := r)).mp h.2⟩, fun h => ⟨h.1, (okS_mem (cs := r)).mpr h.2⟩⟩
  | .ans d t :: r => by
    rw [List.forall_mem_cons]
    exact ⟨fun h => ⟨h.1, (okS_mem (cs := r)).mp h.2⟩, fun h => ⟨h.1, (okS_mem (cs := r)).mpr h.2⟩⟩
theorem depS_cons (c : Cse OT) (r : Os) : depS (c :: r) = max (depCs c) (depS r) := by
  cases c <;> (conv => lhs; unfold depS) <;> (try rfl)
theorem depS_mem : ∀ {cs : Os} {c : Cse OT}, c ∈ cs → depCs c ≤ depS cs
  | x :: r, c, h => by
    rw [depS_cons]
    rcases List.mem_cons.mp h with rfl | h
    · exact Nat.le_max_left _ _
    · exact Nat.le_trans (depS_mem h) (Nat.le_max_right _ _)
theorem depS_le : ∀ {cs : Os} {n : Nat}, (∀ c ∈ cs, depCs c ≤ n) → depS cs ≤ n
  | [], _, _ => Nat.zero_le _
  | x :: r, n, h => by
    rw [depS_cons]
    exact Nat.max_le.mpr ⟨h x List.mem_cons_self, depS_le fun c m => h c (List.mem_cons_of_mem _ m)⟩
theorem fwC_drop {ab : List Lk} {cs : Os} {i : Nat} {c : Cse OT} (h : cs[i]? = some c) {seen : List An} : fwC ab seen i (cs.drop i) = fwC ab seen i (c :: cs.drop (i + 1)) := by
  obtain ⟨lt, e⟩ := List.getElem?_eq_some_iff.mp h
  rw [List.drop_eq_getElem_cons lt, e]
theorem fwC_odd {ab : List Lk} {seen : List An} {i : Nat} {d : PyData} {r : Os} : fwC ab seen i (.odd d :: r) = some [i] := by
  unfold fwC
  rfl
theorem fwC_ans {ab : List Lk} {seen : List An} {i : Nat} {d : PyData} {t : OT} {r : Os} : fwC ab seen i (.ans d t :: r) = some [i] := by
  unfold fwC
  rfl
theorem fwC_rep {ab : List Lk} {seen : List An} {i : Nat} {a : An} {t : OT} {r : Os} (h : a ∈ seen) : fwC ab seen i (.ok a t :: r) = some [i] := by
  unfold fwC
  exact if_pos h
theorem fwC_in {ab : List Lk} {seen : List An} {i : Nat} {a : An} {t : OT} {r : Os} {p : List Nat} (h : a ∉ seen) (e : fw ab t = some p) : fwC ab seen i (.ok a t :: r) = some (i :: p) := by
  unfold fwC
  rw [if_neg h, e]
theorem fwC_next {ab : List Lk} {seen : List An} {i : Nat} {a : An} {t : OT} {r : Os} (h : a ∉ seen) (e : fw ab t = none) : fwC ab seen i (.ok a t :: r) = fwC ab (seen ++ [a]) (i + 1) r := by
  conv => lhs; unfold fwC
  rw [if_neg h, e]
theorem fwC_nil {ab : List Lk} {seen : List An} {i : Nat} : fwC ab seen i [] = none := by unfold fwC; rfl
theorem fw_fin {ab : List Lk} {z : Str} : fw ab (.fin z) = none := by unfold fw; rfl
theorem fw_bad {ab : List Lk} {d : PyData} : fw ab (.bad d) = some [] := by unfold fw; rfl
theorem fw_rep {ab : List Lk} {k : Lk} {cs : Os} {o : OT} (h : k ∈ ab) : fw ab (.ask k cs o) = some [] := by
  unfold fw
  exact if_pos h
theorem fw_cs {ab : List Lk} {k : Lk} {cs : Os} {o : OT} {p : List Nat} (h : k ∉ ab) (e : fwC (ab ++ [k]) [] 0 cs = some p) : fw ab (.ask k cs o) = some p := by
  unfold fw
  rw [if_neg h, e]
theorem fw_o {ab : List Lk} {k : Lk} {cs : Os} {o : OT} (h : k ∉ ab) (e : fwC (ab ++ [k]) [] 0 cs = none) : fw ab (.ask k cs o) = (fw (ab ++ [k]) o).map (cs.length :: ·) := by
  conv => lhs; unfold fw
  rw [if_neg h, e]
  dsimp only
  cases fw (ab ++ [k]) o <;> rfl
end T6

set_option maxHeartbeats 3900000
namespace T6
open PySem PySem.Spec PyProof.Rows L2 TL
open C8 (pss_cut tCut pe_gc)
open CB XW LE LR
def isFin : OT → Bool
  | .fin _ => true
  | _ => false
def spIEX (K : PySem.W.Frag) (st l : Addr) : Sp := fun vs H Q _ => ∃ v t, vs = [v] ∧ OtAt K st l H v t ∧ ∀ H', Same H H' → Q (.bl (isFin t)) H'
def LkRO (H : Hp) (v : V) : OT → Prop
  | .ask k _ _ => ∃ p, v = .ref p ∧ H p = some (.tup (lkV k))
  | _ => v = .non
def spLoAX (K : PySem.W.Frag) (st l : Addr) : Sp := fun vs H Q _ => ∃ v t, vs = [v] ∧ OtAt K st l H v t ∧ OkO t ∧ isFin t = false ∧ ∀ r H', Same H H' → LkRO H' r t → Q r H'
theorem BadT.now {K : PySem.W.Frag} {st l : Addr} {H : Hp} {v : V} {d : PyData} (h : BadT K st l H v d) : BadR H v := (h H But.refl).1
theorem BadS.now {K : PySem.W.Frag} {st l : Addr} {H : Hp} {v : V} {d : PyData} (h : BadS K st l H v d) : BadC H v := (h H But.refl).1
theorem len4 {xs : List V} (h : xs.length ≠ 4) : decide ((xs.length : Int) = 4) = false := decide_eq_false fun z => h (by omega)
theorem nat_ne {n m : Nat} (h : n ≠ m) : ¬ ((n : Nat) : Int) = (m : Int) := fun z => h (by omega)
section
variable {P : Program} {w : World} {K : PySem.W.Frag} {mg : Str → Option Value} {base : Heap} {st l : Addr}
theorem ok_iex {f fR : Addr} {fd fdR : FuncData} (F : Fun K "is_end" "is_end" sIE f fd) (T : TB mg) (aRow : At K mg "is_row" fR fdR ["thing", "size"]) (GRow : FnOk P w K mg base CX0 1 fR fdR ["thing", "size"] spRow2) : FnOk P w K mg base CX0 2 f fd ["thing"] (spIEX K st l) := by
  refine F.ok scIE (fun vs H Q E h => ?_) (fun cdv A outer s H vs Q E hr h => ?_)
  · obtain ⟨v, t, rfl, _⟩ := h
    rfl
  · obtain ⟨v, t, rfl, ht, k⟩ := h
    refine ⟨_, pss_one (ps_ret (pe_and (pe_call GRow (hr.mono (by decide)) rfl aRow.m aRow.k aRow.b .nil pass0 (pa_cons (pv 0) (pa_cons pe_int pa_nil))) (pe_and (pe_callB call_isi (by rfl) T.isinstance (by decide +kernel) (pa_cons (pe_ix ix_row (pv 0) pe_int (fun _ _ => rfl)) (pa_cons (pe_bltn (v := .ty "str") (by rfl) T.str (by decide +kernel) rfl) pa_nil))) (pe_and (pe_cmpR op_eq (pe_ix ix_row (pv 0) pe_int (fun _ _ => rfl)) pe_str (nomark _)) (pe_one (pe_callB call_isi (by rfl) T.isinstance (by decide +kernel) (pa_cons (pe_ix ix_row (pv 0) pe_int (fun _ _ => rfl)) (pa_cons (pe_bltn (v := .ty "str") (by rfl) T.str (by decide +kernel) rfl) pa_nil)))))))), ?_⟩
    cases ht with
    | fin r =>
      have r0 : RowAt H (.ref _) _ := ⟨_, rfl, .inl r⟩
      refine ⟨_, rfl, .inl ⟨_, _, 2, rfl, r0, fun H1 s1 => ?_⟩⟩
      have r1 := r0.up s1
      exact ⟨_, rfl, iteY rfl ⟨_, rfl, _, 0, _, r1, rfl, atI_nat (j := 0) rfl, _, _, .type "str", .type "str", true, rfl, .ty "str", .base (.str _), kit_ty (by decide +kernel), _, rfl, iteT ⟨_, rfl, _, 0, _, r1, rfl, atI_nat (j := 0) rfl, rfl, _, rfl, iteY rfl ⟨_, rfl, _, 1, _, r1, rfl, atI_nat (j := 1) rfl, _, _, .type "str", .type "str", true, rfl, .ty "str", .base (.str _), kit_ty (by decide +kernel), k H1 s1⟩⟩⟩⟩
    | ask r rk rc c t =>
      have r0 : RowAt H (.ref _) _ := ⟨_, rfl, .inl r⟩
      exact ⟨_, rfl, .inl ⟨_, _, 2, rfl, r0, fun H1 s1 => ⟨_, rfl, iteN (by show ¬ ((4 : Nat) : Int) = 2; decide) (k H1 s1)⟩⟩⟩
    | bad b =>
      have row : ∀ {a : Addr} {xs : List V}, RowAt H (.ref a) xs → xs.length ≠ 2 → Q (.bl false) H → True := fun _ _ _ => trivial
      cases b.now with
      | no h => exact ⟨_, rfl, .inr ⟨_, 2, rfl, h, fun H1 s1 => ⟨_, rfl, iteF (k H1 s1)⟩⟩⟩
      | lst h n2 n4 => exact ⟨_, rfl, .inl ⟨_, _, 2, rfl, ⟨_, rfl, .inr h⟩, fun H1 s1 => ⟨_, rfl, iteN (nat_ne n2) (k H1 s1)⟩⟩⟩
      | len h n2 n4 => exact ⟨_, rfl, .inl ⟨_, _, 2, rfl, ⟨_, rfl, .inl h⟩, fun H1 s1 => ⟨_, rfl, iteN (nat_ne n2) (k H1 s1)⟩⟩⟩
      | twoW h n =>
        have r0 : RowAt H (.ref _) _ := ⟨_, rfl, .inl h⟩
        refine ⟨_, rfl, .inl ⟨_, _, 2, rfl, r0, fun H1 s1 => ?_⟩⟩
        have r1 := r0.up s1
        exact ⟨_, rfl, iteY rfl ⟨_, rfl, _, 0, _, r1, rfl, atI_nat (j := 0) rfl, _, _, .type "str", .type "str", true, rfl, .ty "str", .base (.str _), kit_ty (by decide +kernel), _, rfl, iteT ⟨_, rfl, _, 0, _, r1, rfl, atI_nat (j := 0) rfl, rfl, _, rfl, iteN (fun z => n (V.str.inj z)) (k H1 s1)⟩⟩⟩
      | twoT h n =>
        have r0 : RowAt H (.ref _) _ := ⟨_, rfl, .inl h⟩
        refine ⟨_, rfl, .inl ⟨_, _, 2, rfl, r0, fun H1 s1 => ?_⟩⟩
        have r1 := r0.up s1
        obtain ⟨t0, ty, kt⟩ := (n.up s1).ty (K := K)
        exact ⟨_, rfl, iteY rfl ⟨_, rfl, _, 0, _, r1, rfl, atI_nat (j := 0) rfl, _, _, .type "str", .type "str", true, rfl, .ty "str", .base (.str _), kit_ty (by decide +kernel), _, rfl, iteT ⟨_, rfl, _, 0, _, r1, rfl, atI_nat (j := 0) rfl, rfl, _, rfl, iteY rfl ⟨_, rfl, _, 1, _, r1, rfl, atI_nat (j := 1) rfl, _, _, .type t0, .type "str", false, rfl, .ty "str", ty, kt, k H1 s1⟩⟩⟩⟩
      | fourW h n => exact ⟨_, rfl, .inl ⟨_, _, 2, rfl, ⟨_, rfl, .inl h⟩, fun H1 s1 => ⟨_, rfl, iteN (by show ¬ ((4 : Nat) : Int) = 2; decide) (k H1 s1)⟩⟩⟩
      | fourN h hy => exact ⟨_, rfl, .inl ⟨_, _, 2, rfl, ⟨_, rfl, .inl h⟩, fun H1 s1 => ⟨_, rfl, iteN (by show ¬ ((4 : Nat) : Int) = 2; decide) (k H1 s1)⟩⟩⟩
      | fourL h hu n hy => exact ⟨_, rfl, .inl ⟨_, _, 2, rfl, ⟨_, rfl, .inl h⟩, fun H1 s1 => ⟨_, rfl, iteN (by show ¬ ((4 : Nat) : Int) = 2; decide) (k H1 s1)⟩⟩⟩
      | fourY h hu => exact ⟨_, rfl, .inl ⟨_, _, 2, rfl, ⟨_, rfl, .inl h⟩, fun H1 s1 => ⟨_, rfl, iteN (by show ¬ ((4 : Nat) : Int) = 2; decide) (k H1 s1)⟩⟩⟩
theorem ok_loax {f fR fL : Addr} {fd fdR fdL : FuncData} (F : Fun K "look_of_ask" "look_of_ask" sLoA f fd) (T : TB mg) (aRow : At K mg "is_row" fR fdR ["thing", "size"]) (GRow : FnOk P w K mg base CX0 1 fR fdR ["thing", "size"] spRow2)
    (aAsLook : At K mg "as_look" fL fdL ["thing"]) (GAsLook : FnOk P w K mg base CX0 5 fL fdL ["thing"] spAsLook2) : FnOk P w K mg base CX0 6 f fd ["thing"] (spLoAX K st l) := by
  refine F.ok scLoA (fun vs H Q E h => ?_) (fun cdv A outer s H vs Q E hr h => ?_)
  · obtain ⟨v, t, rfl, _⟩ := h
    rfl
  · obtain ⟨v, t, rfl, ht, ok, nf, k⟩ := h
    have hu := hr.units
    refine ⟨_, pss_cons (ps_if (PW.pt (pw_or (pt_not (pt_val (pe_call GRow (hr.mono (by decide)) rfl aRow.m aRow.k aRow.b .nil pass0 (pa_cons (pv 0) (pa_cons pe_int pa_nil))))) (pw_or (pt_not (pt_val (pe_callB call_isi (by rfl) T.isinstance (by decide +kernel) (pa_cons (pe_ix ix_row (pv 0) pe_int (fun _ _ => rfl)) (pa_cons (pe_bltn (v := .ty "str") (by rfl) T.str (by decide +kernel) rfl) pa_nil))))) (pw_or1 (pt_cmpR op_ne (pe_ix ix_row (pv 0) pe_int (fun _ _ => rfl)) pe_str (nomark _)))))) (pss_one (ps_ret pe_non)) (pss_nil))
            (pss_one (ps_ret (pe_ifExp (pt_val (pe_callB isi_LT (by rfl) T.isinstance (by decide +kernel) (pa_cons (pe_ix ix_row (pv 0) pe_int (fun _ _ => rfl)) (pa_cons (pe_tup (pa_cons (pe_bltn (v := .ty "list") (by rfl) T.list (by decide +kernel) rfl) (pa_cons (pe_bltn (v := .ty "tuple") (by rfl) T.tuple (by decide +kernel) rfl) pa_nil))) pa_nil)))) (pe_call GAsLook (hr.mono (by decide)) rfl aAsLook.m aAsLook.k aAsLook.b .nil pass0 (pa_cons (pe_ix ix_row (pv 0) pe_int (fun _ _ => rfl)) pa_nil)) pe_non))), ?_⟩
    -- a row of four, whose first is a text
    have four : ∀ {a : Addr} {wd : Str} {x y z : V}, H a = some (.tup [.str wd, x, y, z]) → ∀ {R : Hp → Prop}, True := fun _ => trivial
    cases ht with
    | fin r => cases nf
    | ask r rk rc c t =>
      have r0 : RowAt H (.ref _) _ := ⟨_, rfl, .inl r⟩
      refine ⟨_, rfl, .inl ⟨_, _, 4, rfl, r0, fun H1 s1 => ⟨_, rfl, iteF ?_⟩⟩⟩
      have r1 := r0.up s1
      refine ⟨_, rfl, _, 0, _, r1, rfl, atI_nat (j := 0) rfl, _, _, .type "str", .type "str", true, rfl, .ty "str", .base (.str _), kit_ty (by decide +kernel), _, rfl, iteF ⟨_, rfl, _, 0, _, r1, rfl, atI_nat (j := 0) rfl, rfl, _, rfl, iteF ?_⟩⟩
      refine ⟨_, rfl, _, 2, _, r1, rfl, atI_nat (j := 2) rfl, by show 2 ≤ sizeLine; decide, fun tp ht => ⟨_, tp, true, rfl, upd_same, .inl ⟨rfl, _, ⟨_, rfl, .inl ((s1.trans (same_mk ht)) _ _ rc)⟩⟩, _, rfl, iteT ?_⟩⟩
      have s2 := s1.trans (same_mk (o := .tup [.ty "list", .ty "tuple"]) ht)
      exact ⟨_, rfl, _, 1, _, r0.up s2, rfl, atI_nat (j := 1) rfl, .inl ⟨_, _, rfl, ⟨_, rfl, .inl (s2 _ _ rk)⟩, ok.1, fun p H3 s3 hp => k _ H3 (s2.trans s3) ⟨p, rfl, hp⟩⟩⟩
    | bad b =>
      have k : ∀ H', Same H H' → Q .non H' := fun H' s' => k .non H' s' rfl
      cases b.now with
      | no h => exact ⟨_, rfl, .inr ⟨_, 4, rfl, h, fun H1 s1 => ⟨_, rfl, iteT (k H1 s1)⟩⟩⟩
      | lst h n2 n4 => exact ⟨_, rfl, .inl ⟨_, _, 4, rfl, ⟨_, rfl, .inr h⟩, fun H1 s1 => ⟨false, by rw [len4 n4], iteT (k H1 s1)⟩⟩⟩
      | len h n2 n4 => exact ⟨_, rfl, .inl ⟨_, _, 4, rfl, ⟨_, rfl, .inl h⟩, fun H1 s1 => ⟨false, by rw [len4 n4], iteT (k H1 s1)⟩⟩⟩
      | twoW h n => exact ⟨_, rfl, .inl ⟨_, _, 4, rfl, ⟨_, rfl, .inl h⟩, fun H1 s1 => ⟨_, rfl, iteT (k H1 s1)⟩⟩⟩
      | twoT h n => exact ⟨_, rfl, .inl ⟨_, _, 4, rfl, ⟨_, rfl, .inl h⟩, fun H1 s1 => ⟨_, rfl, iteT (k H1 s1)⟩⟩⟩
      | fourW h n =>
        have r0 : RowAt H (.ref _) _ := ⟨_, rfl, .inl h⟩
        refine ⟨_, rfl, .inl ⟨_, _, 4, rfl, r0, fun H1 s1 => ⟨_, rfl, iteF ?_⟩⟩⟩
        have r1 := r0.up s1
        refine ⟨_, rfl, _, 0, _, r1, rfl, atI_nat (j := 0) rfl, _, _, .type "str", .type "str", true, rfl, .ty "str", .base (.str _), kit_ty (by decide +kernel), _, rfl, iteF ⟨_, rfl, _, 0, _, r1, rfl, atI_nat (j := 0) rfl, rfl, ?_⟩⟩
        rw [decide_eq_false (fun z => n (V.str.inj z))]
        exact ⟨_, rfl, iteT (k H1 s1)⟩
      | fourN h hy =>
        have r0 : RowAt H (.ref _) _ := ⟨_, rfl, .inl h⟩
        refine ⟨_, rfl, .inl ⟨_, _, 4, rfl, r0, fun H1 s1 => ⟨_, rfl, iteF ?_⟩⟩⟩
        have r1 := r0.up s1
        refine ⟨_, rfl, _, 0, _, r1, rfl, atI_nat (j := 0) rfl, _, _, .type "str", .type "str", true, rfl, .ty "str", .base (.str _), kit_ty (by decide +kernel), _, rfl, iteF ⟨_, rfl, _, 0, _, r1, rfl, atI_nat (j := 0) rfl, rfl, _, rfl, iteF ?_⟩⟩
        refine ⟨_, rfl, _, 2, _, r1, rfl, atI_nat (j := 2) rfl, by show 2 ≤ sizeLine; decide, fun tp ht => ⟨_, tp, true, rfl, upd_same, .inl ⟨rfl, _, ⟨_, rfl, .inl ((s1.trans (same_mk ht)) _ _ hy)⟩⟩, _, rfl, iteT ?_⟩⟩
        have s2 := s1.trans (same_mk (o := .tup [.ty "list", .ty "tuple"]) ht)
        exact ⟨_, rfl, _, 1, _, r0.up s2, rfl, atI_nat (j := 1) rfl, .inr ⟨_, rfl, .no .non, fun H3 s3 => k H3 (s2.trans s3)⟩⟩
      | @fourL a u y ys z tt h hu' n hy =>
        have r0 : RowAt H (.ref _) _ := ⟨_, rfl, .inl h⟩
        refine ⟨_, rfl, .inl ⟨_, _, 4, rfl, r0, fun H1 s1 => ⟨_, rfl, iteF ?_⟩⟩⟩
        have r1 := r0.up s1
        refine ⟨_, rfl, _, 0, _, r1, rfl, atI_nat (j := 0) rfl, _, _, .type "str", .type "str", true, rfl, .ty "str", .base (.str _), kit_ty (by decide +kernel), _, rfl, iteF ⟨_, rfl, _, 0, _, r1, rfl, atI_nat (j := 0) rfl, rfl, _, rfl, iteF ?_⟩⟩
        refine ⟨_, rfl, _, 2, _, r1, rfl, atI_nat (j := 2) rfl, by show 2 ≤ sizeLine; decide, fun tp ht => ⟨_, tp, true, rfl, upd_same, .inl ⟨rfl, _, ⟨_, rfl, .inl ((s1.trans (same_mk ht)) _ _ hy)⟩⟩, _, rfl, iteT ?_⟩⟩
        have s2 := s1.trans (same_mk (o := .tup [.ty "list", .ty "tuple"]) ht)
        exact ⟨_, rfl, _, 1, _, r0.up s2, rfl, atI_nat (j := 1) rfl, .inr ⟨_, rfl, .row ⟨u, rfl, .inl (s2 _ _ hu')⟩ (.one fun e => n (by rw [e]; simp)), fun H3 s3 => k H3 (s2.trans s3)⟩⟩
      | fourY h hu' =>
        have r0 : RowAt H (.ref _) _ := ⟨_, rfl, .inl h⟩
        refine ⟨_, rfl, .inl ⟨_, _, 4, rfl, r0, fun H1 s1 => ⟨_, rfl, iteF ?_⟩⟩⟩
        have r1 := r0.up s1
        refine ⟨_, rfl, _, 0, _, r1, rfl, atI_nat (j := 0) rfl, _, _, .type "str", .type "str", true, rfl, .ty "str", .base (.str _), kit_ty (by decide +kernel), _, rfl, iteF ⟨_, rfl, _, 0, _, r1, rfl, atI_nat (j := 0) rfl, rfl, _, rfl, iteF ?_⟩⟩
        exact ⟨_, rfl, _, 2, _, r1, rfl, atI_nat (j := 2) rfl, by show 2 ≤ sizeLine; decide, fun tp ht => ⟨_, tp, false, rfl, upd_same, .inr ⟨rfl, .inr (.inr (.inl ⟨_, rfl⟩))⟩, _, rfl, iteF (k _ (s1.trans (same_mk ht)))⟩⟩
end
end T6

set_option maxHeartbeats 3900000
namespace T6
open PySem PySem.Spec PyProof.Rows L2 TL
open C8 (pss_cut tCut pe_gc)
open CB XW LE LR
mutual
theorem conv {K : PySem.W.Frag} {st l : Addr} {H : Hp} : ∀ {v : V} {t : OT} {ab : List Lk}, OtAt K st l H v t → OkO t → fw ab t = none → ∃ tr, TrAt H v tr ∧ OkT ab tr ∧ dep tr ≤ depO t
  | _, _, ab, .fin (z := z) r, _, _ => ⟨.fin z, .fin r, trivial, Nat.le_refl _⟩
  | _, _, ab, .bad b, _, e => by rw [fw_bad] at e; cases e
  | _, .ask k cs o, ab, .ask r rk rc c t, ok, e => by
    obtain ⟨lok, cl, okc, oko⟩ := ok
    by_cases h : k ∈ ab
    · rw [fw_rep h] at e
      cases e
    cases ec : fwC (ab ++ [k]) [] 0 cs with
    | some p =>
      rw [fw_cs h ec] at e
      cases e
    | none =>
      rw [fw_o h ec] at e
      have eo : fw (ab ++ [k]) o = none := by
        cases q : fw (ab ++ [k]) o with
        | none => rfl
        | some p => rw [q] at e; cases e
      obtain ⟨tr, h1, h2, h3⟩ := conv t oko eo
      obtain ⟨ct, g1, g2, g3, g4, g5, g6⟩ := convC c okc ec
      refine ⟨.ask k ct tr, .ask r rk rc g1 h1, ⟨lok, h, g4, by omega, g2, h2⟩, ?_⟩
      show max (depC ct) (dep tr) + 1 ≤ max (depS cs) (depO o) + 1
      omega
theorem convC {K : PySem.W.Frag} {st l : Addr} {H : Hp} : ∀ {xs : List V} {cs : Os} {ab : List Lk} {k : Lk} {seen : List An} {i : Nat}, OsAt K st l H xs cs → OkS k cs → fwC (ab ++ [k]) seen i cs = none → ∃ ct : Cs, CsAt H xs ct ∧ OkC ab k ct ∧ ct.length = cs.length ∧ (ct.map (·.1)).Nodup ∧ (∀ a ∈ ct.map (·.1), a ∉ seen) ∧ depC ct ≤ depS cs
  | _, _, ab, k, seen, i, .nil, _, _ => ⟨[], .nil, trivial, rfl, List.nodup_nil, (fun a h => by cases h), Nat.le_refl _⟩
  | _, _, ab, k, seen, i, .odd b c, _, e => by rw [fwC_odd] at e; cases e
  | _, _, ab, k, seen, i, .ans r b ht c, _, e => by rw [fwC_ans] at e; cases e
  | _, .ok a t :: cs, ab, k, seen, i, .ok r ha ht c, ok, e => by
    by_cases h : a ∈ seen
    · rw [fwC_rep h] at e
      cases e
    cases et : fw (ab ++ [k]) t with
    | some p =>
      rw [fwC_in h et] at e
      cases e
    | none =>
      rw [fwC_next h et] at e
      obtain ⟨tr, h1, h2, h3⟩ := conv ht ok.1.2 et
      obtain ⟨ct, g1, g2, g3, g4, g5, g6⟩ := convC c ok.2 e
      refine ⟨(a, tr) :: ct, .cons r ha h1 g1, ⟨ok.1.1, h2, g2⟩, by rw [List.length_cons, List.length_cons, g3], ?_, fun x hx => ?_, ?_⟩
      · rw [List.map_cons]
        exact List.nodup_cons.mpr ⟨fun m => g5 a m (List.mem_append_right _ (List.mem_singleton.mpr rfl)), g4⟩
      · rw [List.map_cons] at hx
        rcases List.mem_cons.mp hx with rfl | hx
        · exact h
        · exact fun m => g5 x hx (List.mem_append_left _ m)
      · show max (dep tr) (depC ct) ≤ max (depO t) (depS cs)
        omega
end
theorem BadA.up {H H' : Hp} {v : V} (h : BadA H v) (s : Same H H') : BadA H' v := by
  cases h with
  | bl b => exact .bl b
  | int i => exact .int i
  | xy h => exact .xy (s _ _ h)
theorem xy_bad : decide (IsNm (Txt.removesuffix "x/y" "/")) = false ∧ Sh "x/y" ∧ Sh (Txt.removesuffix "x/y" "/") := by
  have e : Txt.removesuffix "x/y" "/" = "x/y" := by decide +kernel
  have l : Sh "x/y" := by show ("x/y" : Str).length ≤ 1000; decide +kernel
  rw [e]
  refine ⟨decide_eq_false fun h => ?_, l, l⟩
  have := h.2.2 47 (by decide +kernel)
  omega
theorem badA_no {H : Hp} {v : V} (h : BadA H v) (k : Lk) : AnNo H v k := by
  have nt : NoText H v := by
    cases h with
    | bl b => exact .bl b
    | int i => exact .int i
    | xy h => exact .tup h
  have nn : v ≠ .non := by
    cases h <;> (intro z; cases z)
  cases k with
  | rd p => exact .rd nt nn
  | se n => exact .se nt nn
  | tl => exact .tl nt nn
  | ls p =>
    refine .lsB ?_ nn
    cases h with
    | bl b => exact .row (.bl b)
    | int i => exact .row (.int i)
    | xy h => exact .bad (zs := [(.str "x/y", false)]) ⟨_, rfl, .inl h⟩ (fun z hz => by rw [List.mem_singleton.mp hz]; exact .inl ⟨_, rfl, xy_bad.2.1, xy_bad.2.2, xy_bad.1.symm⟩) rfl (by decide)
theorem seen_no {seen : List An} {a : An} (w : ∀ x ∈ seen, AnW x) (wa : AnW a) (h : a ∉ seen) : DA.kat (seen.map fun x => (anK x, V.bl true)) (anK a) = none := DA.kat_none fun x hx e => by
  obtain ⟨c, hc, rfl⟩ := List.mem_map.mp hx
  have e : anK c = anK a := e
  rw [anK_inj (w c hc) wa e] at hc
  exact h hc
theorem seen_yes {seen : List An} {a : An} (h : a ∈ seen) : (DA.kat (seen.map fun x => (anK x, V.bl true)) (anK a)).isSome = true := by
  unfold DA.kat
  rw [Option.isSome_map, List.find?_isSome]
  exact ⟨(anK a, V.bl true), List.mem_map.mpr ⟨a, h, rfl⟩, decide_eq_true rfl⟩
theorem toX {P : Program} {w : World} {K : PySem.W.Frag} {mg : Str → Option Value} {base : Heap} {k : Nat} {f : Addr} {fd : FuncData} {ps : List Str} {sp : Sp} (F : FnOk P w K mg base CX0 k f fd ps sp) : FnOk P w K mg base (CX P w) k f fd ps sp := by
  refine ⟨F.len, fun A outer s H args us vs Q E hr he hb hv h => codeAny_mono (F.run A outer s H args us vs Q E hr he hb hv h) fun r t q => ?_⟩
  cases r with
  | ok fl => cases fl <;> exact q
  | error e => exact q.elim
def WantP (CBS : Addr) (H : Hp) (pl : List Nat) (E : XK) : Prop := ∀ q d H', Same H H' → H' q = some (.tup (pl.map fun i : Nat => V.int (i : Int))) → H d = none → H' d = some (.xd [(("place" : Str), .ref q)]) → E (.ref CBS) (some d) H'
theorem WantP.up {CBS : Addr} {H H1 : Hp} {pl : List Nat} {E : XK} (h : WantP CBS H pl E) (s : Same H H1) : WantP CBS H1 pl E := fun q d H' s' hq hd hx => h q d H' (s.trans s') hq (s.free hd) hx
theorem WantP.at {CBS : Addr} {H : Hp} {pl : List Nat} {E : XK} {q : Addr} (h : WantP CBS H pl E) (hq : H q = some (.tup (pl.map fun i : Nat => V.int (i : Int)))) : EWant H "place" CBS (.ref q) E := fun d H' s hd hx => h q d H' s (s _ _ hq) hd hx
def plV (pl : List Nat) : List V := pl.map fun i : Nat => V.int (i : Int)
def spPTE (K : PySem.W.Frag) (st l CBS : Addr) (n : Nat) : Sp := fun vs H Q E => ∃ v pa aa t pl abv ab p, vs = [v, .ref pa, .ref aa] ∧ OtAt K st l H v t ∧ OkO t ∧ depO t < n ∧ H pa = some (.tup (plV pl)) ∧ pl.length + depO t ≤ 50 ∧ H aa = some (.tup abv) ∧ LksT H abv ab ∧ ab.length + depO t ≤ 50 ∧ (∀ k ∈ ab, LkW k) ∧
  fw ab t = some p ∧ WantP CBS H (pl ++ p) E
abbrev BSt (K : PySem.W.Frag) (mg : Str → Option Value) (C f : Addr) : Prop := ECl K mg "BadStep" "place" C f
abbrev sStIni : Stmt := inClass (top 3) 0
section
variable {P : Program} {w : World} {K : PySem.W.Frag} {mg : Str → Option Value} {base : Heap} {st l CBS fBS : Addr} {fdBS : FuncData}
theorem scStIni : FnScope ["self", "place"] ["self", "place"] (defScope sStIni) := ⟨rfl, rfl, rfl, by decide +kernel, rfl, by decide +kernel, by decide +kernel⟩
theorem ok_stini {f : Addr} {fd : FuncData} (F : Fun K "__init__" "BadStep.__init__" sStIni f fd) (B : BSt K mg CBS fBS) : FnOk P w K mg base CX0 1 f fd ["self", "place"] (spEIni "place" CBS) := by
  refine F.ok scStIni (fun vs H Q E h => ?_) (fun cdv A outer s H vs Q E hr h => ?_)
  · obtain ⟨a, x, rfl, _⟩ := h
    rfl
  · obtain ⟨a, x, rfl, ha, k⟩ := h
    exact ⟨_, pss_one (ps_ost (pv 0) (pv 1) rfl), _, rfl, _, rfl, a, CBS, rfl, B.ox, B.no, .inl ⟨ha, fun dx hdx hne => k dx hdx hne⟩⟩
theorem ok_pte {f fE fL fS fR : Addr} {fd fdE fdL fdS fdR : FuncData} (F : Fun K "plain_tree" "plain_tree" sPT f fd) (T : TB mg) (BBSt : BSt K mg CBS fBS) (bBBSt : L2.Binds K fdBS ["self", "place"] []) (GBBSt : FnOk P w K mg base CX0 1 fBS fdBS ["self", "place"] (spEIni "place" CBS)) (aPT : At K mg "plain_tree" f fd ["thing", "place", "above"]) (GPT0 : ∀ n, FnOk P w K mg base CX0 (7 + n) f fd ["thing", "place", "above"] (spPT n)) (aIsE : At K mg "is_end" fE fdE ["thing"]) (GIsE : FnOk P w K mg base CX0 2 fE fdE ["thing"] (spIEX K st l))
    (aLoA : At K mg "look_of_ask" fL fdL ["thing"]) (GLoA : FnOk P w K mg base CX0 6 fL fdL ["thing"] (spLoAX K st l)) (aAsSight : At K mg "as_sight" fS fdS ["thing"]) (GAsSight : FnOk P w K mg base CX0 6 fS fdS ["thing"] spAsSight2)
    (aRow : At K mg "is_row" fR fdR ["thing", "size"]) (GRow : FnOk P w K mg base CX0 1 fR fdR ["thing", "size"] spRow2) : ∀ n, FnOk P w K mg base (CX P w) (7 + n) f fd ["thing", "place", "above"] (spPTE K st l CBS n) := by
  intro n
  induction n with
  | zero =>
    refine ⟨fun vs H Q E h => ?_, fun A outer s H args us vs Q E hr he hb hv h => ?_⟩
    · obtain ⟨v, pa, aa, t, pl, abv, ab, p, rfl, _⟩ := h
      rfl
    · obtain ⟨v, pa, aa, t, pl, abv, ab, p, _, _, _, hd, _⟩ := h
      exact absurd hd (Nat.not_lt_zero _)
  | succ n GPTE =>
    have GPT := FnOk_or (toX (GPT0 n)) GPTE
    refine F.okX scPT (fun vs H Q E h => ?_) (fun cdv A outer s H vs Q E hr h => ?_)
    · obtain ⟨v, pa, aa, t, pl, abv, ab, p, rfl, _⟩ := h
      rfl
    · obtain ⟨v, pa, aa, t, pl, abv, ab, p, rfl, ht, ok, hd, hpa, hpl, haa, hab, hal, aw, ef, want⟩ := h
      have hu0 := hr.un
      have hu5 : (A.deeper (envOfC "plain_tree" (defScope sPT) s.heap.objs.size f cdv)).units + 65 < cLine := by omega
      have hu9 : (A.deeper (envOfC "plain_tree" (defScope sPT) s.heap.objs.size f cdv)).units + 9 < cLine := by omega
      have hrN : ∀ m, m ≤ 7 + n → Room m (A.deeper (envOfC "plain_tree" (defScope sPT) s.heap.objs.size f cdv)) := fun m h => hr.mono h
      refine ⟨_, pss_cons (ps_if (pt_val (pe_call GIsE (hrN _ (by omega)) rfl aIsE.m aIsE.k aIsE.b .nil pass0 (pa_cons (pv 0) pa_nil))) (pss_one (ps_ret (pe_tup (pa_cons pe_str (pa_cons (pe_ix ix_row (pv 0) pe_int (fun _ _ => rfl)) pa_nil))))) (pss_nil))
              (pss_cons (ps_set (i := 3) scPT.nd rfl (Or.inl rfl) (pe_call GLoA (hrN _ (by omega)) rfl aLoA.m aLoA.k aLoA.b .nil pass0 (pa_cons (pv 0) pa_nil)))
              (pss_cons (ps_if (PW.pt (pw_or (pt_cmp (pc_isN (pv 3))) (pw_or1 (pt_cmpR (EE.op_inT hu5) (pv 3) (pv 2) (by rfl))))) (pss_one (ps_raise rfl (takes_of rfl rfl rfl rfl) (pmk_oex BBSt.ox BBSt.iC BBSt.tI GBBSt (hrN _ (by omega)) bBBSt .nil pass0 rfl BBSt.mg (pa_cons (pv 1) pa_nil)))) (pss_nil))
              (pss_cons (ps_set (i := 4) scPT.nd rfl (Or.inl rfl) (pe_op op_catA (pv 2) (pe_tup (pa_cons (pv 3) pa_nil))))
              (pss_cons (ps_set (i := 5) scPT.nd rfl (Or.inl rfl) (pe_lst pa_nil))
              (pss_cons (ps_set (i := 6) scPT.nd rfl (Or.inl rfl) (DA.pe_anewW (w := w) rfl))
              (pss_cons (ps_for (passes_of rfl) rfl (EE.pi_enumE rfl T.enumerate (pe_ix ix_row (pv 0) pe_int (fun _ _ => rfl))) (pg_tup rfl (pgs_cons (pg_name (i := 7) scPT.nd rfl (Or.inl rfl)) (pgs_cons (pg_name (i := 8) scPT.nd rfl (Or.inl rfl)) pgs_nil))) (pss_cons (ps_set (i := 9) scPT.nd rfl (Or.inl rfl) (pe_ifExp (pt_val (pe_call GRow (hrN _ (by omega)) rfl aRow.m aRow.k aRow.b .nil pass0 (pa_cons (pv 8) (pa_cons pe_int pa_nil)))) (pe_call GAsSight (hrN _ (by omega)) rfl aAsSight.m aAsSight.k aAsSight.b .nil pass0 (pa_cons (pe_tup (pa_cons (pv 3) (pa_cons (pe_ix ix_row (pv 8) pe_int (fun _ _ => rfl)) pa_nil))) pa_nil)) pe_non))
              (pss_cons (ps_if (PW.pt (pw_or (pt_cmp (pc_isN (pv 9))) (pw_or1 (pt_cmp (DA.pc_ainW (w := w) rfl hu9 (pe_ix ix_tup (pv 9) pe_int (fun _ _ => rfl)) (pv 6)))))) (pss_one (ps_raise rfl (takes_of rfl rfl rfl rfl) (pmk_oex BBSt.ox BBSt.iC BBSt.tI GBBSt (hrN _ (by omega)) bBBSt .nil pass0 rfl BBSt.mg (pa_cons (pe_op op_catA (pv 1) (pe_tup (pa_cons (pv 7) pa_nil))) pa_nil)))) (pss_nil))
              (pss_cons (DA.ps_aputW (w := w) rfl hu9 (pv 6) (pe_ix ix_tup (pv 9) pe_int (fun _ _ => rfl)) pe_bl rfl)
              (pss_one (ps_expr (pe_bm PySem.F.plainAttrs_list PySem.F.slot_list_append PySem.F.type_list_append mt_append (pv 5) (pa_cons (pe_tup (pa_cons (pe_ix ix_tup (pv 9) pe_int (fun _ _ => rfl)) (pa_cons (pe_call GPT (hrN _ (by omega)) rfl aPT.m aPT.k aPT.b .nil (passes_call (takes_of rfl rfl rfl rfl) (fun _ _ _ _ h => h)) (pa_cons (pe_ix ix_row (pv 8) pe_int (fun _ _ => rfl)) (pa_cons (pe_op op_catA (pv 1) (pe_tup (pa_cons (pv 7) pa_nil))) (pa_cons (pv 4) pa_nil)))) pa_nil))) pa_nil))))))))
              (pss_cons (ps_set (i := 10) scPT.nd rfl (Or.inl rfl) (pe_call GPT (hrN _ (by omega)) rfl aPT.m aPT.k aPT.b .nil (passes_call (takes_of rfl rfl rfl rfl) (fun _ _ _ _ h => h)) (pa_cons (pe_ix ix_row (pv 0) pe_int (fun _ _ => rfl)) (pa_cons (pe_op op_catA (pv 1) (pe_tup (pa_cons (pe_callB call_len_seq (by rfl) T.len PySem.boot_len (pa_cons (pv 5) pa_nil)) pa_nil))) (pa_cons (pv 4) pa_nil)))))
              (pss_one (ps_ret (pe_tup (pa_cons pe_str (pa_cons (pv 3) (pa_cons (pe_callTy call_tuple_of (by rfl) T.tuple (by decide +kernel) (pa_cons (pv 5) pa_nil)) (pa_cons (pv 10) pa_nil)))))))))))))), ?_⟩
      have nf : isFin t = false := by
        cases t with
        | fin z => rw [fw_fin] at ef; cases ef
        | bad d => rfl
        | ask k cs o => rfl
      refine ⟨_, rfl, v, t, rfl, ht, fun H1 s1 => ⟨_, rfl, ?_⟩⟩
      rw [nf]
      refine iteF ?_
      refine ⟨_, rfl, v, t, rfl, ht.up s1, ok, nf, fun lkv H2 s2 hlk => ?_⟩
      have s12 := s1.trans s2
      have hpa2 := s12 _ _ hpa
      have haa2 := s12 _ _ haa
      have ab2 := hab.up s12
      have raise0 : p = [] → ∀ (H6 : Hp), Same H2 H6 → ∀ b, H6 b = none → ∀ dx, upd H6 b (exo b CBS none) dx = none → dx ≠ b → ∃ (d : Addr) (fs : List (Str × V)), upd (upd (upd H6 b (exo b CBS none)) dx (exd dx [(("place" : Str), V.ref pa)])) b (exo b CBS (some dx)) b = some (exo b CBS (some d)) ∧
          upd (upd (upd H6 b (exo b CBS none)) dx (exd dx [(("place" : Str), V.ref pa)])) b (exo b CBS (some dx)) d = some (exd d fs) ∧ H6 d = none ∧ E (.ref CBS) (some d) (upd (del (upd (upd (upd H6 b (exo b CBS none)) dx (exd dx [(("place" : Str), V.ref pa)])) b (exo b CBS (some dx))) b) d (.xd fs)) := fun e H6 s6 b hb dx hdx hne => by
        rw [e, List.append_nil] at want
        exact eraise_at s6 hb hdx hne ((want.up s12).at hpa2)
      cases ht with
      | fin r => cases nf
      | bad bd =>
        obtain rfl : lkv = .non := hlk
        rw [fw_bad] at ef
        cases ef
        exact ⟨_, rfl, _, rfl, iteT ⟨_, rfl, by show 1 ≤ 1000; decide, fun b hb => ⟨b, _, rfl, upd_same, fun dx hdx hne => ⟨rfl, raise0 rfl H2 (Same.refl _) b hb dx hdx hne⟩⟩⟩⟩
      | @ask _ kp cp ov xs kk cs o r rk rc cc to =>
        obtain ⟨lk, rfl, hlk⟩ := hlk
        obtain ⟨lok, cl, okc, oko⟩ := ok
        have dc : depS cs < n ∧ depO o < n := by
          have : max (depS cs) (depO o) + 1 < n + 1 := hd
          omega
        refine ⟨_, rfl, _, rfl, iteF ⟨_, rfl, _, rfl, lkD kk, ab.map lkD, lk_dp hlk, .tup (SqT.of haa2) (lksT_dp ab2), lkD_shaped (LkOk.w lok), ks_shapedT aw, ?_⟩⟩
        rw [any_lk (LkOk.w lok) aw]
        by_cases nin : kk ∈ ab
        · rw [fw_rep nin] at ef
          cases ef
          rw [decide_eq_true nin]
          exact ⟨_, rfl, iteT ⟨_, rfl, by show 1 ≤ 1000; decide, fun b hb => ⟨b, _, rfl, upd_same, fun dx hdx hne => ⟨rfl, raise0 rfl H2 (Same.refl _) b hb dx hdx hne⟩⟩⟩⟩
        rw [decide_eq_false nin]
        refine ⟨_, rfl, iteF ?_⟩
        refine ⟨_, rfl, _, rfl, by show 1 ≤ sizeLine; decide, fun t1 ht1 => ?_⟩
        have s3 := same_mk (o := .tup [.ref lk]) ht1
        have z2 : abv.length + 1 ≤ sizeLine := Nat.le_trans (show abv.length + 1 ≤ 51 by have := ab2.1; omega) (by decide)
        refine catA_all (s3 _ _ haa2) upd_same z2 fun kn H4 s4 hkn => ?_
        have s24 := s3.trans s4
        have s14 := s12.trans s24
        have abk : LksT H4 (abv ++ [.ref lk]) (ab ++ [kk]) := (ab2.up s24).snoc (s24 _ _ hlk)
        have hpa4 := s24 _ _ hpa2
        have hlk4 := s24 _ _ hlk
        have hr4 := s14 _ _ r
        have hr4' : RowAt H4 (.ref _) _ := ⟨_, rfl, .inl hr4⟩
        have hc4 := s14 _ _ rc
        have cc4 := OsAt.up s14 cc
        have to4 := OtAt.up s14 to
        have want4 := want.up s14
        refine ⟨by show 0 ≤ sizeLine; decide, fun D hD => ?_⟩
        have s5 := same_mk (o := .lst []) hD
        refine fun d hd2 ha0 => ?_
        have s6 : Same H4 (upd (upd H4 D (.lst [])) d (DA.DO w d [])) := s5.trans (same_mk hd2)
        have dD : d ≠ D := fun z => by rw [z, upd_same] at hd2; cases hd2
        have hD6 : (upd (upd H4 D (.lst [])) d (DA.DO w d [])) D = some (.lst []) := by rw [upd_ne dD.symm, upd_same]
        have fD : H4 D = none := hD
        have fd0 : H4 d = none := s5.free hd2
        generalize upd (upd H4 D (.lst [])) d (DA.DO w d []) = H6 at s6 hD6 ha0 ⊢
        obtain ⟨cl2, cat⟩ := osAt_iff.mp cc4
        have rest : ∀ (s : List Nat), p = s → pl ++ p = pl ++ s := fun s e => by rw [e]
        refine ⟨_, rfl, _, 2, _, hr4'.up s6, rfl, atI_nat (j := 2) rfl, EE.for_enumE (v := .ref cp) ⟨cp, rfl, .inl (s6 _ _ hc4)⟩ (fun i σ H' => ∃ x7 x8 x9 x10 ys seen, σ = [some (.ref _), some (.ref pa), some (.ref aa), some (.ref lk), some (.ref kn), some (.ref D), some (.ref d), x7, x8, x9, x10] ∧ Same H4 H' ∧ H' D = some (.lst ys) ∧ ys.length = i ∧ DA.HAt w H' d (seen.map fun x => (anK x, .bl true)) ∧ seen.length ≤ i ∧ (∀ x ∈ seen, AnW x) ∧ fwC (ab ++ [kk]) [] 0 cs = fwC (ab ++ [kk]) seen i (cs.drop i))
          ⟨none, none, none, none, [], [], rfl, s6, hD6, rfl, ha0, Nat.le_refl _, (fun x hx => by cases hx), rfl⟩ (fun i τ H' ⟨x7, x8, x9, x10, ys, seen, _, s7, _⟩ a o e ho => ?_) ?_ ?_⟩
        · cases e
          have := s6 _ _ hc4
          rw [ho] at this
          cases this
          exact s7 _ _ hc4
        · rintro i x Tt _ H7 hi ⟨x7, x8, x9, x10, ys, seen, rfl, s7, hD7, yl, hat, snl, sw, prog⟩ hx hT
          have ic : i < cs.length := by omega
          have hci : cs[i]? = some cs[i] := List.getElem?_eq_getElem ic
          have cx := cat i x cs[i] hx hci
          have mem : cs[i] ∈ cs := List.getElem_mem ic
          rw [fwC_drop hci] at prog
          generalize cs[i] = c at hci cx mem prog
          have sT := same_mk (o := .tup [.int (i : Nat), x]) hT
          refine ⟨Tt, _, rfl, SqT.of upd_same, rfl, _, _, rfl, _, _, rfl, rfl, ?_⟩
          have s8 := s7.trans sT
          have hD8 := sT _ _ hD7
          have hat8 := hat.same sT
          generalize upd H7 Tt (.tup [.int (i : Nat), x]) = H8 at s8 hD8 hat8 ⊢
          have pl1 : pl.length + 1 ≤ sizeLine := Nat.le_trans (show pl.length + 1 ≤ 51 by omega) (by decide)
          have pl1' : (plV pl).length + 1 ≤ sizeLine := by unfold plV; rw [List.length_map]; exact pl1
          -- raised here
          have raise : fwC (ab ++ [kk]) [] 0 cs = some [i] → ∀ (H9 : Hp), Same H4 H9 → ∀ (pp : Addr) (H10 : Hp), Same H9 H10 → H10 pp = some (.tup (plV pl ++ [.int (i : Nat)])) → ∀ b, H10 b = none → ∀ dx, upd H10 b (exo b CBS none) dx = none → dx ≠ b → ∃ (d : Addr) (fs : List (Str × V)), upd (upd (upd H10 b (exo b CBS none)) dx (exd dx [(("place" : Str), V.ref pp)])) b (exo b CBS (some dx)) b = some (exo b CBS (some d)) ∧
              upd (upd (upd H10 b (exo b CBS none)) dx (exd dx [(("place" : Str), V.ref pp)])) b (exo b CBS (some dx)) d = some (exd d fs) ∧ H10 d = none ∧ E (.ref CBS) (some d) (upd (del (upd (upd (upd H10 b (exo b CBS none)) dx (exd dx [(("place" : Str), V.ref pp)])) b (exo b CBS (some dx))) b) d (.xd fs)) := fun e H9 s49 pp H10 s10 hpp b hb dx hdx hne => by
            rw [fw_cs nin e] at ef
            cases ef
            have w10 := want4.up (s49.trans s10)
            refine eraise_at (Same.refl H10) hb hdx hne (w10.at ?_)
            rw [hpp, List.map_append]
            rfl
          cases c with
          | odd od =>
            rw [fwC_odd] at prog
            have bc := (cx.but (But.same s8)).now
            cases bc with
            | no h =>
              have nr : NoRow H8 x := by
                rcases h with rfl | ⟨j, rfl⟩
                · exact .non
                · exact .int j
              refine ⟨_, rfl, .inr ⟨_, 2, rfl, nr, fun H9 s9 => ⟨_, rfl, iteF ?_⟩⟩⟩
              refine ⟨_, rfl, _, rfl, iteT ⟨_, rfl, _, rfl, by show 1 ≤ sizeLine; decide, fun tn htn => ?_⟩⟩
              have sn := same_mk (o := .tup [.int (i : Nat)]) htn
              refine catA_all (((s8.trans s9).trans sn) _ _ hpa4) upd_same pl1' fun pp H20 s20 hpp => ?_
              exact ⟨by show 1 ≤ 1000; decide, fun b hb => ⟨b, _, rfl, upd_same, fun dx hdx hne => ⟨rfl, raise prog H9 (s8.trans s9) pp H20 (sn.trans s20) hpp b hb dx hdx hne⟩⟩⟩
            | len h n =>
              refine ⟨_, rfl, .inl ⟨_, _, 2, rfl, ⟨_, rfl, .inl h⟩, fun H9 s9 => ⟨_, rfl, iteN (nat_ne n) ?_⟩⟩⟩
              refine ⟨_, rfl, _, rfl, iteT ⟨_, rfl, _, rfl, by show 1 ≤ sizeLine; decide, fun tn htn => ?_⟩⟩
              have sn := same_mk (o := .tup [.int (i : Nat)]) htn
              refine catA_all (((s8.trans s9).trans sn) _ _ hpa4) upd_same pl1' fun pp H20 s20 hpp => ?_
              exact ⟨by show 1 ≤ 1000; decide, fun b hb => ⟨b, _, rfl, upd_same, fun dx hdx hne => ⟨rfl, raise prog H9 (s8.trans s9) pp H20 (sn.trans s20) hpp b hb dx hdx hne⟩⟩⟩
          | ans od t =>
            rw [fwC_ans] at prog
            obtain ⟨ca, av, tv, rfl, h0, bv, _⟩ := cx
            have h := s8 _ _ h0
            have n := ((bv.but (But.same s8)) _ But.refl).1
            have r0 : RowAt H8 (.ref ca) [av, tv] := ⟨_, rfl, .inl h⟩
            refine ⟨_, rfl, .inl ⟨_, _, 2, rfl, r0, fun H9 s9 => ⟨_, rfl, iteY rfl ?_⟩⟩⟩
            refine ⟨_, rfl, _, rfl, _, 0, _, r0.up s9, rfl, atI_nat (j := 0) rfl, by show 2 ≤ sizeLine; decide, fun tt htt => ?_⟩
            have sA := same_mk (o := .tup [.ref lk, av]) htt
            have s9A := s9.trans sA
            refine .inr ⟨.ref tt, rfl, .ans (k := kk) ⟨tt, rfl, .inl upd_same⟩ ⟨lk, rfl, .inl ((s8.trans s9A) _ _ hlk4)⟩ lok (badA_no (n.up s9A) kk), fun HB sB => ?_⟩
            refine ⟨_, rfl, _, rfl, iteT ⟨_, rfl, _, rfl, by show 1 ≤ sizeLine; decide, fun tn htn => ?_⟩⟩
            have sn := same_mk (o := .tup [.int (i : Nat)]) htn
            refine catA_all ((((s8.trans s9A).trans sB).trans sn) _ _ hpa4) upd_same pl1' fun pp H20 s20 hpp => ?_
            exact ⟨by show 1 ≤ 1000; decide, fun b hb => ⟨b, _, rfl, upd_same, fun dx hdx hne => ⟨rfl, raise prog HB ((s8.trans s9A).trans sB) pp H20 (sn.trans s20) hpp b hb dx hdx hne⟩⟩⟩
          | ok a t =>
            obtain ⟨cp', av, tv, rfl, hcp, han, htr⟩ := cx
            obtain ⟨sok, tok⟩ := okS_mem.mp okc _ mem
            have hrow : RowAt H4 (.ref cp') [av, tv] := ⟨_, rfl, .inl hcp⟩
            refine ⟨_, rfl, .inl ⟨_, _, 2, rfl, hrow.up s8, fun H9 s9 => ⟨_, rfl, iteY rfl ?_⟩⟩⟩
            have s49 := s8.trans s9
            refine ⟨_, rfl, _, rfl, _, 0, _, hrow.up s49, rfl, atI_nat (j := 0) rfl, by show 2 ≤ sizeLine; decide, fun tt htt => ?_⟩
            have sA := same_mk (o := .tup [.ref lk, av]) htt
            refine .inl ⟨.ref tt, (kk, a), rfl, ⟨.ref lk, av, ⟨tt, rfl, .inl upd_same⟩, ⟨lk, rfl, .inl ((s49.trans sA) _ _ hlk4)⟩, AnAt.in (han.up (s49.trans sA))⟩, sok.1, fun sv HB sB hsv => ?_⟩
            obtain ⟨t2, u2, va2, rfl, h2, hu2, ha2⟩ := hsv
            have s4B := (s49.trans sA).trans sB
            have s8B := (s9.trans sA).trans sB
            have hD9 := s8B _ _ hD8
            have hatB := hat8.same s8B
            have wa : AnW a := sok.2.2
            refine ⟨_, rfl, _, rfl, iteF ⟨_, rfl, t2, _, 1, _, rfl, rfl, SqT.of h2, atI_nat (j := 1) rfl, _, rfl, d, _, anK a, rfl, hatB, an_key ha2, _, rfl, ?_⟩⟩
            by_cases ms : a ∈ seen
            · rw [fwC_rep ms] at prog
              rw [seen_yes ms]
              refine iteT ⟨_, rfl, _, rfl, by show 1 ≤ sizeLine; decide, fun tn htn => ?_⟩
              have sn := same_mk (o := .tup [.int (i : Nat)]) htn
              refine catA_all ((s4B.trans sn) _ _ hpa4) upd_same pl1' fun pp H20 s20 hpp => ?_
              exact ⟨by show 1 ≤ 1000; decide, fun b hb => ⟨b, _, rfl, upd_same, fun dx hdx hne => ⟨rfl, raise prog HB s4B pp H20 (sn.trans s20) hpp b hb dx hdx hne⟩⟩⟩
            have kno := seen_no sw wa ms
            rw [kno]
            refine iteF ?_
            have l1 : (seen.map fun x => (anK x, V.bl true)).length < sizeLine := by
              rw [List.length_map]
              exact Nat.lt_of_lt_of_le (show seen.length < 1000 by omega) (by decide)
            refine ⟨_, rfl, _, rfl, t2, _, 1, _, rfl, rfl, SqT.of h2, atI_nat (j := 1) rfl, d, _, anK a, rfl, hatB, an_key ha2, l1, fun rs hat2 => ?_⟩
            rw [show DA.aput _ (anK a) (V.bl true) = _ from kput_new kno] at hat2
            obtain ⟨rs0, hd0, _, _⟩ := id hatB
            have tupC : TupS HB (upd HB d (DA.DO w d rs)) := fun b xs e => by
              rw [upd_ne (ne_of e hd0 fun z => DA.do_ne xs z.symm)]
              exact e
            have s4C : Same H4 (upd HB d (DA.DO w d rs)) := fun b o e => by
              rw [upd_ne fun z => by rw [z, fd0] at e; cases e]
              exact s4B _ _ e
            have hDC : upd HB d (DA.DO w d rs) D = some (.lst ys) := by rw [upd_ne dD.symm]; exact hD9
            have h2C := tupC _ _ h2
            have ha2C := AnAt.tup ha2 tupC
            generalize upd HB d (DA.DO w d rs) = HC at s4C hDC h2C ha2C hat2 ⊢
            refine ⟨_, rfl, .inl ⟨rfl, _, SqL.of hDC⟩, _, rfl, t2, _, 1, _, rfl, rfl, SqT.of h2C, atI_nat (j := 1) rfl, ?_⟩
            refine ⟨_, rfl, _, 1, _, hrow.up s4C, rfl, atI_nat (j := 1) rfl, _, rfl, _, rfl, by show 1 ≤ sizeLine; decide, fun tn htn => ?_⟩
            have sD := same_mk (o := .tup [.int (i : Nat)]) htn
            refine catA_all ((s4C.trans sD) _ _ hpa4) upd_same pl1' fun pp HD sD2 hpp => ?_
            have sCD := sD.trans sD2
            have s4D := s4C.trans sCD
            have hpp2 : HD pp = some (.tup (plV (pl ++ [i]))) := by
              rw [hpp]
              unfold plV
              rw [List.map_append]
              rfl
            have dt : depO t < n ∧ pl.length + 1 + depO t ≤ 50 ∧ ab.length + 1 + depO t ≤ 50 := by
              have h3 : depO t ≤ depS cs := depS_mem mem
              have h2 : depO (OT.ask kk cs o) = max (depS cs) (depO o) + 1 := by simp [depO]
              rw [h2] at hpl hal
              omega
            have aw' : ∀ j ∈ ab ++ [kk], LkW j := fun j hj => by
              rcases List.mem_append.mp hj with z | z
              · exact aw j z
              · rw [List.mem_singleton.mp z]
                exact LkOk.w lok
            refine ⟨_, rfl, ?_⟩
            cases et : fw (ab ++ [kk]) t with
            | some p' =>
              rw [fwC_in ms et] at prog
              rw [fw_cs nin prog] at ef
              cases ef
              refine .inr ⟨tv, pp, kn, t, pl ++ [i], _, _, p', rfl, htr.up s4D, tok, dt.1, hpp2, by rw [List.length_append]; exact dt.2.1, s4D _ _ hkn, abk.up s4D, by rw [List.length_append]; exact dt.2.2, aw', et, ?_⟩
              have := want4.up s4D
              rw [List.append_assoc]
              exact this
            | none =>
              rw [fwC_next ms et] at prog
              obtain ⟨tr, q1, q2, q3⟩ := conv (htr.up s4D) tok et
              refine .inl ⟨tv, pp, kn, tr, _, _, _, rfl, q1.in, by omega, hpp, by unfold plV; rw [List.length_append, List.length_map]; show pl.length + 1 + dep tr ≤ 50; omega, s4D _ _ hkn, abk.up s4D, by rw [List.length_append]; show ab.length + 1 + dep tr ≤ 50; omega, q2, aw', fun rv HE sE hrv => ?_⟩
              have sCE := sCD.trans sE
              refine ⟨by show 2 ≤ sizeLine; decide, fun p2 hp2 => ?_⟩
              have sF := same_mk (o := .tup [va2, rv]) hp2
              have sCF := sCE.trans sF
              have hDF := sCF _ _ hDC
              refine ⟨D, ys, .ref p2, rfl, rfl, hDF, Nat.lt_of_le_of_lt (show ys.length ≤ 1000 by omega) (by decide), ?_⟩
              have hatF := hat2.same sCF
              have s4F := s4C.trans sCF
              generalize upd HE p2 (.tup [va2, rv]) = HF at hDF hatF s4F ⊢
              have tupD : TupS HF (upd HF D (.lst (ys ++ [.ref p2]))) := tupS_put hDF (by intro xs z; cases z)
              refine ⟨_, _, _, _, ys ++ [.ref p2], seen ++ [a], rfl, fun b o e => ?_, upd_same, by rw [List.length_append, yl]; rfl, ?_, by rw [List.length_append]; exact Nat.succ_le_succ snl, fun x hx => ?_, prog⟩
              · rw [upd_ne fun z => by rw [z, fD] at e; cases e]
                exact s4F _ _ e
              · rw [List.map_append]
                exact hatF.keep (fun rs e => by rw [upd_ne dD]; exact e) fun b xs e => tupD b xs e
              · rcases List.mem_append.mp hx with hx | hx
                · exact sw x hx
                · rw [List.mem_singleton.mp hx]
                  exact wa
        · rintro _ H7 ⟨x7, x8, x9, x10, ys, seen, rfl, s7, hD7, yl, hat, snl, sw, prog⟩
          rw [cl2, List.drop_length, fwC_nil] at prog
          rw [fw_o nin prog] at ef
          cases eo : fw (ab ++ [kk]) o with
          | none =>
            rw [eo] at ef
            cases ef
          | some p' =>
            rw [eo] at ef
            cases ef
            refine ⟨_, rfl, _, 3, _, hr4'.up s7, rfl, atI_nat (j := 3) rfl, _, rfl, _, rfl, D, ys, rfl, .inl (SqL.of hD7), by show 1 ≤ sizeLine; decide, fun tn htn => ?_⟩
            have sD := same_mk (o := .tup [.int (ys.length : Int)]) htn
            have pl1' : (plV pl).length + 1 ≤ sizeLine := by
              unfold plV
              rw [List.length_map]
              exact Nat.le_trans (show pl.length + 1 ≤ 51 by omega) (by decide)
            refine catA_all ((s7.trans sD) _ _ hpa4) upd_same pl1' fun pp H8 s8 hpp => ?_
            have s78 := sD.trans s8
            have s48 := s7.trans s78
            have hpp2 : H8 pp = some (.tup (plV (pl ++ [cs.length]))) := by
              rw [hpp]
              unfold plV
              rw [List.map_append, yl, cl2]
              rfl
            have dt : pl.length + 1 + depO o ≤ 50 ∧ ab.length + 1 + depO o ≤ 50 := by
              have h2 : depO (OT.ask kk cs o) = max (depS cs) (depO o) + 1 := by simp [depO]
              rw [h2] at hpl hal
              omega
            refine ⟨_, rfl, .inr ⟨ov, pp, kn, o, pl ++ [cs.length], _, _, p', rfl, to4.up s48, oko, dc.2, hpp2, by rw [List.length_append]; exact dt.1, s48 _ _ hkn, abk.up s48, by rw [List.length_append]; exact dt.2, fun j hj => ?_, eo, ?_⟩⟩
            · rcases List.mem_append.mp hj with z | z
              · exact aw j z
              · rw [List.mem_singleton.mp z]
                exact LkOk.w lok
            · have := want4.up s48
              rw [List.append_assoc]
              exact this
end
end T6

set_option maxHeartbeats 3900000
namespace T6
open PySem PySem.Spec PyProof.Rows L2 TL
open C8 (pss_cut tCut pe_gc)
open CB XW LE LR
abbrev sLIrl : Stmt := top 43
abbrev sLCan : Stmt := top 45
abbrev sLFw : Stmt := top 46
abbrev wordsL : List Str := ["read", "list", "setting", "tool"]
def spLIrl : Sp := fun vs H Q _ => ∃ v b, vs = [v] ∧ ((v = .non ∧ b = false) ∨ ∃ u t r, v = .ref u ∧ H u = some (.tup (.str t :: r)) ∧ r.length ≤ 1 ∧ Okz t ∧ b = decide (t ∈ wordsL)) ∧ ∀ H', Same H H' → Q (.bl b) H'
def spLCan : Sp := fun vs H Q _ => ∃ u v k b, vs = [.ref u, v] ∧ H u = some (.tup (lkV k)) ∧ LkOk k ∧ ((b = false ∧ BadA H v) ∨ (b = true ∧ ∃ a, AnAt H v a ∧ AnOk k a ∧ AnW a)) ∧ ∀ H', Same H H' → Q (.bl b) H'
theorem eq_str {a b : Str} (h : a ≠ b) : decide (V.str a = V.str b) = false := decide_eq_false fun e => h (V.str.inj e)
theorem four_any (t : Str) : (([.tuple [.str "read"], .tuple [.str "list"], .tuple [.str "setting"], .tuple [.str "tool"]] : List PyData).any fun z => PyData.eqv z (.tuple [.str t])) = decide (t ∈ wordsL) := by
  have e : ∀ a : Str, PyData.eqv (.tuple [.str a]) (.tuple [.str t]) = decide (a = t) := fun a => by
    have := eqv_strD [a] [t]
    rw [show PyData.tuple [.str a] = strD [a] from rfl, show PyData.tuple [.str t] = strD [t] from rfl, this, decide_eq_decide]
    simp
  simp only [List.any_cons, List.any_nil, e, Bool.or_false]
  simp only [← Bool.decide_or]
  rw [decide_eq_decide]
  simp only [List.mem_cons, List.not_mem_nil, or_false]
  simp only [eq_comm]
theorem four_shaped : SeqAt.shaped (.tuple [.tuple [.str "read"], .tuple [.str "list"], .tuple [.str "setting"], .tuple [.str "tool"]]) = true := by decide +kernel
section
variable {P : Program} {w : World} {K : PySem.W.Frag} {mg : Str → Option Value} {base : Heap} {st l CBS fBS : Addr} {fdBS : FuncData}
theorem scLIrl : FnScope ["_law_look_here"] ["_law_look_here"] (defScope sLIrl) := ⟨rfl, rfl, rfl, by decide +kernel, rfl, by decide +kernel, by decide +kernel⟩
theorem ok_lirl {f : Addr} {fd : FuncData} (F : Fun K "_law_is_right_look" "_law_is_right_look" sLIrl f fd) (T : TB mg) : FnOk P w K mg base CX0 1 f fd ["_law_look_here"] spLIrl := by
  refine F.ok scLIrl (fun vs H Q E h => ?_) (fun cdv A outer s H vs Q E hr h => ?_)
  · obtain ⟨v, b, rfl, _⟩ := h
    rfl
  · obtain ⟨v, b, rfl, h, k⟩ := h
    have hu5 : (A.deeper (envOfC "_law_is_right_look" (defScope sLIrl) s.heap.objs.size f cdv)).units + 65 < cLine := by have := hr.un; omega
    refine ⟨_, pss_one (ps_ret (pe_and (pe_callB call_isi (by rfl) T.isinstance (by decide +kernel) (pa_cons (pv 0) (pa_cons (pe_bltn (v := .ty "tuple") (by rfl) T.tuple (by decide +kernel) rfl) pa_nil))) (pe_one (pe_cmpR (EE.op_inT hu5) (pe_slice sl_tupA (pv 0) po_none (po_some pe_int)) (pe_tup (pa_cons (pe_tup (pa_cons pe_str pa_nil)) (pa_cons (pe_tup (pa_cons pe_str pa_nil)) (pa_cons (pe_tup (pa_cons pe_str pa_nil)) (pa_cons (pe_tup (pa_cons pe_str pa_nil)) pa_nil))))) (by rfl))))), ?_⟩
    rcases h with ⟨rfl, rfl⟩ | ⟨u, t, r, rfl, hu, rl, ok, rfl⟩
    · exact ⟨_, rfl, _, _, .type "NoneType", .type "tuple", false, rfl, .ty "tuple", .base .non, kit_ty (by decide +kernel), _, rfl, iteF (k H (Same.refl H))⟩
    · refine ⟨_, rfl, _, _, .type "tuple", .type "tuple", true, rfl, .ty "tuple", .base (.tup hu), kit_ty (by decide +kernel), _, rfl, iteT ?_⟩
      have main : ∀ (q : Addr) (H1 : Hp), Same H H1 → H1 q = some (.tup [.str t]) → True := fun _ _ _ _ => trivial
      refine ⟨_, rfl, 1, rfl, u, _, rfl, SqT.of hu, fun whole => ?_, fun part q hq => ?_⟩
      · have r0 : r = [] := by
          have := whole.2
          have e : HT.sIx (V.str t :: r).length (V.str t :: r).length (some (1 : Int)) = min 1 (V.str t :: r).length := HT.sIx_nat _ _ 1
          rw [e, List.length_cons] at this
          exact List.length_eq_zero_iff.mp (by omega)
        subst r0
        refine ⟨by show 1 ≤ sizeLine; decide, fun a ha => ⟨by show 1 ≤ sizeLine; decide, fun b hb => ⟨by show 1 ≤ sizeLine; decide, fun c hc => ⟨by show 1 ≤ sizeLine; decide, fun d hd => ⟨by show 4 ≤ sizeLine; decide, fun e he => ?_⟩⟩⟩⟩⟩
        have sa := same_mk (o := .tup [.str "read"]) ha
        have sb := same_mk (o := .tup [.str "list"]) hb
        have sc := same_mk (o := .tup [.str "setting"]) hc
        have sd := same_mk (o := .tup [.str "tool"]) hd
        have se := same_mk (o := .tup [.ref a, .ref b, .ref c, .ref d]) he
        refine ⟨.tuple [.str t], _, .tup (SqT.of ((((sa.trans sb).trans sc).trans (sd.trans se)) _ _ hu)) (.cons (.str t) .nil), .tup (SqT.of upd_same) (.cons (.tup (SqT.of ((sb.trans (sc.trans (sd.trans se))) _ _ upd_same)) (.cons (.str _) .nil)) (.cons (.tup (SqT.of ((sc.trans (sd.trans se)) _ _ upd_same)) (.cons (.str _) .nil)) (.cons (.tup (SqT.of ((sd.trans se) _ _ upd_same)) (.cons (.str _) .nil)) (.cons (.tup (SqT.of (se _ _ upd_same)) (.cons (.str _) .nil)) .nil)))), shaped_strs [t] (fun z hz => by rw [List.mem_singleton.mp hz]; exact ok), four_shaped, ?_⟩
        rw [four_any]
        exact k _ (((sa.trans sb).trans sc).trans (sd.trans se))
      · have ec : cutV (V.str t :: r) none (some (1 : Int)) = [.str t] := by
          unfold cutV
          rw [show HT.sIx (V.str t :: r).length (V.str t :: r).length (some (1 : Int)) = min 1 (V.str t :: r).length from HT.sIx_nat _ _ 1, List.length_cons, Nat.min_eq_left (by omega)]
          rfl
        rw [ec]
        have sq := same_mk (o := .tup [.str t]) hq
        have hq1 := upd_same (H := H) (a := q) (o := .tup [.str t])
        generalize upd H q (.tup [.str t]) = H1 at sq hq1 ⊢
        refine ⟨by show 1 ≤ sizeLine; decide, fun a ha => ⟨by show 1 ≤ sizeLine; decide, fun b hb => ⟨by show 1 ≤ sizeLine; decide, fun c hc => ⟨by show 1 ≤ sizeLine; decide, fun d hd => ⟨by show 4 ≤ sizeLine; decide, fun e he => ?_⟩⟩⟩⟩⟩
        have sa := same_mk (o := .tup [.str "read"]) ha
        have sb := same_mk (o := .tup [.str "list"]) hb
        have sc := same_mk (o := .tup [.str "setting"]) hc
        have sd := same_mk (o := .tup [.str "tool"]) hd
        have se := same_mk (o := .tup [.ref a, .ref b, .ref c, .ref d]) he
        refine ⟨.tuple [.str t], _, .tup (SqT.of ((((sa.trans sb).trans sc).trans (sd.trans se)) _ _ hq1)) (.cons (.str t) .nil), .tup (SqT.of upd_same) (.cons (.tup (SqT.of ((sb.trans (sc.trans (sd.trans se))) _ _ upd_same)) (.cons (.str _) .nil)) (.cons (.tup (SqT.of ((sc.trans (sd.trans se)) _ _ upd_same)) (.cons (.str _) .nil)) (.cons (.tup (SqT.of ((sd.trans se) _ _ upd_same)) (.cons (.str _) .nil)) (.cons (.tup (SqT.of (se _ _ upd_same)) (.cons (.str _) .nil)) .nil)))), shaped_strs [t] (fun z hz => by rw [List.mem_singleton.mp hz]; exact ok), four_shaped, ?_⟩
        rw [four_any]
        exact k _ (sq.trans (((sa.trans sb).trans sc).trans (sd.trans se)))
theorem scLCan : FnScope ["_law_look_here", "_law_answer"] ["_law_look_here", "_law_answer"] (defScope sLCan) := ⟨rfl, rfl, rfl, by decide +kernel, rfl, by decide +kernel, by decide +kernel⟩
theorem xy_ne {l : List (Str × Bool)} (h : ∀ e ∈ l, IsNm e.1) : decide ((l.map fun e => ent e.1 e.2) = ([("x/y" : Str)] : List Str)) = false := decide_eq_false fun z => by
  match l, h, z with
  | [], h, z => simp at z
  | _ :: _ :: _, h, z => simp at z
  | [e], h, z =>
    have z2 : ent e.1 e.2 = "x/y" := by simpa using z
    have hn := h e (by simp)
    cases eb : e.2 with
    | false =>
      rw [eb] at z2
      have z3 : e.1 = "x/y" := z2
      rw [z3] at hn
      have := hn.2.2 47 (by decide +kernel)
      omega
    | true =>
      rw [eb] at z2
      have := congrArg (fun x => (tl x).getLast?) z2
      rw [show (tl (ent e.1 true)) = tl e.1 ++ [47] from by rw [tl_ent]; rfl] at this
      simp only [List.getLast?_concat] at this
      exact absurd this (by decide +kernel)
theorem xy_shaped : SeqAt.shaped (strD ["x/y"]) = true := by decide +kernel
theorem ok_lcan {f : Addr} {fd : FuncData} (F : Fun K "_law_can_have" "_law_can_have" sLCan f fd) (T : TB mg) : FnOk P w K mg base CX0 1 f fd ["_law_look_here", "_law_answer"] spLCan := by
  refine F.ok scLCan (fun vs H Q E h => ?_) (fun cdv A outer s H vs Q E hr h => ?_)
  · obtain ⟨u, v, k, b, rfl, _⟩ := h
    rfl
  · obtain ⟨u, v, kk, b, rfl, hk, lok, h, k⟩ := h
    have hu := hr.units
    refine ⟨_, pss_cons (ps_if (pt_cmpR op_eq (pe_ix ix_tup (pv 0) pe_int (fun _ _ => rfl)) pe_str (nomark _)) (pss_one (ps_ret (pe_or (pe_and (pe_callB call_isi (by rfl) T.isinstance (by decide +kernel) (pa_cons (pv 1) (pa_cons (pe_bltn (v := .ty "tuple") (by rfl) T.tuple (by decide +kernel) rfl) pa_nil))) (pe_one (pe_cmpR (op_neD hu) (pv 1) (pe_tup (pa_cons pe_str pa_nil)) (nomark _)))) (pe_one (pe_and (pe_cmp (pc_isN (pv 1)) rfl) (pe_one (pe_cmpR op_ne (pe_ix ix_tup (pv 0) pe_int (fun _ _ => rfl)) pe_str (nomark _)))))))) (pss_nil))
            (pss_one (ps_ret (pe_or (pe_callB call_isi (by rfl) T.isinstance (by decide +kernel) (pa_cons (pv 1) (pa_cons (pe_bltn (v := .ty "str") (by rfl) T.str (by decide +kernel) rfl) pa_nil))) (pe_one (pe_and (pe_cmp (pc_isN (pv 1)) rfl) (pe_one (pe_cmpR op_ne (pe_ix ix_tup (pv 0) pe_int (fun _ _ => rfl)) pe_str (nomark _)))))))), ?_⟩
    have k0 := k H (Same.refl H)
    obtain ⟨wd, rest, ek, el, et⟩ : ∃ wd rest, lkV kk = .str wd :: rest ∧ (wd = "list" ↔ ∃ p, kk = .ls p) ∧ (wd = "tool" ↔ kk = .tl) := by
      cases kk with
      | rd p => exact ⟨"read", _, rfl, ⟨fun z => absurd z (by decide +kernel), fun ⟨_, z⟩ => by cases z⟩, ⟨fun z => absurd z (by decide +kernel), fun z => by cases z⟩⟩
      | ls p => exact ⟨"list", _, rfl, ⟨fun _ => ⟨p, rfl⟩, fun _ => rfl⟩, ⟨fun z => absurd z (by decide +kernel), fun z => by cases z⟩⟩
      | se n => exact ⟨"setting", _, rfl, ⟨fun z => absurd z (by decide +kernel), fun ⟨_, z⟩ => by cases z⟩, ⟨fun z => absurd z (by decide +kernel), fun z => by cases z⟩⟩
      | tl => exact ⟨"tool", _, rfl, ⟨fun z => absurd z (by decide +kernel), fun ⟨_, z⟩ => by cases z⟩, ⟨fun _ => rfl, fun _ => rfl⟩⟩
    have hk2 := hk
    rw [ek] at hk2
    refine ⟨_, rfl, u, _, 0, _, rfl, rfl, SqT.of hk2, atI_nat (j := 0) rfl, rfl, ?_⟩
    by_cases wl : wd = "list"
    · obtain ⟨p, rfl⟩ := el.mp wl
      have hk3 : H u = some (.tup [.str "list", .str (js p)]) := hk
      rw [show decide (V.str wd = V.str "list") = true from decide_eq_true (by rw [wl])]
      refine ⟨_, rfl, iteT ?_⟩
      rcases h with ⟨rfl, h⟩ | ⟨rfl, a, ha, ok, wa⟩
      · cases h with
        | bl b => exact ⟨_, rfl, _, _, .type "bool", .type "tuple", false, rfl, .ty "tuple", .base (.bl b), kit_ty (by decide +kernel), _, rfl, iteF ⟨_, rfl, iteF ⟨_, rfl, _, rfl, iteF k0⟩⟩⟩
        | int i => exact ⟨_, rfl, _, _, .type "int", .type "tuple", false, rfl, .ty "tuple", .base (.int i), kit_ty (by decide +kernel), _, rfl, iteF ⟨_, rfl, iteF ⟨_, rfl, _, rfl, iteF k0⟩⟩⟩
        | @xy q hq =>
          refine ⟨_, rfl, _, _, .type "tuple", .type "tuple", true, rfl, .ty "tuple", .base (.tup hq), kit_ty (by decide +kernel), _, rfl, iteT ⟨_, rfl, by show 1 ≤ sizeLine; decide, fun c hc => ?_⟩⟩
          have sc := same_mk (o := .tup [.str "x/y"]) hc
          refine ⟨strD ["x/y"], strD ["x/y"], .tup (SqT.of (sc _ _ hq)) (dp_strs ["x/y"]), .tup (SqT.of upd_same) (dp_strs ["x/y"]), xy_shaped, xy_shaped, ?_⟩
          rw [eqv_strD, decide_eq_true rfl]
          exact ⟨_, rfl, iteF ⟨_, rfl, _, rfl, iteF (k _ sc)⟩⟩
      · cases a with
        | no =>
          obtain rfl : v = .non := ha
          have pne : p ≠ [] := ok
          refine ⟨_, rfl, _, _, .type "NoneType", .type "tuple", false, rfl, .ty "tuple", .base .non, kit_ty (by decide +kernel), _, rfl, iteF ⟨_, rfl, iteF ⟨_, rfl, _, rfl, iteT ⟨_, rfl, u, _, 1, _, rfl, rfl, SqT.of hk3, atI_nat (j := 1) rfl, rfl, ?_⟩⟩⟩⟩
          rw [eq_str (js_ne lok.1 pne)]
          exact k0
        | tx z => exact ok.elim
        | es l =>
          obtain ⟨q, rfl, hq⟩ := ha
          have hq2 : H q = some (.tup ((l.map fun e => ent e.1 e.2).map V.str)) := by rw [hq, List.map_map]; rfl
          refine ⟨_, rfl, _, _, .type "tuple", .type "tuple", true, rfl, .ty "tuple", .base (.tup hq), kit_ty (by decide +kernel), _, rfl, iteT ⟨_, rfl, by show 1 ≤ sizeLine; decide, fun c hc => ?_⟩⟩
          have sc := same_mk (o := .tup [.str "x/y"]) hc
          refine ⟨strD (l.map fun e => ent e.1 e.2), strD ["x/y"], .tup (SqT.of (sc _ _ hq2)) (dp_strs _), .tup (SqT.of upd_same) (dp_strs ["x/y"]), shaped_strs _ (fun z hz => ?_), xy_shaped, ?_⟩
          · obtain ⟨e, he, rfl⟩ := List.mem_map.mp hz
            exact okz_ent (wa.1 e he) e.2
          rw [eqv_strD, xy_ne wa.1]
          exact ⟨_, rfl, iteT (k _ sc)⟩
    · have nl : ∀ p, kk ≠ .ls p := fun p e => wl (el.mpr ⟨p, e⟩)
      rw [eq_str wl]
      refine ⟨_, rfl, iteF ?_⟩
      rcases h with ⟨rfl, h⟩ | ⟨rfl, a, ha, ok, wa⟩
      · cases h with
        | bl b => exact ⟨_, rfl, _, _, .type "bool", .type "str", false, rfl, .ty "str", .base (.bl b), kit_ty (by decide +kernel), _, rfl, iteF ⟨_, rfl, _, rfl, iteF k0⟩⟩
        | int i => exact ⟨_, rfl, _, _, .type "int", .type "str", false, rfl, .ty "str", .base (.int i), kit_ty (by decide +kernel), _, rfl, iteF ⟨_, rfl, _, rfl, iteF k0⟩⟩
        | @xy q hq => exact ⟨_, rfl, _, _, .type "tuple", .type "str", false, rfl, .ty "str", .base (.tup hq), kit_ty (by decide +kernel), _, rfl, iteF ⟨_, rfl, _, rfl, iteF k0⟩⟩
      · cases a with
        | no =>
          obtain rfl : v = .non := ha
          have nt : wd ≠ "tool" := fun e => by
            have := et.mp e
            subst this
            exact ok
          refine ⟨_, rfl, _, _, .type "NoneType", .type "str", false, rfl, .ty "str", .base .non, kit_ty (by decide +kernel), _, rfl, iteF ⟨_, rfl, _, rfl, iteT ⟨_, rfl, u, _, 0, _, rfl, rfl, SqT.of hk2, atI_nat (j := 0) rfl, rfl, ?_⟩⟩⟩
          rw [eq_str nt]
          exact k0
        | tx z =>
          obtain rfl : v = .str z := ha
          exact ⟨_, rfl, _, _, .type "str", .type "str", true, rfl, .ty "str", .base (.str _), kit_ty (by decide +kernel), _, rfl, iteT k0⟩
        | es l =>
          exfalso
          cases kk with
          | ls p => exact nl p rfl
          | rd p => exact ok
          | se n => exact ok
          | tl => exact ok
def FwR (H : Hp) (r : V) (pl : List Nat) : Option (List Nat) → Prop
  | none => r = .non
  | some p => ∃ q, r = .ref q ∧ H q = some (.tup (plV (pl ++ p)))
theorem FwR.up {H H' : Hp} {r : V} {pl : List Nat} {o : Option (List Nat)} (h : FwR H r pl o) (s : Same H H') : FwR H' r pl o := by
  cases o with
  | none => exact h
  | some p =>
    obtain ⟨q, e, h⟩ := h
    exact ⟨q, e, s _ _ h⟩
def spFW (K : PySem.W.Frag) (st l : Addr) (n : Nat) : Sp := fun vs H Q _ => ∃ v D pa t pl ab, vs = [v, .ref D, .ref pa] ∧ OtAt K st l H v t ∧ OkO t ∧ depO t < n ∧ LksL H D ab ∧ (∀ k ∈ ab, LkW k) ∧ ab.length + depO t ≤ 50 ∧ H pa = some (.tup (plV pl)) ∧ pl.length + depO t ≤ 50 ∧ ∀ r H', Same H H' → FwR H' r pl (fw ab t) → Q r H'
theorem in24 (n : Nat) : inV (.int (n : Int)) [.int 2, .int 4] = decide (n = 2 ∨ n = 4) := by
  unfold inV
  simp only [List.any_cons, List.any_nil, Bool.or_false]
  have e : ∀ i j : Int, eqV (.int i) (.int j) = decide (i = j) := fun i j => rfl
  rw [e, e, ← Bool.decide_or, decide_eq_decide]
  omega
theorem ifF {b : Bool} {P Q : Prop} (h : b = false) (q : Q) : if b = true then P else Q := by
  rw [h]
  exact q
theorem ifT {b : Bool} {P Q : Prop} (h : b = true) (q : P) : if b = true then P else Q := by
  rw [h]
  exact q
theorem noText_ty {K : PySem.W.Frag} {H : Hp} {y : V} (h : NoText H y) : ∃ cn : String, (∀ H', Same H H' → TyX K H' y (.type cn)) ∧ PySem.W.kitOne K (.type cn) (.type "str") = some false := by
  cases h with
  | non => exact ⟨"NoneType", fun _ _ => .base .non, kit_ty (by decide +kernel)⟩
  | int i => exact ⟨"int", fun _ _ => .base (.int i), kit_ty (by decide +kernel)⟩
  | bl b => exact ⟨"bool", fun _ _ => .base (.bl b), kit_ty (by decide +kernel)⟩
  | lst h => exact ⟨"list", fun _ s => .base (.lst (s _ _ h)), kit_ty (by decide +kernel)⟩
  | tup h => exact ⟨"tuple", fun _ s => .base (.tup (s _ _ h)), kit_ty (by decide +kernel)⟩
  | dct h => exact ⟨"dict", fun _ s => .base (.dK (s _ _ h)), kit_ty (by decide +kernel)⟩
theorem lkV_form (k : Lk) : ∃ wd r, lkV k = .str wd :: r ∧ r.length ≤ 1 ∧ Okz wd ∧ wd ∈ wordsL := by
  cases k with
  | rd p => exact ⟨"read", _, rfl, by simp, by decide +kernel, by decide +kernel⟩
  | ls p => exact ⟨"list", _, rfl, by simp, by decide +kernel, by decide +kernel⟩
  | se n => exact ⟨"setting", _, rfl, by simp, by decide +kernel, by decide +kernel⟩
  | tl => exact ⟨"tool", [], rfl, by simp, by decide +kernel, by decide +kernel⟩
theorem two4 : V.int (if decide (V.int ((2 : Nat) : Int) = V.int 4) = true then 1 else 0) = V.int 0 := by
  rw [decide_eq_false (by intro z; cases z)]
  rfl
theorem four4 : V.int (if decide (V.int ((4 : Nat) : Int) = V.int 4) = true then 1 else 0) = V.int 1 := by
  rw [decide_eq_true (by rfl)]
  rfl
theorem noRow_ty {K : PySem.W.Frag} {H : Hp} {y : V} (h : NoRow H y) : ∃ cn : String, TyX K H y (.type cn) ∧ PySem.W.kitOne K (.type cn) (.type "tuple") = some false := by
  cases h with
  | non => exact ⟨"NoneType", .base .non, kit_ty (by decide +kernel)⟩
  | str z => exact ⟨"str", .base (.str z), kit_ty (by decide +kernel)⟩
  | int i => exact ⟨"int", .base (.int i), kit_ty (by decide +kernel)⟩
  | bl b => exact ⟨"bool", .base (.bl b), kit_ty (by decide +kernel)⟩
  | dct h => exact ⟨"dict", .base (.dK h), kit_ty (by decide +kernel)⟩
inductive Ans2 (H : Hp) : List V → List An → Prop
  | nil : Ans2 H [] []
  | cons {v : V} {a : An} {vs : List V} {as : List An} (h : AnAt H v a) (r : Ans2 H vs as) : Ans2 H (v :: vs) (a :: as)
theorem Ans2.snoc {H : Hp} {v : V} {a : An} (h : AnAt H v a) : ∀ {vs : List V} {as : List An}, Ans2 H vs as → Ans2 H (vs ++ [v]) (as ++ [a])
  | _, _, .nil => .cons h .nil
  | _, _, .cons g r => .cons g (r.snoc h)
theorem Ans2.len {H : Hp} : ∀ {vs : List V} {as : List An}, Ans2 H vs as → vs.length = as.length
  | _, _, .nil => rfl
  | _, _, .cons _ r => congrArg Nat.succ r.len
theorem Ans2.up {H H' : Hp} (s : TupS H H') : ∀ {vs : List V} {as : List An}, Ans2 H vs as → Ans2 H' vs as
  | _, _, .nil => .nil
  | _, _, .cons g r => .cons (g.tup s) (r.up s)
theorem Ans2.dp {K : PySem.W.Frag} {H : Hp} : ∀ {vs : List V} {as : List An}, Ans2 H vs as → DpAll K H vs (as.map anD)
  | _, _, .nil => .nil
  | _, _, .cons g r => .cons (an_dp g) r.dp
inductive Rt (K : PySem.W.Frag) (st l : Addr) (H : Hp) (ab : List Lk) (t : OT) : V → Prop
  | no {v : V} {cn : String} (e : fw ab t = some []) (h : TyX K H v (.type cn)) (k : PySem.W.kitOne K (.type cn) (.type "tuple") = some false) : Rt K st l H ab t v
  | len {a : Addr} {xs : List V} (e : fw ab t = some []) (h : H a = some (.tup xs)) (n2 : xs.length ≠ 2) (n4 : xs.length ≠ 4) : Rt K st l H ab t (.ref a)
  | twoW {a : Addr} {w : Str} {y : V} (e : fw ab t = some []) (h : H a = some (.tup [.str w, y])) (n : w ≠ "end") : Rt K st l H ab t (.ref a)
  | two {a : Addr} {y : V} {cn : String} {b : Bool} (e : fw ab t = if b then none else some []) (h : H a = some (.tup [.str "end", y])) (g : ∀ H', Same H H' → TyX K H' y (.type cn)) (k : PySem.W.kitOne K (.type cn) (.type "str") = some b) : Rt K st l H ab t (.ref a)
  | fourW {a : Addr} {w : Str} {x y z : V} (e : fw ab t = some []) (h : H a = some (.tup [.str w, x, y, z])) (n : w ≠ "ask") : Rt K st l H ab t (.ref a)
  | fourX {a : Addr} {x y z : V} (e : fw ab t = some []) (h : H a = some (.tup [.str "ask", x, y, z])) (n : x = .non ∨ ∃ u w, x = .ref u ∧ H u = some (.tup [.str w]) ∧ Okz w ∧ w ∉ wordsL) : Rt K st l H ab t (.ref a)
  | fourY {a u : Addr} {i : Int} {z : V} (e : fw ab t = some []) (h : H a = some (.tup [.str "ask", .ref u, .int i, z])) (hu : H u = some (.tup (lkV .tl))) : Rt K st l H ab t (.ref a)
  | ask {p kp cp : Addr} {ov : V} {xs : List V} {k : Lk} {cs : Os} {o : OT} (e : t = .ask k cs o) (r : H p = some (.tup [.str "ask", .ref kp, .ref cp, ov])) (rk : H kp = some (.tup (lkV k))) (rc : H cp = some (.tup xs)) (c : OsAt K st l H xs cs) (g : OtAt K st l H ov o) : Rt K st l H ab t (.ref p)
theorem rt {K : PySem.W.Frag} {st l : Addr} {H : Hp} {ab : List Lk} {v : V} {t : OT} (h : OtAt K st l H v t) : Rt K st l H ab t v := by
  cases h with
  | fin r => exact .two (b := true) (fw_fin) r (fun _ _ => .base (.str _)) (kit_ty (by decide +kernel))
  | ask r rk rc c g => exact .ask rfl r rk rc c g
  | @bad _ d b =>
    have e : fw ab (.bad d) = some [] := fw_bad
    cases b.now with
    | no h =>
      obtain ⟨cn, h1, h2⟩ := noRow_ty (K := K) h
      exact .no e h1 h2
    | lst h n2 n4 => exact .no e (.base (.lst h)) (kit_ty (by decide +kernel))
    | len h n2 n4 => exact .len e h n2 n4
    | twoW h n => exact .twoW e h n
    | twoT h n =>
      obtain ⟨cn, h1, h2⟩ := noText_ty (K := K) n
      exact .two (b := false) e h h1 h2
    | fourW h n => exact .fourW e h n
    | fourN h hy => exact .fourX e h (.inl rfl)
    | fourL h hu n hy ok => exact .fourX e h (.inr ⟨_, _, rfl, hu, ok, n⟩)
    | fourY h hu => exact .fourY e h hu
theorem scLFw : FnScope ["_law_tree_here", "_law_looks_here", "_law_at", "_law_seen", "_law_k", "_law_case", "_law_found"] ["_law_tree_here", "_law_looks_here", "_law_at"] (defScope sLFw) := ⟨rfl, rfl, rfl, by decide +kernel, rfl, by decide +kernel, by decide +kernel⟩
theorem ok_lfw {f fI fC : Addr} {fd fdI fdC : FuncData} (F : Fun K "_law_first_wrong" "_law_first_wrong" sLFw f fd) (T : TB mg) (aLIrl : At K mg "_law_is_right_look" fI fdI ["_law_look_here"]) (GLIrl : FnOk P w K mg base CX0 1 fI fdI ["_law_look_here"] spLIrl) (aLCan : At K mg "_law_can_have" fC fdC ["_law_look_here", "_law_answer"]) (GLCan : FnOk P w K mg base CX0 1 fC fdC ["_law_look_here", "_law_answer"] spLCan)
    (aLFw : At K mg "_law_first_wrong" f fd ["_law_tree_here", "_law_looks_here", "_law_at"]) : ∀ n, FnOk P w K mg base CX0 (2 + n) f fd ["_law_tree_here", "_law_looks_here", "_law_at"] (spFW K st l n) := by
  intro n
  induction n with
  | zero =>
    refine ⟨fun vs H Q E h => ?_, fun A outer s H args us vs Q E hr he hb hv h => ?_⟩
    · obtain ⟨v, D, pa, t, pl, ab, rfl, _⟩ := h
      rfl
    · obtain ⟨v, D, pa, t, pl, ab, _, _, _, hd, _⟩ := h
      exact absurd hd (Nat.not_lt_zero _)
  | succ n GLFw =>
    refine F.ok scLFw (fun vs H Q E h => ?_) (fun cdv A outer s H vs Q E hr h => ?_)
    · obtain ⟨v, D, pa, t, pl, ab, rfl, _⟩ := h
      rfl
    · obtain ⟨v, D, pa, t, pl, ab, rfl, ht, ok, hd, hD, aw, hal, hpa, hpl, fin⟩ := h
      have hu5 : (A.deeper (envOfC "_law_first_wrong" (defScope sLFw) s.heap.objs.size f cdv)).units + 65 < cLine := by have := hr.un; omega
      have hu := hr.units
      have hrN : ∀ m, m ≤ 2 + n → Room m (A.deeper (envOfC "_law_first_wrong" (defScope sLFw) s.heap.objs.size f cdv)) := fun m h => hr.mono h
      refine ⟨_, pss_cons (ps_if (PW.pt (pw_or (pt_not (pt_val (pe_callB call_isi (by rfl) T.isinstance (by decide +kernel) (pa_cons (pv 0) (pa_cons (pe_bltn (v := .ty "tuple") (by rfl) T.tuple (by decide +kernel) rfl) pa_nil))))) (pw_or (pt_cmpR op_notIn_seq (pe_callB call_len_seq (by rfl) T.len PySem.boot_len (pa_cons (pv 0) pa_nil)) (pe_tup (pa_cons pe_int (pa_cons pe_int pa_nil))) (by rfl)) (pw_or1 (pt_cmpR op_ne (pe_ix ix_tup (pv 0) pe_int (fun _ _ => rfl)) (pe_ix ix_list (pe_lst (pa_cons pe_str (pa_cons pe_str pa_nil))) (pe_callTy call_int1 (by rfl) T.int (by decide +kernel) (pa_cons (pe_cmpR op_eq (pe_callB call_len_seq (by rfl) T.len PySem.boot_len (pa_cons (pv 0) pa_nil)) pe_int (nomark _)) pa_nil)) (fun _ _ => rfl)) (nomark _)))))) (pss_one (ps_ret (pv 2))) (pss_nil))
              (pss_cons (ps_if (pt_cmpR op_eq (pe_callB call_len_seq (by rfl) T.len PySem.boot_len (pa_cons (pv 0) pa_nil)) pe_int (nomark _)) (pss_one (ps_ret (pe_ifExp (pt_not (pt_val (pe_callB call_isi (by rfl) T.isinstance (by decide +kernel) (pa_cons (pe_ix ix_tup (pv 0) pe_int (fun _ _ => rfl)) (pa_cons (pe_bltn (v := .ty "str") (by rfl) T.str (by decide +kernel) rfl) pa_nil))))) (pv 2) pe_non))) (pss_nil))
              (pss_cons (ps_if (PW.pt (pw_or (pt_not (pt_val (pe_call GLIrl (hrN _ (by omega)) rfl aLIrl.m aLIrl.k aLIrl.b .nil pass0 (pa_cons (pe_ix ix_tup (pv 0) pe_int (fun _ _ => rfl)) pa_nil)))) (pw_or (pt_cmpR (op_inD hu5) (pe_ix ix_tup (pv 0) pe_int (fun _ _ => rfl)) (pv 1) (by rfl)) (pw_or1 (pt_not (pt_val (pe_callB call_isi (by rfl) T.isinstance (by decide +kernel) (pa_cons (pe_ix ix_tup (pv 0) pe_int (fun _ _ => rfl)) (pa_cons (pe_bltn (v := .ty "tuple") (by rfl) T.tuple (by decide +kernel) rfl) pa_nil))))))))) (pss_one (ps_ret (pv 2))) (pss_nil))
              (pss_cons (ps_set (i := 3) scLFw.nd rfl (Or.inl rfl) (pe_lst pa_nil))
              (pss_cons (ps_for PassesOwn.never rfl (EE.pi_enumE rfl T.enumerate (pe_ix ix_tup (pv 0) pe_int (fun _ _ => rfl))) (pg_tup rfl (pgs_cons (pg_name (i := 4) scLFw.nd rfl (Or.inl rfl)) (pgs_cons (pg_name (i := 5) scLFw.nd rfl (Or.inl rfl)) pgs_nil))) (pss_cons (ps_if (PW.pt (pw_or (pt_not (pt_val (pe_callB call_isi (by rfl) T.isinstance (by decide +kernel) (pa_cons (pv 5) (pa_cons (pe_bltn (v := .ty "tuple") (by rfl) T.tuple (by decide +kernel) rfl) pa_nil))))) (pw_or1 (pt_cmpR op_ne (pe_callB call_len_seq (by rfl) T.len PySem.boot_len (pa_cons (pv 5) pa_nil)) pe_int (nomark _))))) (pss_one (ps_ret (pe_op op_catA (pv 2) (pe_tup (pa_cons (pv 4) pa_nil))))) (pss_nil))
              (pss_cons (ps_if (PW.pt (pw_or (pt_not (pt_val (pe_call GLCan (hrN _ (by omega)) rfl aLCan.m aLCan.k aLCan.b .nil pass0 (pa_cons (pe_ix ix_tup (pv 0) pe_int (fun _ _ => rfl)) (pa_cons (pe_ix ix_tup (pv 5) pe_int (fun _ _ => rfl)) pa_nil))))) (pw_or1 (pt_cmpR (op_inD hu5) (pe_ix ix_tup (pv 5) pe_int (fun _ _ => rfl)) (pv 3) (by rfl))))) (pss_one (ps_ret (pe_op op_catA (pv 2) (pe_tup (pa_cons (pv 4) pa_nil))))) (pss_nil))
              (pss_cons (ps_expr (pe_bm PySem.F.plainAttrs_list PySem.F.slot_list_append PySem.F.type_list_append mt_append (pv 3) (pa_cons (pe_ix ix_tup (pv 5) pe_int (fun _ _ => rfl)) pa_nil)))
              (pss_cons (ps_set (i := 6) scLFw.nd rfl (Or.inl rfl) (pe_call GLFw (hrN _ (by omega)) rfl aLFw.m aLFw.k aLFw.b .nil pass0 (pa_cons (pe_ix ix_tup (pv 5) pe_int (fun _ _ => rfl)) (pa_cons (pe_op op_cat (pv 1) (pe_lst (pa_cons (pe_ix ix_tup (pv 0) pe_int (fun _ _ => rfl)) pa_nil))) (pa_cons (pe_op op_catA (pv 2) (pe_tup (pa_cons (pv 4) pa_nil))) pa_nil)))))
              (pss_one (ps_if (pt_cmp (pc_notN (pv 6))) (pss_one (ps_ret (pv 6))) (pss_nil))))))))
              (pss_one (ps_ret (pe_call GLFw (hrN _ (by omega)) rfl aLFw.m aLFw.k aLFw.b .nil pass0 (pa_cons (pe_ix ix_tup (pv 0) pe_int (fun _ _ => rfl)) (pa_cons (pe_op op_cat (pv 1) (pe_lst (pa_cons (pe_ix ix_tup (pv 0) pe_int (fun _ _ => rfl)) pa_nil))) (pa_cons (pe_op op_catA (pv 2) (pe_tup (pa_cons (pe_callB call_len_row (by rfl) T.len PySem.boot_len (pa_cons (pe_ix ix_tup (pv 0) pe_int (fun _ _ => rfl)) pa_nil)) pa_nil))) pa_nil)))))))))), ?_⟩
      have at0 : fw ab t = some [] → ∀ H1, Same H H1 → Q (.ref pa) H1 := fun e H1 s1 => fin _ H1 s1 (by rw [e]; exact ⟨pa, rfl, by rw [List.append_nil]; exact s1 _ _ hpa⟩)
      have inl : ∀ {H1 : Hp} {u : Addr} {k : Lk} {R : VK}, Same H H1 → H1 u = some (.tup (lkV k)) → LkW k → R (.bl (decide (k ∈ ab))) H1 → rInD K (.ref u) (.ref D) H1 R := fun {H1 u k R} s1 hu wk q => by
        obtain ⟨za, ha1, ha2, ha3⟩ := lks_zip (lksL_tup hD (fun xs e => s1 _ _ e) (TupS.of s1))
        have dpD := ks_dp (K := K) ha1 ha3
        rw [ha2] at dpD
        refine ⟨lkD k, ab.map lkD, lk_dp hu, dpD, lkD_shaped wk, ks_shaped aw, ?_⟩
        rw [any_lk wk aw]
        exact q
      have nin : ∀ (m : Nat), m ≠ 2 → m ≠ 4 → (if true = true then !inV (.int (m : Int)) [.int 2, .int 4] else inV (.int (m : Int)) [.int 2, .int 4]) = true := fun m h2 h4 => by
        rw [in24, decide_eq_false (by omega)]
        rfl
      have yin : ∀ (m : Nat), (m = 2 ∨ m = 4) → (if true = true then !inV (.int (m : Int)) [.int 2, .int 4] else inV (.int (m : Int)) [.int 2, .int 4]) = false := fun m h => by
        rw [in24, decide_eq_true h]
        rfl
      cases rt (ab := ab) ht with
      | no e h k => exact ⟨_, rfl, _, _, _, .type "tuple", false, rfl, .ty "tuple", h, k, _, rfl, iteT (iteT ⟨_, rfl, at0 e H (Same.refl H)⟩)⟩
      | @len a xs e h n2 n4 =>
        refine ⟨_, rfl, _, _, .type "tuple", .type "tuple", true, rfl, .ty "tuple", .base (.tup h), kit_ty (by decide +kernel), _, rfl, iteF ⟨_, rfl, a, xs, rfl, .inr (SqT.of h), by show 2 ≤ sizeLine; decide, fun c hc => ⟨c, _, rfl, .inr (SqT.of upd_same), rfl, rfl, _, rfl, ifT (nin _ n2 n4) (iteT ⟨_, rfl, at0 e _ (same_mk hc)⟩)⟩⟩⟩
      | @twoW a w y e h n =>
        refine ⟨_, rfl, _, _, .type "tuple", .type "tuple", true, rfl, .ty "tuple", .base (.tup h), kit_ty (by decide +kernel), _, rfl, iteF ⟨_, rfl, a, _, rfl, .inr (SqT.of h), by show 2 ≤ sizeLine; decide, fun c hc => ⟨c, _, rfl, .inr (SqT.of upd_same), rfl, rfl, _, rfl, ifF (yin 2 (.inl rfl)) ?_⟩⟩⟩
        have sc := same_mk (o := .tup [.int 2, .int 4]) hc
        refine ⟨_, rfl, a, _, 0, _, rfl, rfl, SqT.of (sc _ _ h), atI_nat (j := 0) rfl, by show 2 ≤ sizeLine; decide, fun L hL => ?_⟩
        have sL := same_mk (o := .lst [.str "end", .str "ask"]) hL
        have s1 := sc.trans sL
        have hL1 := upd_same (H := upd H c (.tup [.int 2, .int 4])) (a := L) (o := .lst [.str "end", .str "ask"])
        have h1 := s1 _ _ h
        generalize upd (upd H c (.tup [.int 2, .int 4])) L (.lst [.str "end", .str "ask"]) = H1 at s1 hL1 h1 ⊢
        refine ⟨_, rfl, a, _, rfl, .inr (SqT.of h1), rfl, .inr ⟨_, rfl, L, _, 0, _, rfl, two4, SqL.of hL1, atI_nat (j := 0) rfl, rfl, _, rfl, ?_⟩⟩
        exact ifT (by rw [decide_eq_false fun z => n (V.str.inj z)]; rfl) ( ⟨_, rfl, at0 e _ s1⟩)
      | @two a y cn b e h g k =>
        refine ⟨_, rfl, _, _, .type "tuple", .type "tuple", true, rfl, .ty "tuple", .base (.tup h), kit_ty (by decide +kernel), _, rfl, iteF ⟨_, rfl, a, _, rfl, .inr (SqT.of h), by show 2 ≤ sizeLine; decide, fun c hc => ⟨c, _, rfl, .inr (SqT.of upd_same), rfl, rfl, _, rfl, ifF (yin 2 (.inl rfl)) ?_⟩⟩⟩
        have sc := same_mk (o := .tup [.int 2, .int 4]) hc
        refine ⟨_, rfl, a, _, 0, _, rfl, rfl, SqT.of (sc _ _ h), atI_nat (j := 0) rfl, by show 2 ≤ sizeLine; decide, fun L hL => ?_⟩
        have sL := same_mk (o := .lst [.str "end", .str "ask"]) hL
        have s1 := sc.trans sL
        have hL1 := upd_same (H := upd H c (.tup [.int 2, .int 4])) (a := L) (o := .lst [.str "end", .str "ask"])
        have h1 := s1 _ _ h
        generalize upd (upd H c (.tup [.int 2, .int 4])) L (.lst [.str "end", .str "ask"]) = H1 at s1 hL1 h1 ⊢
        refine ⟨_, rfl, a, _, rfl, .inr (SqT.of h1), rfl, .inr ⟨_, rfl, L, _, 0, _, rfl, two4, SqL.of hL1, atI_nat (j := 0) rfl, rfl, _, rfl, ?_⟩⟩
        refine ifF (by rw [decide_eq_true rfl]; rfl) ?_
        refine ⟨_, rfl, a, _, rfl, .inr (SqT.of h1), rfl, _, rfl, ifT (decide_eq_true rfl) ?_⟩
        refine ⟨_, rfl, a, _, 1, _, rfl, rfl, SqT.of h1, atI_nat (j := 1) rfl, _, _, _, .type "str", b, rfl, .ty "str", g H1 s1, k, _, rfl, ?_⟩
        cases b with
        | true => exact iteF (fin _ H1 s1 (by rw [e]; rfl))
        | false => exact iteT ⟨_, rfl, at0 e H1 s1⟩
      | @fourW a w x y z e h n =>
        refine ⟨_, rfl, _, _, .type "tuple", .type "tuple", true, rfl, .ty "tuple", .base (.tup h), kit_ty (by decide +kernel), _, rfl, iteF ⟨_, rfl, a, _, rfl, .inr (SqT.of h), by show 2 ≤ sizeLine; decide, fun c hc => ⟨c, _, rfl, .inr (SqT.of upd_same), rfl, rfl, _, rfl, ifF (yin 4 (.inr rfl)) ?_⟩⟩⟩
        have sc := same_mk (o := .tup [.int 2, .int 4]) hc
        refine ⟨_, rfl, a, _, 0, _, rfl, rfl, SqT.of (sc _ _ h), atI_nat (j := 0) rfl, by show 2 ≤ sizeLine; decide, fun L hL => ?_⟩
        have sL := same_mk (o := .lst [.str "end", .str "ask"]) hL
        have s1 := sc.trans sL
        have hL1 := upd_same (H := upd H c (.tup [.int 2, .int 4])) (a := L) (o := .lst [.str "end", .str "ask"])
        have h1 := s1 _ _ h
        generalize upd (upd H c (.tup [.int 2, .int 4])) L (.lst [.str "end", .str "ask"]) = H1 at s1 hL1 h1 ⊢
        refine ⟨_, rfl, a, _, rfl, .inr (SqT.of h1), rfl, .inr ⟨_, rfl, L, _, 1, _, rfl, four4, SqL.of hL1, atI_nat (j := 1) rfl, rfl, _, rfl, ?_⟩⟩
        exact ifT (by rw [decide_eq_false fun z => n (V.str.inj z)]; rfl) ( ⟨_, rfl, at0 e _ s1⟩)
      | @fourX a x y z e h n =>
        refine ⟨_, rfl, _, _, .type "tuple", .type "tuple", true, rfl, .ty "tuple", .base (.tup h), kit_ty (by decide +kernel), _, rfl, iteF ⟨_, rfl, a, _, rfl, .inr (SqT.of h), by show 2 ≤ sizeLine; decide, fun c hc => ⟨c, _, rfl, .inr (SqT.of upd_same), rfl, rfl, _, rfl, ifF (yin 4 (.inr rfl)) ?_⟩⟩⟩
        have sc := same_mk (o := .tup [.int 2, .int 4]) hc
        refine ⟨_, rfl, a, _, 0, _, rfl, rfl, SqT.of (sc _ _ h), atI_nat (j := 0) rfl, by show 2 ≤ sizeLine; decide, fun L hL => ?_⟩
        have sL := same_mk (o := .lst [.str "end", .str "ask"]) hL
        have s1 := sc.trans sL
        have hL1 := upd_same (H := upd H c (.tup [.int 2, .int 4])) (a := L) (o := .lst [.str "end", .str "ask"])
        have h1 := s1 _ _ h
        generalize upd (upd H c (.tup [.int 2, .int 4])) L (.lst [.str "end", .str "ask"]) = H1 at s1 hL1 h1 ⊢
        refine ⟨_, rfl, a, _, rfl, .inr (SqT.of h1), rfl, .inr ⟨_, rfl, L, _, 1, _, rfl, four4, SqL.of hL1, atI_nat (j := 1) rfl, rfl, _, rfl, ?_⟩⟩
        refine ifF (by rw [decide_eq_true rfl]; rfl) ?_
        refine ⟨_, rfl, a, _, rfl, .inr (SqT.of h1), rfl, _, rfl, ifF (decide_eq_false (by intro z; cases z)) ?_⟩
        refine ⟨_, rfl, a, _, 1, _, rfl, rfl, SqT.of h1, atI_nat (j := 1) rfl, x, false, rfl, ?_, fun H2 s2 => ⟨_, rfl, iteT (iteT ⟨_, rfl, at0 e H2 (s1.trans s2)⟩)⟩⟩
        rcases n with rfl | ⟨u, w, rfl, hu, okw, nw⟩
        · exact .inl ⟨rfl, rfl⟩
        · exact .inr ⟨u, w, [], rfl, s1 _ _ hu, by simp, okw, (decide_eq_false nw).symm⟩
      | @fourY a u i z e h hu' =>
        refine ⟨_, rfl, _, _, .type "tuple", .type "tuple", true, rfl, .ty "tuple", .base (.tup h), kit_ty (by decide +kernel), _, rfl, iteF ⟨_, rfl, a, _, rfl, .inr (SqT.of h), by show 2 ≤ sizeLine; decide, fun c hc => ⟨c, _, rfl, .inr (SqT.of upd_same), rfl, rfl, _, rfl, ifF (yin 4 (.inr rfl)) ?_⟩⟩⟩
        have sc := same_mk (o := .tup [.int 2, .int 4]) hc
        refine ⟨_, rfl, a, _, 0, _, rfl, rfl, SqT.of (sc _ _ h), atI_nat (j := 0) rfl, by show 2 ≤ sizeLine; decide, fun L hL => ?_⟩
        have sL := same_mk (o := .lst [.str "end", .str "ask"]) hL
        have s1 := sc.trans sL
        have hL1 := upd_same (H := upd H c (.tup [.int 2, .int 4])) (a := L) (o := .lst [.str "end", .str "ask"])
        have h1 := s1 _ _ h
        generalize upd (upd H c (.tup [.int 2, .int 4])) L (.lst [.str "end", .str "ask"]) = H1 at s1 hL1 h1 ⊢
        refine ⟨_, rfl, a, _, rfl, .inr (SqT.of h1), rfl, .inr ⟨_, rfl, L, _, 1, _, rfl, four4, SqL.of hL1, atI_nat (j := 1) rfl, rfl, _, rfl, ?_⟩⟩
        refine ifF (by rw [decide_eq_true rfl]; rfl) ?_
        refine ⟨_, rfl, a, _, rfl, .inr (SqT.of h1), rfl, _, rfl, ifF (decide_eq_false (by intro z; cases z)) ?_⟩
        have hu1 := s1 _ _ hu'
        refine ⟨_, rfl, a, _, 1, _, rfl, rfl, SqT.of h1, atI_nat (j := 1) rfl, _, true, rfl, .inr ⟨u, "tool", [], rfl, hu1, by simp, by decide +kernel, by decide +kernel⟩, fun H2 s2 => ⟨_, rfl, iteF ?_⟩⟩
        have h2 := s2 _ _ h1
        refine ⟨_, rfl, a, _, 1, _, rfl, rfl, SqT.of h2, atI_nat (j := 1) rfl, _, rfl, inl (s1.trans s2) (k := .tl) (s2 _ _ hu1) trivial ⟨_, rfl, ?_⟩⟩
        by_cases m : Lk.tl ∈ ab
        · exact ifT (decide_eq_true m) (iteT ⟨_, rfl, at0 e H2 (s1.trans s2)⟩)
        · exact ifF (decide_eq_false m) ⟨_, rfl, a, _, 2, _, rfl, rfl, SqT.of h2, atI_nat (j := 2) rfl, _, _, .type "int", .type "tuple", false, rfl, .ty "tuple", .base (.int i), kit_ty (by decide +kernel), _, rfl, iteT ⟨_, rfl, at0 e H2 (s1.trans s2)⟩⟩
      | @ask a kp cp ov xs kk cs o e r rk rc cc g =>
        subst e
        have h := r
        refine ⟨_, rfl, _, _, .type "tuple", .type "tuple", true, rfl, .ty "tuple", .base (.tup h), kit_ty (by decide +kernel), _, rfl, iteF ⟨_, rfl, a, _, rfl, .inr (SqT.of h), by show 2 ≤ sizeLine; decide, fun c hc => ⟨c, _, rfl, .inr (SqT.of upd_same), rfl, rfl, _, rfl, ifF (yin 4 (.inr rfl)) ?_⟩⟩⟩
        have sc := same_mk (o := .tup [.int 2, .int 4]) hc
        refine ⟨_, rfl, a, _, 0, _, rfl, rfl, SqT.of (sc _ _ h), atI_nat (j := 0) rfl, by show 2 ≤ sizeLine; decide, fun L hL => ?_⟩
        have sL := same_mk (o := .lst [.str "end", .str "ask"]) hL
        have s1 := sc.trans sL
        have hL1 := upd_same (H := upd H c (.tup [.int 2, .int 4])) (a := L) (o := .lst [.str "end", .str "ask"])
        have h1 := s1 _ _ h
        generalize upd (upd H c (.tup [.int 2, .int 4])) L (.lst [.str "end", .str "ask"]) = H1 at s1 hL1 h1 ⊢
        refine ⟨_, rfl, a, _, rfl, .inr (SqT.of h1), rfl, .inr ⟨_, rfl, L, _, 1, _, rfl, four4, SqL.of hL1, atI_nat (j := 1) rfl, rfl, _, rfl, ?_⟩⟩
        refine ifF (by rw [decide_eq_true rfl]; rfl) ?_
        refine ⟨_, rfl, a, _, rfl, .inr (SqT.of h1), rfl, _, rfl, ifF (decide_eq_false (by intro z; cases z)) ?_⟩
        obtain ⟨lok, csl, okc, oko⟩ := ok
        have dc : depS cs < n ∧ depO o < n := by
          have : max (depS cs) (depO o) + 1 < n + 1 := hd
          omega
        obtain ⟨wd, lr, el, ll, lw, lm⟩ := lkV_form kk
        have rk1 := s1 _ _ rk
        have rk1' := rk1
        rw [el] at rk1'
        refine ⟨_, rfl, a, _, 1, _, rfl, rfl, SqT.of h1, atI_nat (j := 1) rfl, _, true, rfl, .inr ⟨kp, wd, lr, rfl, rk1', ll, lw, (decide_eq_true lm).symm⟩, fun H2 s2 => ⟨_, rfl, iteF ?_⟩⟩
        have s02 := s1.trans s2
        have h2 := s2 _ _ h1
        refine ⟨_, rfl, a, _, 1, _, rfl, rfl, SqT.of h2, atI_nat (j := 1) rfl, _, rfl, inl s02 (k := kk) (s2 _ _ rk1) (LkOk.w lok) ⟨_, rfl, ?_⟩⟩
        by_cases m : kk ∈ ab
        · exact ifT (decide_eq_true m) (iteT ⟨_, rfl, at0 (fw_rep m) H2 s02⟩)
        have rc2 := s02 _ _ rc
        refine ifF (decide_eq_false m) ⟨_, rfl, a, _, 2, _, rfl, rfl, SqT.of h2, atI_nat (j := 2) rfl, _, _, .type "tuple", .type "tuple", true, rfl, .ty "tuple", .base (.tup rc2), kit_ty (by decide +kernel), _, rfl, iteF ?_⟩
        refine ⟨by show 0 ≤ sizeLine; decide, fun S hS => ?_⟩
        have sS := same_mk (o := .lst []) hS
        have fS : H S = none := s02.free hS
        have hS3 := upd_same (H := H2) (a := S) (o := .lst [])
        have s03 := s02.trans sS
        generalize upd H2 S (.lst []) = H3 at s03 hS3 ⊢
        have row : RowAt H (.ref cp) xs := ⟨_, rfl, .inl rc⟩
        obtain ⟨cl2, cat⟩ := osAt_iff.mp cc
        obtain ⟨vD, hDl, hDT⟩ := hD
        have lenD : vD.length = ab.length := hDT.1
        have hDT : LksT H vD ab := hDT
        have kw := LkOk.w lok
        have aw' : ∀ j ∈ ab ++ [kk], LkW j := fun j hj => by
          rcases List.mem_append.mp hj with z | z
          · exact aw j z
          · rw [List.mem_singleton.mp z]
            exact kw
        have dm : depO (OT.ask kk cs o) = max (depS cs) (depO o) + 1 := by simp [depO]
        rw [dm] at hpl hal
        have plL : ∀ {ys : List V}, ys.length = 1 → (plV pl).length + ys.length ≤ sizeLine := fun {ys} e => by
          rw [e]
          unfold plV
          rw [List.length_map]
          exact Nat.le_trans (show pl.length + 1 ≤ 51 by omega) (by decide)
        have abL : vD.length + 1 ≤ sizeLine := Nat.le_trans (show vD.length + 1 ≤ 51 by omega) (by decide)
        have plW : ∀ (i : Nat) {v : V}, v = .int (i : Int) → plV pl ++ [v] = plV (pl ++ [i]) := fun i v e => by
          rw [e]
          unfold plV
          rw [List.map_append]
          rfl
        refine ⟨_, rfl, a, _, 2, _, rfl, rfl, SqT.of (s03 _ _ r), atI_nat (j := 2) rfl, EE.for_enumE (v := .ref cp) (row.up s03) (fun i σ H' => ∃ x4 x5 x6 ys seen, σ = [some (.ref a), some (.ref D), some (.ref pa), some (.ref S), x4, x5, x6] ∧ Same H H' ∧ H' S = some (.lst ys) ∧ Ans2 H' ys seen ∧ seen.length ≤ i ∧ (∀ x ∈ seen, AnW x) ∧ fwC (ab ++ [kk]) [] 0 cs = fwC (ab ++ [kk]) seen i (cs.drop i))
          ⟨none, none, none, [], [], rfl, s03, hS3, .nil, Nat.le_refl _, (fun x hx => by cases hx), rfl⟩ (fun i τ H' ⟨x4, x5, x6, ys, seen, _, s7, _⟩ b q e hq => ?_) ?_ ?_⟩
        · cases e
          have := s03 _ _ rc
          rw [hq] at this
          cases this
          exact s7 _ _ rc
        · rintro i x Tt _ H7 hi ⟨x4, x5, x6, ys, seen, rfl, s7, hS7, an7, snl, sw, prog⟩ hx hT
          have ic : i < cs.length := by omega
          have hci : cs[i]? = some cs[i] := List.getElem?_eq_getElem ic
          have cx := cat i x cs[i] hx hci
          have mem : cs[i] ∈ cs := List.getElem_mem ic
          rw [fwC_drop hci] at prog
          generalize cs[i] = c0 at hci cx mem prog
          have sT := same_mk (o := .tup [.int (i : Nat), x]) hT
          refine ⟨Tt, _, rfl, SqT.of upd_same, rfl, _, _, rfl, _, _, rfl, rfl, ?_⟩
          have s8 := s7.trans sT
          have hS8 := sT _ _ hS7
          have an8 := an7.up (TupS.of sT)
          generalize upd H7 Tt (.tup [.int (i : Nat), x]) = H8 at s8 hS8 an8 ⊢
          have here : fwC (ab ++ [kk]) [] 0 cs = some [i] → ∀ (H9 : Hp), Same H H9 → ∀ (tn : Addr), H9 tn = none → rCatA K (.ref pa) (.ref tn) (upd H9 tn (.tup [.int (i : Nat)])) Q := fun e H9 s9 tn htn => by
            have sn := same_mk (o := .tup [.int (i : Nat)]) htn
            refine catA_all ((s9.trans sn) _ _ hpa) upd_same (plL rfl) fun pp H10 s10 hpp => fin _ H10 ((s9.trans sn).trans s10) ?_
            rw [fw_cs m e]
            exact ⟨pp, rfl, by rw [hpp, plW i rfl]⟩
          cases c0 with
          | odd od =>
            rw [fwC_odd] at prog
            cases (cx.but (But.same s8)).now with
            | no h =>
              rcases h with rfl | ⟨j, rfl⟩
              · exact ⟨_, rfl, _, _, .type "NoneType", .type "tuple", false, rfl, .ty "tuple", .base .non, kit_ty (by decide +kernel), _, rfl, iteT (iteT ⟨_, rfl, _, rfl, by show 1 ≤ sizeLine; decide, fun tn htn => here prog H8 s8 tn htn⟩)⟩
              · exact ⟨_, rfl, _, _, .type "int", .type "tuple", false, rfl, .ty "tuple", .base (.int j), kit_ty (by decide +kernel), _, rfl, iteT (iteT ⟨_, rfl, _, rfl, by show 1 ≤ sizeLine; decide, fun tn htn => here prog H8 s8 tn htn⟩)⟩
            | @len ca zs h n =>
              exact ⟨_, rfl, _, _, .type "tuple", .type "tuple", true, rfl, .ty "tuple", .base (.tup h), kit_ty (by decide +kernel), _, rfl, iteF ⟨_, rfl, ca, _, rfl, .inr (SqT.of h), rfl, _, rfl, ifT (by rw [decide_eq_false fun z => n (by have := V.int.inj z; omega)]; rfl) ⟨_, rfl, _, rfl, by show 1 ≤ sizeLine; decide, fun tn htn => here prog H8 s8 tn htn⟩⟩⟩
          | ans od t0 =>
            rw [fwC_ans] at prog
            obtain ⟨ca, av, tv, rfl, h0, bv, _⟩ := cx
            have h := s8 _ _ h0
            have n := ((bv.but (But.same s8)) _ But.refl).1
            refine ⟨_, rfl, _, _, .type "tuple", .type "tuple", true, rfl, .ty "tuple", .base (.tup h), kit_ty (by decide +kernel), _, rfl, iteF ⟨_, rfl, ca, _, rfl, .inr (SqT.of h), rfl, _, rfl, iteF ?_⟩⟩
            refine ⟨_, rfl, a, _, 1, _, rfl, rfl, SqT.of (s8 _ _ r), atI_nat (j := 1) rfl, _, rfl, ca, _, 0, _, rfl, rfl, SqT.of h, atI_nat (j := 0) rfl, kp, _, kk, false, rfl, s8 _ _ rk, lok, .inl ⟨rfl, n⟩, fun H9 s9 => ⟨_, rfl, iteT (iteT ⟨_, rfl, _, rfl, by show 1 ≤ sizeLine; decide, fun tn htn => here prog H9 (s8.trans s9) tn htn⟩)⟩⟩
          | ok ca t0 =>
            obtain ⟨cp', av, tv, rfl, hcp, han, htr⟩ := cx
            obtain ⟨sok, tok⟩ := okS_mem.mp okc _ mem
            have hcp8 := s8 _ _ hcp
            refine ⟨_, rfl, _, _, .type "tuple", .type "tuple", true, rfl, .ty "tuple", .base (.tup hcp8), kit_ty (by decide +kernel), _, rfl, iteF ⟨_, rfl, cp', _, rfl, .inr (SqT.of hcp8), rfl, _, rfl, iteF ?_⟩⟩
            refine ⟨_, rfl, a, _, 1, _, rfl, rfl, SqT.of (s8 _ _ r), atI_nat (j := 1) rfl, _, rfl, cp', _, 0, _, rfl, rfl, SqT.of hcp8, atI_nat (j := 0) rfl, kp, _, kk, true, rfl, s8 _ _ rk, lok, .inr ⟨rfl, ca, han.up s8, sok.1.2, sok.2.2⟩, fun H9 s9 => ⟨_, rfl, iteF ?_⟩⟩
            have s09 := s8.trans s9
            have an9 := an8.up (TupS.of s9)
            have hS9 := s9 _ _ hS8
            have wa : AnW ca := sok.2.2
            refine ⟨_, rfl, cp', _, 0, _, rfl, rfl, SqT.of (s9 _ _ hcp8), atI_nat (j := 0) rfl, _, rfl, anD ca, seen.map anD, an_dp (han.up s09), .lst (SqL.of hS9) an9.dp, anD_shaped wa, ans_shaped sw, ?_⟩
            rw [any_an wa sw]
            refine ⟨_, rfl, ?_⟩
            by_cases ms : ca ∈ seen
            · rw [fwC_rep ms] at prog
              exact ifT (decide_eq_true ms) ⟨_, rfl, _, rfl, by show 1 ≤ sizeLine; decide, fun tn htn => here prog H9 s09 tn htn⟩
            refine ifF (decide_eq_false ms) ?_
            have ysl : ys.length = seen.length := an9.len
            refine ⟨_, rfl, .inl ⟨rfl, _, SqL.of hS9⟩, _, rfl, cp', _, 0, _, rfl, rfl, SqT.of (s09 _ _ hcp), atI_nat (j := 0) rfl, S, ys, av, rfl, rfl, hS9, Nat.lt_of_le_of_lt (show ys.length ≤ 1000 by omega) (by decide), ?_⟩
            have tupS : TupS H9 (upd H9 S (.lst (ys ++ [av]))) := tupS_put hS9 (by intro zs z; cases z)
            have s0A : Same H (upd H9 S (.lst (ys ++ [av]))) := fun b q e => by
              rw [upd_ne fun z => by rw [z, fS] at e; cases e]
              exact s09 _ _ e
            have hSA := upd_same (H := H9) (a := S) (o := .lst (ys ++ [av]))
            have anA : Ans2 (upd H9 S (.lst (ys ++ [av]))) (ys ++ [av]) (seen ++ [ca]) := (an9.up tupS).snoc (han.up s0A)
            generalize upd H9 S (.lst (ys ++ [av])) = HA at s0A hSA anA ⊢
            refine ⟨_, rfl, cp', _, 1, _, rfl, rfl, SqT.of (s0A _ _ hcp), atI_nat (j := 1) rfl, _, rfl, _, rfl, a, _, 1, _, rfl, rfl, SqT.of (s0A _ _ r), atI_nat (j := 1) rfl, by show 1 ≤ sizeLine; decide, fun q hq => ?_⟩
            have sq := same_mk (o := .lst [.ref kp]) hq
            refine ⟨D, q, vD, _, rfl, rfl, (s0A.trans sq) _ _ hDl, upd_same, abL, fun D2 hD2 => ?_⟩
            have sD2 := same_mk (o := .lst (vD ++ [.ref kp])) hD2
            have sAB := sq.trans sD2
            have hDB := upd_same (H := upd HA q (.lst [.ref kp])) (a := D2) (o := .lst (vD ++ [.ref kp]))
            generalize upd (upd HA q (.lst [.ref kp])) D2 (.lst (vD ++ [.ref kp])) = HB at sAB hDB ⊢
            have s0B := s0A.trans sAB
            refine ⟨_, rfl, _, rfl, by show 1 ≤ sizeLine; decide, fun tn htn => ?_⟩
            have sn := same_mk (o := .tup [.int (i : Nat)]) htn
            refine catA_all ((s0B.trans sn) _ _ hpa) upd_same (plL rfl) fun pp HC sC hpp => ?_
            have sBC := sn.trans sC
            have s0C := s0B.trans sBC
            have h3 : depO t0 ≤ depS cs := depS_mem mem
            refine ⟨tv, D2, pp, t0, pl ++ [i], ab ++ [kk], rfl, htr.up s0C, tok, by omega, ⟨_, sBC _ _ hDB, (hDT.up s0C).snoc (s0C _ _ rk)⟩, aw', by rw [List.length_append]; show ab.length + 1 + _ ≤ 50; omega, by rw [hpp, plW i rfl], by rw [List.length_append]; show pl.length + 1 + _ ≤ 50; omega, fun rv HD sD hrv => ?_⟩
            have sAD := (sAB.trans sBC).trans sD
            cases et : fw (ab ++ [kk]) t0 with
            | some p' =>
              rw [fwC_in ms et] at prog
              rw [et] at hrv
              obtain ⟨rq, rfl, hrq⟩ := hrv
              refine ⟨_, rfl, _, rfl, iteT ⟨_, rfl, fin _ HD (s0A.trans sAD) ?_⟩⟩
              rw [fw_cs m prog]
              exact ⟨rq, rfl, by rw [hrq, List.append_assoc]; rfl⟩
            | none =>
              rw [fwC_next ms et] at prog
              rw [et] at hrv
              obtain rfl : rv = .non := hrv
              refine ⟨_, rfl, _, rfl, iteF ⟨_, _, _, ys ++ [av], seen ++ [ca], rfl, s0A.trans sAD, sAD _ _ hSA, anA.up (TupS.of sAD), by rw [List.length_append]; exact Nat.succ_le_succ snl, fun x hx => ?_, prog⟩⟩
              rcases List.mem_append.mp hx with hx | hx
              · exact sw x hx
              · rw [List.mem_singleton.mp hx]
                exact wa
        · rintro _ H7 ⟨x4, x5, x6, ys, seen, rfl, s7, hS7, an7, snl, sw, prog⟩
          rw [cl2, List.drop_length, fwC_nil] at prog
          refine ⟨_, rfl, a, _, 3, _, rfl, rfl, SqT.of (s7 _ _ r), atI_nat (j := 3) rfl, _, rfl, _, rfl, a, _, 1, _, rfl, rfl, SqT.of (s7 _ _ r), atI_nat (j := 1) rfl, by show 1 ≤ sizeLine; decide, fun q hq => ?_⟩
          have sq := same_mk (o := .lst [.ref kp]) hq
          refine ⟨D, q, vD, _, rfl, rfl, (s7.trans sq) _ _ hDl, upd_same, abL, fun D2 hD2 => ?_⟩
          have sD2 := same_mk (o := .lst (vD ++ [.ref kp])) hD2
          have sAB := sq.trans sD2
          have hDB := upd_same (H := upd H7 q (.lst [.ref kp])) (a := D2) (o := .lst (vD ++ [.ref kp]))
          generalize upd (upd H7 q (.lst [.ref kp])) D2 (.lst (vD ++ [.ref kp])) = HB at sAB hDB ⊢
          have s0B := s7.trans sAB
          refine ⟨_, rfl, _, rfl, a, _, 2, _, rfl, rfl, SqT.of (s0B _ _ r), atI_nat (j := 2) rfl, .ref cp, xs, rfl, row.up s0B, by show 1 ≤ sizeLine; decide, fun tn htn => ?_⟩
          have sn := same_mk (o := .tup [.int (xs.length : Int)]) htn
          refine catA_all ((s0B.trans sn) _ _ hpa) upd_same (plL rfl) fun pp HC sC hpp => ?_
          have sBC := sn.trans sC
          have s0C := s0B.trans sBC
          refine ⟨ov, D2, pp, o, pl ++ [cs.length], ab ++ [kk], rfl, g.up s0C, oko, dc.2, ⟨_, sBC _ _ hDB, (hDT.up s0C).snoc (s0C _ _ rk)⟩, aw', by rw [List.length_append]; show ab.length + 1 + _ ≤ 50; omega, by rw [hpp, plW cs.length (by rw [cl2])], by rw [List.length_append]; show pl.length + 1 + _ ≤ 50; omega, fun rv HD sD hrv => fin _ HD (s0C.trans sD) ?_⟩
          rw [fw_o m prog]
          cases et : fw (ab ++ [kk]) o with
          | none =>
            rw [et] at hrv
            exact hrv
          | some p' =>
            rw [et] at hrv
            obtain ⟨rq, e1, hrq⟩ := hrv
            exact ⟨rq, e1, by rw [hrq, List.append_assoc]; rfl⟩
end
end T6

set_option maxHeartbeats 3900000
namespace T6
open PySem PySem.Spec PyProof.Rows L2 TL RP
open C8 (pss_cut tCut pe_gc)
open CB XW LE LR DV FD FI
abbrev sLOdd : Stmt := top 42
theorem part_in {Hb Hc H' : Hp} {q : Addr} {v : V} {xs : List V} {ds es : List Dv} (sH : ∀ a, Hc a = none → Hb a = none) (hq : Hc q = some (.lst xs)) (s : Same Hc H') (old : DatAll Hb Hc xs ds) (qb : Hb q ≠ none) (h : Dat Hc H' v (.lst es)) :
    ∃ g ys, v = .ref g ∧ H' q = some (.lst xs) ∧ H' g = some (.lst ys) ∧ ys.length = es.length ∧ DatAll Hb (upd H' q (.lst (xs ++ ys))) (xs ++ ys) (ds ++ es) ∧ ∀ a, upd H' q (.lst (xs ++ ys)) a = none → Hb a = none := by
  cases h with
  | @lst g ys _ n hg k =>
    refine ⟨g, ys, rfl, s _ _ hq, hg, k.length, DatAll.app ?_ ?_, fun a ha => ?_⟩
    · refine old.up fun a o n e _ => ?_
      rw [upd_ne fun z => qb (by rw [← z]; exact n)]
      exact s _ _ e
    · refine DatAll.base sH (k.up fun a o n e _ => ?_)
      rw [upd_ne fun z => by rw [z, hq] at n; cases n]
      exact e
    · refine sH a (s.free ?_)
      by_cases z : a = q
      · rw [z, upd_same] at ha
        cases ha
      · rw [upd_ne z] at ha
        exact ha
theorem one_in {Hb Hc H' : Hp} {q : Addr} {v : V} {xs : List V} {ds : List Dv} {d : Dv} (sH : ∀ a, Hc a = none → Hb a = none) (hq : Hc q = some (.lst xs)) (s : Same Hc H') (old : DatAll Hb Hc xs ds) (qb : Hb q ≠ none) (h : Dat Hc H' v d) :
    H' q = some (.lst xs) ∧ DatAll Hb (upd H' q (.lst (xs ++ [v]))) (xs ++ [v]) (ds ++ [d]) ∧ ∀ a, upd H' q (.lst (xs ++ [v])) a = none → Hb a = none := by
  refine ⟨s _ _ hq, DatAll.app ?_ (.cons ?_ .nil), fun a ha => ?_⟩
  · refine old.up fun a o n e _ => ?_
    rw [upd_ne fun z => qb (by rw [← z]; exact n)]
    exact s _ _ e
  · refine Dat.base sH (h.up fun a o n e _ => ?_)
    rw [upd_ne fun z => by rw [z, hq] at n; cases n]
    exact e
  · refine sH a (s.free ?_)
    by_cases z : a = q
    · rw [z, upd_same] at ha
      cases ha
    · rw [upd_ne z] at ha
      exact ha
abbrev dEnd : Dv := .tup [.str "end", .str "a"]
def o1 : List Dv := [.non, .int 5, .str "end", .tup [], .tup [.str "end"], .tup [.str "end", .non], .tup [.str "end", .str "a", .str "b"], .tup [.str "stop", .str "a"], .dct, .tup [.str "end", .int 5]]
def o2 : Dv := .lst [.lst [.str "end", .str "a"]]
def o3 : List Dv := [.tup [.str "ask", .tup [.str "tool"], .tup []], .tup [.str "ask", .tup [.str "tool"], .tup [], dEnd, .int 5], .tup [.str "ask", .tup [.str "tools"], .tup [], dEnd]]
def o4 : List Dv := [.tup [.str "ask", .tup [.str "tool"], .int 5, dEnd], .tup [.str "end", .str "a", .tup [], dEnd], .tup [.str "ask", .non, .tup [], dEnd]]
abbrev oAll : List Dv := o1 ++ [o2] ++ o3 ++ o4
theorem badAll {H0 H : Hp} : ∀ d ∈ oAll, ∀ v, Dat H0 H v d → BadR H v := by
  intro d hd v h
  simp only [oAll, o1, o2, o3, o4, List.mem_append, List.mem_cons, List.not_mem_nil, or_false] at hd
  rcases hd with (((rfl | rfl | rfl | rfl | rfl | rfl | rfl | rfl | rfl | rfl) | rfl) | rfl | rfl | rfl) | rfl | rfl | rfl
  · cases h; exact .no .non
  · cases h; exact .no (.int 5)
  · cases h; exact .no (.str _)
  · cases h with | tup n h k => cases k; exact .len h (by decide) (by decide)
  · cases h with | tup n h k => exact .len h (by rw [k.length]; decide) (by rw [k.length]; decide)
  · cases h with | tup n h k => cases k with | cons k1 k => cases k with | cons k2 k => cases k; cases k1; cases k2; exact .twoT h .non
  · cases h with | tup n h k => exact .len h (by rw [k.length]; decide) (by rw [k.length]; decide)
  · cases h with | tup n h k => cases k with | cons k1 k => cases k with | cons k2 k => cases k; cases k1; exact .twoW h (by decide +kernel)
  · cases h with | dct n h => exact .no (.dct h)
  · cases h with | tup n h k => cases k with | cons k1 k => cases k with | cons k2 k => cases k; cases k1; cases k2; exact .twoT h (.int 5)
  · cases h with | lst n h k => exact .lst h (by rw [k.length]; decide) (by rw [k.length]; decide)
  · cases h with | tup n h k => exact .len h (by rw [k.length]; decide) (by rw [k.length]; decide)
  · cases h with | tup n h k => exact .len h (by rw [k.length]; decide) (by rw [k.length]; decide)
  · cases h with
    | tup n h k => cases k with
      | cons k1 k => cases k with
        | cons k2 k => cases k with
          | cons k3 k => cases k with
            | cons k4 k =>
              cases k; cases k1
              cases k2 with
              | tup n2 h2 j => cases j with
                | cons j1 j =>
                  cases j; cases j1
                  cases k3 with
                  | tup n3 h3 j => cases j; exact .fourL h h2 (by decide +kernel) h3 (by decide +kernel)
  · cases h with
    | tup n h k => cases k with
      | cons k1 k => cases k with
        | cons k2 k => cases k with
          | cons k3 k => cases k with
            | cons k4 k =>
              cases k; cases k1; cases k3
              cases k2 with
              | tup n2 h2 j => cases j with
                | cons j1 j =>
                  cases j; cases j1
                  exact .fourY h h2
  · cases h with
    | tup n h k => cases k with
      | cons k1 k => cases k with
        | cons k2 k => cases k with
          | cons k3 k => cases k with
            | cons k4 k => cases k; cases k1; exact .fourW h (by decide +kernel)
  · cases h with
    | tup n h k => cases k with
      | cons k1 k => cases k with
        | cons k2 k => cases k with
          | cons k3 k => cases k with
            | cons k4 k =>
              cases k; cases k1; cases k2
              cases k3 with
              | tup n3 h3 j => cases j; exact .fourN h h3
theorem datAll4 {H0 H : Hp} {a b c e : V} {ds : List Dv} (h : DatAll H0 H [a, b, c, e] ds) : ∃ d1 d2 d3 d4, ds = [d1, d2, d3, d4] ∧ Dat H0 H a d1 ∧ Dat H0 H b d2 ∧ Dat H0 H c d3 ∧ Dat H0 H e d4 := by
  cases h with
  | cons k1 k => cases k with
    | cons k2 k => cases k with
      | cons k3 k => cases k with
        | cons k4 k => cases k; exact ⟨_, _, _, _, rfl, k1, k2, k3, k4⟩
def FX (st l : Addr) (H : Hp) (v : V) : Prop := ∀ H', But st l H H' → ∀ a u y z, v = .ref a → H' a = some (.tup [.str "ask", u, y, z]) → (∃ i, y = .int i) ∨ ∃ yq zq, y = .ref yq ∧ z = .ref zq ∧ H' yq = some (.tup []) ∧ H' zq = some (.tup [.str "end", .str "a"]) ∧ (u = .non ∨ ∃ uq, u = .ref uq ∧ H' uq = some (.tup [.str "tools"]))
theorem fx_end {H0 H : Hp} {z : V} (k : Dat H0 H z dEnd) : ∃ q, z = .ref q ∧ H q = some (.tup [.str "end", .str "a"]) := by
  cases k with
  | tup n h k => cases k with
    | cons k1 k => cases k with
      | cons k2 k => cases k; cases k1; cases k2; exact ⟨_, rfl, h⟩
theorem fx_nil {H0 H : Hp} {z : V} (k : Dat H0 H z (.tup [])) : ∃ q, z = .ref q ∧ H q = some (.tup []) := by
  cases k with
  | tup n h k => cases k; exact ⟨_, rfl, h⟩
theorem fxAll {H0 H : Hp} : ∀ d ∈ oAll, ∀ v, Dat H0 H v d → ∀ a u y z, v = .ref a → H a = some (.tup [.str "ask", u, y, z]) → (∃ i, y = .int i) ∨ ∃ yq zq, y = .ref yq ∧ z = .ref zq ∧ H yq = some (.tup []) ∧ H zq = some (.tup [.str "end", .str "a"]) ∧ (u = .non ∨ ∃ uq, u = .ref uq ∧ H uq = some (.tup [.str "tools"])) := by
  intro d hd v h a u y z e ha
  subst e
  obtain ⟨ds, rfl, k⟩ : ∃ ds, d = .tup ds ∧ DatAll H0 H [.str "ask", u, y, z] ds := by
    cases h with
    | tup n h k => rw [h] at ha; cases ha; exact ⟨_, rfl, k⟩
    | lst n h k => rw [h] at ha; cases ha
    | dct n h => rw [h] at ha; cases ha
  obtain ⟨d1, d2, d3, d4, rfl, k1, k2, k3, k4⟩ := datAll4 k
  simp only [oAll, o1, o2, o3, o4, List.mem_append, List.mem_cons, List.not_mem_nil, or_false, Dv.tup.injEq, List.cons.injEq, reduceCtorEq, and_false, false_or, and_true, false_and, or_false] at hd
  rcases hd with ⟨rfl, rfl, rfl, rfl⟩ | ⟨rfl, rfl, rfl, rfl⟩ | ⟨rfl, rfl, rfl, rfl⟩ | ⟨rfl, rfl, rfl, rfl⟩
  · obtain ⟨yq, rfl, hy⟩ := fx_nil k3
    obtain ⟨zq, rfl, hz⟩ := fx_end k4
    refine .inr ⟨yq, zq, rfl, rfl, hy, hz, .inr ?_⟩
    cases k2 with
    | tup n2 h2 j => cases j with
      | cons j1 j => cases j; cases j1; exact ⟨_, rfl, h2⟩
  · cases k3
    exact .inl ⟨_, rfl⟩
  · exfalso
    have : ∀ x : Str, Dat H0 H (.str x) (.str "end") → x = "end" := fun x h => by cases h; rfl
    exact absurd (this _ k1) (by decide +kernel)
  · obtain ⟨yq, rfl, hy⟩ := fx_nil k3
    obtain ⟨zq, rfl, hz⟩ := fx_end k4
    refine .inr ⟨yq, zq, rfl, rfl, hy, hz, .inl ?_⟩
    cases k2
    rfl
def Okd (d : PyData) (dep n : Nat) : Prop := d.showable = true ∧ d.depth ≤ dep ∧ d.shown.length ≤ n
theorem okdAll : ∀ d ∈ oAll, Okd (dvD d) 2 200 := by
  have w : (oAll.all fun d => (dvD d).showable && decide ((dvD d).depth ≤ 2) && decide ((dvD d).shown.length ≤ 200)) = true := by decide +kernel
  intro d hd
  have := List.all_eq_true.mp w d hd
  simp only [Bool.and_eq_true, decide_eq_true_eq] at this
  exact ⟨this.1.1, this.1.2, this.2⟩
def spLOdd (K : PySem.W.Frag) : Sp := fun vs H Q _ => ∃ (st l : Addr) (c : Nat), vs = [.ref st] ∧ Strm H st l c ∧ c ≤ 900000 ∧
  ∀ (x : V) (d : PyData) (H' : Hp), BadT K st l H' x d → FX st l H' x → Okd d 2 200 → But st l H H' → Strm H' st l (c + 1) → Q x H'
section
variable {P : Program} {w : World} {K : PySem.W.Frag} {mg : Str → Option Value} {base : Heap} {fP : Addr} {fdP : FuncData}
theorem scLOdd : FnScope ["_law_stream", "_law_odd"] ["_law_stream"] (defScope sLOdd) := ⟨rfl, rfl, rfl, by decide +kernel, rfl, by decide +kernel, by decide +kernel⟩
theorem ok_lodd {f : Addr} {fd : FuncData} (F : Fun K "_law_odd_tree" "_law_odd_tree" sLOdd f fd) (T : TB mg) (aP : At K mg "_law_pick" fP fdP ["_law_stream", "_law_things"]) (GP : FnOk P w K mg base CX0 2 fP fdP ["_law_stream", "_law_things"] spPick) :
    FnOk P w K mg base CX0 3 f fd ["_law_stream"] (spLOdd K) := by
  refine F.ok scLOdd (fun vs H Q E h => ?_) (fun cdv A outer s H vs Q E hr h => ?_)
  · obtain ⟨st, l, c, rfl, _⟩ := h
    rfl
  · obtain ⟨st, l, c, rfl, S, hc, k⟩ := h
    refine ⟨_, pss_cons (ps_set (i := 1) scLOdd.nd rfl (Or.inl rfl) (DV.de_lst (DV.da_cons DV.de_non (DV.da_cons DV.de_int (DV.da_cons DV.de_str (DV.da_cons (DV.de_tup DV.da_nil) (DV.da_cons (DV.de_tup (DV.da_cons DV.de_str DV.da_nil)) (DV.da_cons (DV.de_tup (DV.da_cons DV.de_str (DV.da_cons DV.de_non DV.da_nil))) (DV.da_cons (DV.de_tup (DV.da_cons DV.de_str (DV.da_cons DV.de_str (DV.da_cons DV.de_str DV.da_nil)))) (DV.da_cons (DV.de_tup (DV.da_cons DV.de_str (DV.da_cons DV.de_str DV.da_nil))) (DV.da_cons DV.de_dct (DV.da_cons (DV.de_tup (DV.da_cons DV.de_str (DV.da_cons DV.de_int DV.da_nil))) DV.da_nil))))))))))))
            (pss_cons (ps_expr (pe_bm PySem.F.plainAttrs_list PySem.F.slot_list_append PySem.F.type_list_append mt_append (pv 1) (pa_cons (DV.de_lst (DV.da_cons (DV.de_lst (DV.da_cons DV.de_str (DV.da_cons DV.de_str DV.da_nil))) DV.da_nil)) pa_nil)))
            (pss_cons (ps_expr (pe_bm PySem.F.plainAttrs_list PySem.F.slot_list_extend PySem.F.type_list_extend mt_extend (pv 1) (pa_cons (DV.de_lst (DV.da_cons (DV.de_tup (DV.da_cons DV.de_str (DV.da_cons (DV.de_tup (DV.da_cons DV.de_str DV.da_nil)) (DV.da_cons (DV.de_tup DV.da_nil) DV.da_nil)))) (DV.da_cons (DV.de_tup (DV.da_cons DV.de_str (DV.da_cons (DV.de_tup (DV.da_cons DV.de_str DV.da_nil)) (DV.da_cons (DV.de_tup DV.da_nil) (DV.da_cons (DV.de_tup (DV.da_cons DV.de_str (DV.da_cons DV.de_str DV.da_nil))) (DV.da_cons DV.de_int DV.da_nil)))))) (DV.da_cons (DV.de_tup (DV.da_cons DV.de_str (DV.da_cons (DV.de_tup (DV.da_cons DV.de_str DV.da_nil)) (DV.da_cons (DV.de_tup DV.da_nil) (DV.da_cons (DV.de_tup (DV.da_cons DV.de_str (DV.da_cons DV.de_str DV.da_nil))) DV.da_nil))))) DV.da_nil)))) pa_nil)))
            (pss_cons (ps_expr (pe_bm PySem.F.plainAttrs_list PySem.F.slot_list_extend PySem.F.type_list_extend mt_extend (pv 1) (pa_cons (DV.de_lst (DV.da_cons (DV.de_tup (DV.da_cons DV.de_str (DV.da_cons (DV.de_tup (DV.da_cons DV.de_str DV.da_nil)) (DV.da_cons DV.de_int (DV.da_cons (DV.de_tup (DV.da_cons DV.de_str (DV.da_cons DV.de_str DV.da_nil))) DV.da_nil))))) (DV.da_cons (DV.de_tup (DV.da_cons DV.de_str (DV.da_cons DV.de_str (DV.da_cons (DV.de_tup DV.da_nil) (DV.da_cons (DV.de_tup (DV.da_cons DV.de_str (DV.da_cons DV.de_str DV.da_nil))) DV.da_nil))))) (DV.da_cons (DV.de_tup (DV.da_cons DV.de_str (DV.da_cons DV.de_non (DV.da_cons (DV.de_tup DV.da_nil) (DV.da_cons (DV.de_tup (DV.da_cons DV.de_str (DV.da_cons DV.de_str DV.da_nil))) DV.da_nil))))) DV.da_nil)))) pa_nil)))
            (pss_one (ps_ret (pe_call GP (hr.mono (by decide)) rfl aP.m aP.k aP.b .nil pass0 (pa_cons (pv 0) (pa_cons (pv 1) pa_nil)))))))), ?_⟩
    refine ⟨by (repeat' first | exact trivial | refine ⟨?_, ?_⟩), fun v1 H1 s1 at1 => ?_⟩
    have at1 : Dat H H1 v1 (.lst o1) := at1
    cases at1 with
    | @lst q xs1 _ q0 hq1 k1 =>
    have nq := S.ne_new q0
    have S1 := S.up s1
    have xl1 : xs1.length = 10 := k1.length
    obtain ⟨Hb, eb⟩ : ∃ Hb : Hp, Hb = upd H q (.lst []) := ⟨_, rfl⟩
    have qb : Hb q ≠ none := by rw [eb, upd_same]; intro z; cases z
    have k1 : DatAll Hb H1 xs1 o1 := DatAll.rebaseL (fun a' o n e nl => by
      rw [eb, upd_ne fun z => by rw [z, hq1] at e; exact nl _ (Option.some.inj e).symm]
      exact n) rfl k1
    have f1 : ∀ a', H1 a' = none → Hb a' = none := fun a' n => by
      rw [eb, upd_ne fun z => by rw [z, hq1] at n; cases n]
      exact s1.free n
    refine ⟨_, rfl, .inl ⟨rfl, _, SqL.of hq1⟩, by (repeat' first | exact trivial | refine ⟨?_, ?_⟩), fun w2 G2 t2 at2 => ?_⟩
    have at2 : Dat H1 G2 w2 o2 := at2
    obtain ⟨hq2', k2, f2⟩ := one_in f1 hq1 t2 k1 qb at2
    refine ⟨q, xs1, w2, rfl, rfl, hq2', by rw [xl1]; show 10 < sizeLine; decide, ?_⟩
    have s2 : Same H (upd G2 q (.lst (xs1 ++ [w2]))) := same_ch (s1.trans t2) q0
    have S2 : Strm (upd G2 q (.lst (xs1 ++ [w2]))) st l c := (S1.up t2).put nq
    have hq2 := upd_same (H := G2) (a := q) (o := .lst (xs1 ++ [w2]))
    have xl2 : (xs1 ++ [w2]).length = 11 := by rw [List.length_append, xl1]; rfl
    generalize upd G2 q (.lst (xs1 ++ [w2])) = H2 at k2 f2 s2 S2 hq2 ⊢
    generalize xs1 ++ [w2] = xs2 at k2 hq2 xl2 ⊢
    refine ⟨_, rfl, .inl ⟨rfl, _, SqL.of hq2⟩, by (repeat' first | exact trivial | refine ⟨?_, ?_⟩), fun w3 G3 t3 at3 => ?_⟩
    have at3 : Dat H2 G3 w3 (.lst o3) := at3
    obtain ⟨g3, ys3, rfl, hq3', hg3, yl3, k3, f3⟩ := part_in f2 hq2 t3 k2 qb at3
    refine ⟨q, g3, xs2, ys3, rfl, rfl, hq3', hg3, by rw [xl2, yl3]; show 14 ≤ sizeLine; decide, ?_⟩
    have s3 : Same H (upd G3 q (.lst (xs2 ++ ys3))) := same_ch (s2.trans t3) q0
    have S3 : Strm (upd G3 q (.lst (xs2 ++ ys3))) st l c := (S2.up t3).put nq
    have hq3 := upd_same (H := G3) (a := q) (o := .lst (xs2 ++ ys3))
    have xl3 : (xs2 ++ ys3).length = 14 := by rw [List.length_append, xl2, yl3]; rfl
    generalize upd G3 q (.lst (xs2 ++ ys3)) = H3 at k3 f3 s3 S3 hq3 ⊢
    generalize xs2 ++ ys3 = xs3 at k3 hq3 xl3 ⊢
    refine ⟨_, rfl, .inl ⟨rfl, _, SqL.of hq3⟩, by (repeat' first | exact trivial | refine ⟨?_, ?_⟩), fun w4 G4 t4 at4 => ?_⟩
    have at4 : Dat H3 G4 w4 (.lst o4) := at4
    obtain ⟨g4, ys4, rfl, hq4', hg4, yl4, k4, f4⟩ := part_in f3 hq3 t4 k3 qb at4
    refine ⟨q, g4, xs3, ys4, rfl, rfl, hq4', hg4, by rw [xl3, yl4]; show 17 ≤ sizeLine; decide, ?_⟩
    have s4 : Same H (upd G4 q (.lst (xs3 ++ ys4))) := same_ch (s3.trans t4) q0
    have S4 : Strm (upd G4 q (.lst (xs3 ++ ys4))) st l c := (S3.up t4).put nq
    have hq4 := upd_same (H := G4) (a := q) (o := .lst (xs3 ++ ys4))
    have xl4 : (xs3 ++ ys4).length = 17 := by rw [List.length_append, xl3, yl4]; rfl
    generalize upd G4 q (.lst (xs3 ++ ys4)) = H4 at k4 f4 s4 S4 hq4 ⊢
    generalize xs3 ++ ys4 = xs4 at k4 hq4 xl4 ⊢
    refine ⟨_, rfl, _, rfl, .inl ⟨st, l, c, q, xs4, rfl, S4, by omega, hq4, nq.1, nq.2, by rw [xl4]; decide, by rw [xl4]; decide, fun i x H' hx B S' => ?_⟩⟩
    have k4 : DatAll Hb H4 xs4 oAll := k4
    obtain ⟨d, hd, hat⟩ := k4.get i x hx
    have md := List.mem_of_getElem? hd
    have old : ∀ a', Hb a' = none → a' ≠ st ∧ a' ≠ l := fun a' n => by
      have nH : H a' = none := by
        by_cases z : a' = q
        · rw [z] at n
          exact absurd n qb
        · rw [eb, upd_ne z] at n
          exact n
      exact S.ne_new nH
    have later : ∀ H'', But st l H' H'' → Dat Hb H'' x d := fun H'' b => hat.up fun a' o n e _ => (B.trans b) _ _ e (old a' n).1 (old a' n).2
    exact k x (dvD d) H' (fun H'' b => ⟨badAll d md x (later H'' b), (later H'' b).dq⟩) (fun H'' b => fxAll d md x (later H'' b)) (okdAll d md) ((But.same s4).trans B) S'
end
end T6

set_option maxHeartbeats 3900000
namespace T6
open PySem PySem.Spec PyProof.Rows L2 TL RP
open C8 (pss_cut tCut pe_gc)
open CB XW LE LR FI
abbrev sLSpo : Stmt := top 44
mutual
def otD : OT → PyData
  | .fin z => .tuple [.str "end", .str z]
  | .bad d => d
  | .ask k cs o => .tuple [.str "ask", lkD k, .tuple (osD cs), otD o]
def osD : Os → List PyData
  | [] => []
  | .odd d :: r => d :: osD r
  | .ok a t :: r => .tuple [anD a, otD t] :: osD r
  | .ans d t :: r => .tuple [d, otD t] :: osD r
end
mutual
/-- the longest row of cases -/
def wdO : OT → Nat
  | .fin _ => 0
  | .bad _ => 0
  | .ask _ cs o => max cs.length (max (wdS cs) (wdO o))
def wdS : Os → Nat
  | [] => 0
  | .odd _ :: r => wdS r
  | .ok _ t :: r => max (wdO t) (wdS r)
  | .ans _ t :: r => max (wdO t) (wdS r)
end
def wdCs : Cse OT → Nat
  | .odd _ => 0
  | .ok _ t => wdO t
  | .ans _ t => wdO t
mutual
theorem ot_dq {K : PySem.W.Frag} {st l : Addr} {H : Hp} : ∀ {v : V} {t : OT}, OtAt K st l H v t → Dq K H v (otD t)
  | _, _, .fin r => by
    unfold otD
    exact .tup r (.cons (.str _) (.cons (.str _) .nil))
  | _, _, .bad b => by
    unfold otD
    exact (b H (But.refl)).2
  | _, _, .ask r rk rc c t => by
    unfold otD
    exact .tup r (.cons (.str _) (.cons (lk_dqt rk) (.cons (.tup rc (os_dq c)) (.cons (ot_dq t) .nil))))
theorem os_dq {K : PySem.W.Frag} {st l : Addr} {H : Hp} : ∀ {v : List V} {t : Os}, OsAt K st l H v t → DqAll K H v (osD t)
  | _, _, .nil => by unfold osD; exact .nil
  | _, _, .odd b c => by
    unfold osD
    exact .cons (b H (But.refl)).2 (os_dq c)
  | _, _, .ok r ha ht c => by
    unfold osD
    exact .cons (.tup r (.cons (an_dqt ha) (.cons (ot_dq ht) .nil))) (os_dq c)
  | _, _, .ans r b ht c => by
    unfold osD
    exact .cons (.tup r (.cons (b H But.refl).2 (.cons (ot_dq ht) .nil))) (os_dq c)
end
def cD : Cse OT → PyData
  | .odd d => d
  | .ok a t => .tuple [anD a, otD t]
  | .ans d t => .tuple [d, otD t]
theorem osD_map : ∀ cs : Os, osD cs = cs.map cD
  | [] => by unfold osD; rfl
  | .odd d :: r => by unfold osD; rw [osD_map r]; rfl
  | .ok a t :: r => by unfold osD; rw [osD_map r]; rfl
  | .ans d t :: r => by unfold osD; rw [osD_map r]; rfl
def szD (d : PyData) : Nat := d.shown.length
def szS (cs : Os) : Nat := (cs.map fun c => szD (cD c) + 2).sum
theorem piled_all : ∀ ds : List PyData, piled (PyData.shownAll ds) = (ds.map fun d => szD d + 2).sum
  | [] => by simp only [PyData.shownAll]; rfl
  | d :: r => by
    simp only [PyData.shownAll]
    rw [piled_cons, piled_all r]
    rfl
theorem tup_sz (ds : List PyData) : (ds.map fun d => szD d + 2).sum ≤ szD (.tuple ds) ∧ szD (.tuple ds) ≤ (ds.map fun d => szD d + 2).sum + 2 := by
  rw [← piled_all]
  unfold szD
  simp only [PyData.shown]
  unfold tupleText
  rw [strLen_append, strLen_append]
  have e1 : ((("(" : String) : Str)).length = 1 := rfl
  rw [e1]
  by_cases e : PyData.shownAll ds = []
  · rw [e]
    have e4 : ((Str.ofString ", ").join ([] : List Str)).length = 0 := by decide +kernel
    have e5 : piled [] = 0 := rfl
    have e6 : (((if (([] : List Str)).length == 1 then ",)" else ")" : String) : Str)).length = 1 := rfl
    rw [e4, e5, e6]
    omega
  · have j := join_length_add (PyData.shownAll ds) e
    have e3 : 1 ≤ (((if (PyData.shownAll ds).length == 1 then ",)" else ")" : String) : Str)).length ∧ (((if (PyData.shownAll ds).length == 1 then ",)" else ")" : String) : Str)).length ≤ 2 := by
      by_cases q : ((PyData.shownAll ds).length == 1) = true
      · rw [if_pos q]
        decide
      · rw [if_neg q]
        decide
    omega
theorem ask_sz (k : Lk) (cs : Os) (o : OT) : ∃ x y, x ≤ 2 ∧ y ≤ 2 ∧ szD (otD (.ask k cs o)) = 7 + (szD (lkD k) + 2) + (szS cs + x + 2) + (szD (otD o) + 2) + y := by
  obtain ⟨h1, h2⟩ := tup_sz (osD cs)
  obtain ⟨g1, g2⟩ := tup_sz [.str "ask", lkD k, .tuple (osD cs), otD o]
  have e : ((osD cs).map fun d => szD d + 2).sum = szS cs := by rw [osD_map, List.map_map]; rfl
  rw [e] at h1 h2
  have ea : szD (.str "ask") = 5 := by decide +kernel
  simp only [List.map_cons, List.map_nil, List.sum_cons, List.sum_nil, ea] at g1 g2
  have eo : otD (.ask k cs o) = .tuple [.str "ask", lkD k, .tuple (osD cs), otD o] := by
    conv => lhs; unfold otD
  rw [eo]
  exact ⟨szD (.tuple (osD cs)) - szS cs, szD (.tuple [.str "ask", lkD k, .tuple (osD cs), otD o]) - (7 + (szD (lkD k) + 2) + (szD (.tuple (osD cs)) + 2) + (szD (otD o) + 2)), by omega, by omega, by omega⟩
theorem two_sz (d e : PyData) : ∃ y, y ≤ 2 ∧ szD (.tuple [d, e]) = (szD d + 2) + (szD e + 2) + y := by
  obtain ⟨g1, g2⟩ := tup_sz [d, e]
  simp only [List.map_cons, List.map_nil, List.sum_cons, List.sum_nil] at g1 g2
  exact ⟨szD (.tuple [d, e]) - ((szD d + 2) + (szD e + 2)), by omega, by omega⟩
theorem okc_sz (a : An) (t : OT) : ∃ y, y ≤ 2 ∧ szD (cD (.ok a t)) = (szD (anD a) + 2) + (szD (otD t) + 2) + y := two_sz _ _
def Grd (d e : PyData) : Prop := (d.showable = true → e.showable = true) ∧ e.depth ≤ d.depth + 2 ∧ szD e ≤ 2 * szD d + 1000
def Grw (t t' : OT) : Prop := Grd (otD t) (otD t')
theorem grw_odd {t : OT} {d : PyData} (h : Okd d 2 200) : Grw t (.bad d) := by
  unfold Grw
  rw [show otD (.bad d) = d by unfold otD; rfl]
  have : szD d ≤ 200 := h.2.2
  have := h.2.1
  exact ⟨fun _ => h.1, by omega, by omega⟩
theorem ask_sh (k : Lk) (cs : Os) (o : OT) : (otD (.ask k cs o)).showable = true ↔ (lkD k).showable = true ∧ (∀ c ∈ cs, (cD c).showable = true) ∧ (otD o).showable = true := by
  have all : ∀ cs : Os, PyData.showableAll (osD cs) = true ↔ ∀ c ∈ cs, (cD c).showable = true := by
    intro cs
    rw [osD_map]
    induction cs with
    | nil => simp [PyData.showableAll]
    | cons c r ih => simp [PyData.showableAll, ih]
  rw [show otD (.ask k cs o) = .tuple [.str "ask", lkD k, .tuple (osD cs), otD o] by conv => lhs; unfold otD]
  simp only [PyData.showable, PyData.showableAll, Bool.and_eq_true, all]
  simp [PyData.showable]
theorem dpA (ds : List PyData) (n : Nat) : PyData.depthAll ds ≤ n ↔ ∀ d ∈ ds, d.depth ≤ n := by
  induction ds with
  | nil => simp [PyData.depthAll]
  | cons d r ih =>
    simp only [PyData.depthAll, List.mem_cons, forall_eq_or_imp, ← ih]
    omega
theorem ask_dp (k : Lk) (cs : Os) (o : OT) (n : Nat) : (otD (.ask k cs o)).depth ≤ n + 2 ↔ (lkD k).depth ≤ n + 1 ∧ (∀ c ∈ cs, (cD c).depth ≤ n) ∧ (otD o).depth ≤ n + 1 := by
  rw [show otD (.ask k cs o) = .tuple [.str "ask", lkD k, .tuple (osD cs), otD o] by conv => lhs; unfold otD]
  have h1 := dpA (osD cs) n
  have h2 : (∀ d ∈ osD cs, d.depth ≤ n) ↔ ∀ c ∈ cs, (cD c).depth ≤ n := by
    rw [osD_map]
    simp only [List.mem_map, forall_exists_index, and_imp, forall_apply_eq_imp_iff₂]
  rw [← h2, ← h1]
  simp only [PyData.depth, PyData.depthAll]
  omega
theorem ask_dp2 (k : Lk) (cs : Os) (o : OT) : 2 ≤ (otD (.ask k cs o)).depth := by
  rw [show otD (.ask k cs o) = .tuple [.str "ask", lkD k, .tuple (osD cs), otD o] by conv => lhs; unfold otD]
  simp only [PyData.depth, PyData.depthAll]
  omega
theorem szS_app (a b : Os) : szS (a ++ b) = szS a + szS b := by
  unfold szS
  rw [List.map_append, List.sum_append]
theorem grw_ask {k : Lk} {cs cs' : Os} {o o' : OT} (hs : ((∀ c ∈ cs, (cD c).showable = true) → (otD o).showable = true → (lkD k).showable = true → (∀ c ∈ cs', (cD c).showable = true) ∧ (otD o').showable = true))
    (hd : ∀ n, (lkD k).depth ≤ n + 1 → (∀ c ∈ cs, (cD c).depth ≤ n) → (otD o).depth ≤ n + 1 → (∀ c ∈ cs', (cD c).depth ≤ n + 2) ∧ (otD o').depth ≤ n + 3)
    (hz : szS cs' + szD (otD o') ≤ 2 * (szS cs + szD (otD o)) + szD (lkD k) + 1002) : Grw (.ask k cs o) (.ask k cs' o') := by
  refine ⟨fun h => ?_, ?_, ?_⟩
  · obtain ⟨h1, h2, h3⟩ := (ask_sh k cs o).mp h
    exact (ask_sh _ _ _).mpr ⟨h1, hs h2 h3 h1⟩
  · have h2 := ask_dp2 k cs o
    obtain ⟨n, hn⟩ : ∃ n, (otD (.ask k cs o)).depth = n + 2 := ⟨_, (Nat.sub_add_cancel h2).symm⟩
    obtain ⟨g1, g2, g3⟩ := (ask_dp k cs o n).mp (Nat.le_of_eq hn)
    obtain ⟨f1, f2⟩ := hd n g1 g2 g3
    have := (ask_dp k cs' o' (n + 2)).mpr ⟨by omega, f1, f2⟩
    omega
  · obtain ⟨x, y, x2, y2, e⟩ := ask_sz k cs o
    obtain ⟨x', y', x2', y2', e'⟩ := ask_sz k cs' o'
    show szD (otD (.ask k cs' o')) ≤ 2 * szD (otD (.ask k cs o)) + 1000
    omega
theorem grw_o {k : Lk} {cs : Os} {o o' : OT} (h : Grw o o') : Grw (.ask k cs o) (.ask k cs o') := grw_ask (fun h1 h2 _ => ⟨h1, h.1 h2⟩) (fun n _ h2 h3 => ⟨fun c hc => Nat.le_trans (h2 c hc) (by omega), by have := h.2.1; omega⟩) (by have := h.2.2; omega)
theorem fin_d (z : Str) : otD (.fin z) = .tuple [.str "end", .str z] := by unfold otD; rfl
theorem grw_part {k : Lk} {cs : Os} {o : OT} : Grw (.ask k cs o) (.ask k cs (.ask k [] (.fin "x"))) := by
  have e : otD (.ask k [] (.fin "x")) = .tuple [.str "ask", lkD k, .tuple [], .tuple [.str "end", .str "x"]] := by
    conv => lhs; unfold otD
    rw [fin_d]
    rfl
  refine grw_ask (fun h1 h2 h3 => ⟨h1, ?_⟩) (fun n h1 h2 h3 => ⟨fun c hc => Nat.le_trans (h2 c hc) (by omega), ?_⟩) ?_
  · refine (ask_sh _ _ _).mpr ⟨h3, (fun c hc => by cases hc), ?_⟩
    rw [fin_d]
    decide +kernel
  · refine Nat.le_trans ((ask_dp _ _ _ n).mpr ⟨h1, (fun c hc => by cases hc), ?_⟩) (by omega)
    rw [fin_d]
    have : PyData.depth (.tuple [.str "end", .str "x"]) = 1 := by decide +kernel
    omega
  · obtain ⟨x, y, x2, y2, h⟩ := ask_sz k [] (.fin "x")
    have h3 : szD (otD (.fin "x")) = 12 := by rw [fin_d]; decide +kernel
    have h4 : szS [] = 0 := rfl
    omega
theorem grw_more {k : Lk} {cs : Os} {o : OT} {c : Cse OT} (h1 : (∀ c ∈ cs, (cD c).showable = true) → (otD o).showable = true → (cD c).showable = true) (h2 : ∀ n, (∀ c ∈ cs, (cD c).depth ≤ n) → (otD o).depth ≤ n + 1 → (cD c).depth ≤ n + 2) (h3 : szD (cD c) ≤ szS cs + szD (otD o) + 900) : Grw (.ask k cs o) (.ask k (cs ++ [c]) o) := by
  refine grw_ask (fun g1 g2 g3 => ⟨fun x hx => ?_, g2⟩) (fun n g1 g2 g3 => ⟨fun x hx => ?_, by omega⟩) ?_
  · rcases List.mem_append.mp hx with hx | hx
    · exact g1 x hx
    · rw [List.mem_singleton.mp hx]
      exact h1 g1 g2
  · rcases List.mem_append.mp hx with hx | hx
    · exact Nat.le_trans (g2 x hx) (by omega)
    · rw [List.mem_singleton.mp hx]
      exact h2 n g2 g3
  · rw [szS_app]
    have : szS [c] = szD (cD c) + 2 := by unfold szS; simp
    omega
def setC (cs : Os) (i : Nat) (c : Cse OT) : Os := cs.take i ++ [c] ++ cs.drop (i + 1)
theorem setC_mem {cs : Os} {i : Nat} {c x : Cse OT} (h : x ∈ setC cs i c) : x ∈ cs ∨ x = c := by
  unfold setC at h
  rcases List.mem_append.mp h with h | h
  · rcases List.mem_append.mp h with h | h
    · exact .inl (List.mem_of_mem_take h)
    · exact .inr (List.mem_singleton.mp h)
  · exact .inl (List.mem_of_mem_drop h)
theorem setC_len {cs : Os} {i : Nat} {c : Cse OT} (h : i < cs.length) : (setC cs i c).length = cs.length := by
  unfold setC
  simp only [List.length_append, List.length_take, List.length_drop, List.length_cons, List.length_nil]
  omega
theorem grw_set {k : Lk} {cs : Os} {o : OT} {i : Nat} {c c' : Cse OT} (e : cs[i]? = some c) (h : Grd (cD c) (cD c')) : Grw (.ask k cs o) (.ask k (setC cs i c') o) := by
  have mem : c ∈ cs := List.mem_of_getElem? e
  obtain ⟨h1, h2, h3⟩ := h
  refine grw_ask (fun g1 g2 g3 => ⟨fun x hx => ?_, g2⟩) (fun n g1 g2 g3 => ⟨fun x hx => ?_, by omega⟩) ?_
  · rcases setC_mem hx with hx | rfl
    · exact g1 x hx
    · exact h1 (g1 c mem)
  · rcases setC_mem hx with hx | rfl
    · exact Nat.le_trans (g2 x hx) (by omega)
    · exact Nat.le_trans h2 (by have := g2 c mem; omega)
  · obtain ⟨lt, e2⟩ := List.getElem?_eq_some_iff.mp e
    have s1 : szS cs = szS (cs.take i) + (szD (cD c) + 2) + szS (cs.drop (i + 1)) := by
      conv => lhs; rw [← List.take_append_drop i cs, List.drop_eq_getElem_cons lt, e2]
      rw [szS_app]
      show _ + szS ([c] ++ cs.drop (i + 1)) = _
      rw [szS_app]
      have : szS [c] = szD (cD c) + 2 := by unfold szS; simp
      omega
    have s2 : szS (setC cs i c') = szS (cs.take i) + (szD (cD c') + 2) + szS (cs.drop (i + 1)) := by
      unfold setC
      rw [szS_app, szS_app]
      have : szS [c'] = szD (cD c') + 2 := by unfold szS; simp
      omega
    omega
theorem sum_mem {c : Cse OT} : ∀ {cs : Os}, c ∈ cs → szD (cD c) + 2 ≤ szS cs
  | x :: r, h => by
    have e : szS (x :: r) = szD (cD x) + 2 + szS r := by unfold szS; simp
    rcases List.mem_cons.mp h with rfl | h
    · omega
    · have := sum_mem h
      omega
theorem grd_two {d : PyData} {t t' : OT} (h : Grw t t') : Grd (.tuple [d, otD t]) (.tuple [d, otD t']) := by
  obtain ⟨h1, h2, h3⟩ := h
  refine ⟨?_, ?_, ?_⟩
  · simp only [PyData.showable, PyData.showableAll, Bool.and_eq_true]
    exact fun h => ⟨h.1, h1 h.2.1, trivial⟩
  · simp only [PyData.depth, PyData.depthAll]
    omega
  · obtain ⟨y, y2, e⟩ := two_sz d (otD t)
    obtain ⟨y', y2', e'⟩ := two_sz d (otD t')
    omega
theorem grd_ok {a : An} {t t' : OT} (h : Grw t t') : Grd (cD (.ok a t)) (cD (.ok a t')) := grd_two h
theorem grd_an {d : PyData} {t t' : OT} (h : Grw t t') : Grd (cD (.ans d t)) (cD (.ans d t')) := grd_two h
theorem grd_odd {a : An} {t : OT} {d : PyData} (h : d ∈ ([.int 5, .none, .tuple [anD a], .tuple [anD a, otD t, otD t], .tuple []] : List PyData)) : Grd (cD (.ok a t)) d := by
  obtain ⟨y, y2, e⟩ := okc_sz a t
  have dd : (cD (.ok a t)).depth = max (anD a).depth (otD t).depth + 1 := by
    show (PyData.tuple [anD a, otD t]).depth = _
    simp only [PyData.depth, PyData.depthAll]
    omega
  have ss : (cD (.ok a t)).showable = true ↔ (anD a).showable = true ∧ (otD t).showable = true := by
    show (PyData.tuple [anD a, otD t]).showable = true ↔ _
    simp [PyData.showable, PyData.showableAll]
  have x3 : szD (.tuple []) = 2 := by decide +kernel
  have x4 : szD (.int 5) = 1 := by decide +kernel
  have x5 : szD .none = 4 := by decide +kernel
  have tz : ∀ ds : List PyData, szD (.tuple ds) ≤ (ds.map fun d => szD d + 2).sum + 2 := fun ds => (tup_sz ds).2
  simp only [List.mem_cons, List.not_mem_nil, or_false] at h
  unfold Grd
  rw [ss, dd]
  rcases h with rfl | rfl | rfl | rfl | rfl
  · exact ⟨fun _ => by decide +kernel, by have : (PyData.int 5).depth = 0 := by decide +kernel
                                          omega, by omega⟩
  · exact ⟨fun _ => by decide +kernel, by have : (PyData.none).depth = 0 := by decide +kernel
                                          omega, by omega⟩
  · refine ⟨fun h => ?_, ?_, ?_⟩
    · simp [PyData.showable, PyData.showableAll, h.1]
    · simp only [PyData.depth, PyData.depthAll]; omega
    · have := tz [anD a]
      simp only [List.map_cons, List.map_nil, List.sum_cons, List.sum_nil] at this
      omega
  · refine ⟨fun h => ?_, ?_, ?_⟩
    · simp [PyData.showable, PyData.showableAll, h.1, h.2]
    · simp only [PyData.depth, PyData.depthAll]; omega
    · have := tz [anD a, otD t, otD t]
      simp only [List.map_cons, List.map_nil, List.sum_cons, List.sum_nil] at this
      omega
  · exact ⟨fun _ => by decide +kernel, by have : (PyData.tuple []).depth = 1 := by decide +kernel
                                          omega, by omega⟩
theorem grd_ans {a : An} {t : OT} {d : PyData} (h : d ∈ ([.tuple [.str "x/y"], .bool true] : List PyData)) : Grd (cD (.ok a t)) (cD (.ans d t)) := by
  obtain ⟨y, y2, e⟩ := okc_sz a t
  obtain ⟨y', y2', e'⟩ := two_sz d (otD t)
  have q : d.showable = true ∧ d.depth ≤ 1 ∧ szD d ≤ 8 := by
    simp only [List.mem_cons, List.not_mem_nil, or_false] at h
    rcases h with rfl | rfl
    · exact ⟨by decide +kernel, by decide +kernel, by decide +kernel⟩
    · exact ⟨by decide +kernel, by decide +kernel, by decide +kernel⟩
  refine ⟨fun h => ?_, ?_, ?_⟩
  · have h : (PyData.tuple [anD a, otD t]).showable = true := h
    show (PyData.tuple [d, otD t]).showable = true
    simp only [PyData.showable, PyData.showableAll, Bool.and_eq_true] at h ⊢
    exact ⟨q.1, h.2⟩
  · show (PyData.tuple [d, otD t]).depth ≤ (PyData.tuple [anD a, otD t]).depth + 2
    simp only [PyData.depth, PyData.depthAll]
    omega
  · show szD (.tuple [d, otD t]) ≤ _
    omega
section
variable {K : PySem.W.Frag} {st l : Addr} {H : Hp}
theorem OsAt.app : ∀ {xs ys : List V} {cs ds : Os}, OsAt K st l H xs cs → OsAt K st l H ys ds → OsAt K st l H (xs ++ ys) (cs ++ ds)
  | _, _, _, _, .nil, g => g
  | _, _, _, _, .odd b c, g => .odd b (c.app g)
  | _, _, _, _, .ok r ha ht c, g => .ok r ha ht (c.app g)
  | _, _, _, _, .ans r b ht c, g => .ans r b ht (c.app g)
theorem OsAt.len {xs : List V} {cs : Os} (h : OsAt K st l H xs cs) : xs.length = cs.length := (osAt_iff.mp h).1
theorem OsAt.take {xs : List V} {cs : Os} (h : OsAt K st l H xs cs) (i : Nat) : OsAt K st l H (xs.take i) (cs.take i) := by
  obtain ⟨h1, h2⟩ := osAt_iff.mp h
  refine osAt_iff.mpr ⟨by rw [List.length_take, List.length_take, h1], fun j x c a b => ?_⟩
  rw [List.getElem?_take] at a b
  by_cases q : j < i
  · rw [if_pos q] at a b
    exact h2 j x c a b
  · rw [if_neg q] at a
    cases a
theorem OsAt.drop {xs : List V} {cs : Os} (h : OsAt K st l H xs cs) (i : Nat) : OsAt K st l H (xs.drop i) (cs.drop i) := by
  obtain ⟨h1, h2⟩ := osAt_iff.mp h
  refine osAt_iff.mpr ⟨by rw [List.length_drop, List.length_drop, h1], fun j x c a b => ?_⟩
  rw [List.getElem?_drop] at a b
  exact h2 (i + j) x c a b
theorem OsAt.one {x : V} {c : Cse OT} (h : CsO K st l H x c) : OsAt K st l H [x] [c] := by
  cases c with
  | odd d => exact .odd h .nil
  | ok a t =>
    obtain ⟨p, av, tv, rfl, h1, h2, h3⟩ := h
    exact .ok h1 h2 h3 .nil
  | ans d t =>
    obtain ⟨p, av, tv, rfl, h1, h2, h3⟩ := h
    exact .ans h1 h2 h3 .nil
theorem OsAt.set {xs : List V} {cs : Os} (h : OsAt K st l H xs cs) {i : Nat} {x : V} {c : Cse OT} (g : CsO K st l H x c) : OsAt K st l H (xs.take i ++ [x] ++ xs.drop (i + 1)) (setC cs i c) := ((h.take i).app (.one g)).app (h.drop (i + 1))
end
theorem wdS_cons (c : Cse OT) (r : Os) : wdS (c :: r) = max (wdCs c) (wdS r) := by
  cases c <;> (conv => lhs; unfold wdS) <;> (try rfl)
theorem wdS_mem : ∀ {cs : Os} {c : Cse OT}, c ∈ cs → wdCs c ≤ wdS cs
  | x :: r, c, h => by
    rw [wdS_cons]
    rcases List.mem_cons.mp h with rfl | h
    · exact Nat.le_max_left _ _
    · exact Nat.le_trans (wdS_mem h) (Nat.le_max_right _ _)
theorem wdS_le : ∀ {cs : Os} {n : Nat}, (∀ c ∈ cs, wdCs c ≤ n) → wdS cs ≤ n
  | [], _, _ => Nat.zero_le _
  | x :: r, n, h => by
    rw [wdS_cons]
    exact Nat.max_le.mpr ⟨h x List.mem_cons_self, wdS_le fun c m => h c (List.mem_cons_of_mem _ m)⟩
theorem dep_ask (k : Lk) (cs : Os) (o : OT) : depO (.ask k cs o) = max (depS cs) (depO o) + 1 := by simp [depO]
theorem wd_ask (k : Lk) (cs : Os) (o : OT) : wdO (.ask k cs o) = max cs.length (max (wdS cs) (wdO o)) := by simp [wdO]
theorem fw_none {ab : List Lk} {k : Lk} {cs : Os} {o : OT} (e : fw ab (.ask k cs o) = none) : k ∉ ab ∧ fwC (ab ++ [k]) [] 0 cs = none ∧ fw (ab ++ [k]) o = none := by
  by_cases h : k ∈ ab
  · rw [fw_rep h] at e
    cases e
  cases ec : fwC (ab ++ [k]) [] 0 cs with
  | some p =>
    rw [fw_cs h ec] at e
    cases e
  | none =>
    rw [fw_o h ec] at e
    refine ⟨h, rfl, ?_⟩
    cases q : fw (ab ++ [k]) o with
    | none => rfl
    | some p => rw [q] at e; cases e
theorem fwC_none {ab : List Lk} : ∀ {cs : Os} {seen : List An} {i : Nat}, fwC ab seen i cs = none → ∀ c ∈ cs, ∃ a t, c = .ok a t ∧ fw ab t = none
  | [], _, _, _, c, hc => by cases hc
  | .odd d :: r, _, _, e, _, _ => by rw [fwC_odd] at e; cases e
  | .ans d t :: r, _, _, e, _, _ => by rw [fwC_ans] at e; cases e
  | .ok a t :: r, seen, i, e, c, hc => by
    by_cases h : a ∈ seen
    · rw [fwC_rep h] at e
      cases e
    cases et : fw ab t with
    | some p =>
      rw [fwC_in h et] at e
      cases e
    | none =>
      rw [fwC_next h et] at e
      rcases List.mem_cons.mp hc with rfl | hc
      · exact ⟨a, t, rfl, et⟩
      · exact fwC_none e c hc
end T6

set_option maxHeartbeats 3900000
namespace ENT
open PySem PySem.Spec PyProof.Rows L2
def rEqNilT (K : PySem.W.Frag) : R2 := fun x y H Q => ∃ a b xs, x = .ref a ∧ y = .ref b ∧ SqT K H a xs ∧ SqT K H b [] ∧ Q (.bl xs.isEmpty) H
theorem op_eqNilT {X : Cx} (hu : X.A.units < cLine) : OpR X (compareOp .Eq) (rEqNilT X.K) := by
  intro pins s σ H x y v u Q I rx ry h
  obtain ⟨a, b, xs, rfl, rfl, ha, hb, q⟩ := h
  cases rx
  cases ry
  obtain ⟨its, rv, pl, hz⟩ := I.tuple ha
  obtain ⟨its2, rv2, pl2, hz2⟩ := I.tuple hb
  cases rv2
  have r := SeqAt.RcAt.tuples (s := s) (A := X.A) (e := fun _ => true) pl pl2 hu (fun j h1 h2 => absurd h2 (by simp))
  cases xs with
  | nil =>
    cases rv
    exact r X.prog X.w X.xe _ ⟨.bl _, H, I, rfl, q⟩
  | cons z zs =>
    cases rv with
    | cons rz rr => exact r X.prog X.w X.xe _ ⟨.bl _, H, I, rfl, q⟩
end ENT

set_option maxHeartbeats 3900000
namespace T6
open PySem PySem.Spec PyProof.Rows L2 TL RP
open C8 (pss_cut tCut pe_gc)
open CB XW LE LR FI
def spSpo (K : PySem.W.Frag) (st l : Addr) (n : Nat) : Sp := fun vs H Q _ => ∃ (plv v : V) (t : OT) (ab : List Lk) (c : Nat), vs = [.ref st, plv, v] ∧ OtAt K st l H v t ∧ fw ab t = none ∧ OkO t ∧ wdO t ≤ 18 ∧ depO t < n ∧ Strm H st l c ∧ c + 5 * n ≤ 800000 ∧
  ∀ v' t' H' c', OtAt K st l H' v' t' → (∀ d, t' = .bad d → FX st l H' v') → OkO t' → wdO t' ≤ wdO t + 1 → depO t' ≤ depO t + 1 → Grw t t' → But st l H H' → Strm H' st l c' → c' ≤ c + 5 * n → Q v' H'
theorem ifW {P R : Hp → Prop} {G : Prop} (main : (∀ H7, R H7 → P H7) → G) (rest : ∀ H7, R H7 → P H7) : G := main rest
theorem ask_ok {k : Lk} {cs cs' : Os} {o o' : OT} (ok : OkO (.ask k cs o)) (wd : wdO (.ask k cs o) ≤ 18) (h : ∀ c ∈ cs', c ∈ cs ∨ OkCs k c ∧ wdCs c ≤ wdO (.ask k cs o) + 1 ∧ depCs c ≤ depO (.ask k cs o)) (hl : cs'.length ≤ cs.length + 1)
    (ho : OkO o' ∧ wdO o' ≤ wdO (.ask k cs o) + 1 ∧ depO o' ≤ depO (.ask k cs o)) : OkO (.ask k cs' o') ∧ wdO (.ask k cs' o') ≤ wdO (.ask k cs o) + 1 ∧ depO (.ask k cs' o') ≤ depO (.ask k cs o) + 1 := by
  have hw := wd_ask k cs o
  have hd := dep_ask k cs o
  obtain ⟨lok, csl, okc, oko⟩ := ok
  have all : ∀ c ∈ cs', OkCs k c ∧ wdCs c ≤ wdO (.ask k cs o) + 1 ∧ depCs c ≤ depO (.ask k cs o) := fun c m => by
    rcases h _ m with m | g
    · have := okS_mem.mp okc _ m
      have h1 := wdS_mem m
      have h2 := depS_mem m
      exact ⟨this, by omega, by omega⟩
    · exact g
  have c1 := wdS_le (cs := cs') (n := wdO (.ask k cs o) + 1) fun c m => (all c m).2.1
  have c2 := depS_le (cs := cs') (n := depO (.ask k cs o)) fun c m => (all c m).2.2
  refine ⟨⟨lok, by omega, okS_mem.mpr fun c hc => (all c hc).1, ho.1⟩, ?_, ?_⟩
  · rw [wd_ask k cs' o']
    have := ho.2.1
    omega
  · rw [dep_ask k cs' o']
    have := ho.2.2
    omega
theorem BadA.tup {H H' : Hp} {v : V} (h : BadA H v) (s : TupS H H') : BadA H' v := by
  cases h with
  | bl b => exact .bl b
  | int i => exact .int i
  | xy h => exact .xy (s _ _ h)
theorem CsO.up {K : PySem.W.Frag} {st l : Addr} {H H' : Hp} {x : V} {c : Cse OT} (h : CsO K st l H x c) (s : Same H H') : CsO K st l H' x c := by
  cases c with
  | odd d => exact BadS.but h (But.same s)
  | ok a t =>
    obtain ⟨p, av, tv, e, h1, h2, h3⟩ := h
    exact ⟨p, av, tv, e, s _ _ h1, h2.up s, h3.up s⟩
  | ans d t =>
    obtain ⟨p, av, tv, e, h1, h2, h3⟩ := h
    exact ⟨p, av, tv, e, s _ _ h1, h2.but (But.same s), h3.up s⟩
section
variable {P : Program} {w : World} {K : PySem.W.Frag} {mg : Str → Option Value} {base : Heap} {st l : Addr}
theorem scLSpo : FnScope ["_law_stream", "_law_pool_here", "_law_tree_here", "_law_way", "_law_part", "_law_cases", "_law_at", "_law_answer", "_law_case"] ["_law_stream", "_law_pool_here", "_law_tree_here"] (defScope sLSpo) := ⟨rfl, rfl, rfl, by decide +kernel, rfl, by decide +kernel, by decide +kernel⟩
theorem ok_lspo {f fD fO fP : Addr} {fd fdD fdO fdP : FuncData} (F : Fun K "_law_spoiled" "_law_spoiled" sLSpo f fd) (T : TB mg) (aD : aD' K mg fD fdD) (GD : FnOk P w K mg base CX0 1 fD fdD ["_law_stream", "_law_many"] spDraw) (aP : At K mg "_law_pick" fP fdP ["_law_stream", "_law_things"]) (GP : FnOk P w K mg base CX0 2 fP fdP ["_law_stream", "_law_things"] spPick)
    (aLOdd : At K mg "_law_odd_tree" fO fdO ["_law_stream"]) (GLOdd : FnOk P w K mg base CX0 3 fO fdO ["_law_stream"] (spLOdd K))
    (aLSpo : At K mg "_law_spoiled" f fd ["_law_stream", "_law_pool_here", "_law_tree_here"]) : ∀ n, FnOk P w K mg base CX0 (4 + n) f fd ["_law_stream", "_law_pool_here", "_law_tree_here"] (spSpo K st l n) := by
  intro n
  induction n with
  | zero =>
    refine ⟨fun vs H Q E h => ?_, fun A outer s H args us vs Q E hr he hb hv h => ?_⟩
    · obtain ⟨plv, v, t, ab, c, rfl, _⟩ := h
      rfl
    · obtain ⟨plv, v, t, ab, c, _, _, _, _, _, hd, _⟩ := h
      exact absurd hd (Nat.not_lt_zero _)
  | succ n GLSpo =>
    refine F.ok scLSpo (fun vs H Q E h => ?_) (fun cdv A outer s H vs Q E hr h => ?_)
    · obtain ⟨plv, v, t, ab, c, rfl, _⟩ := h
      rfl
    · obtain ⟨plv, v, t, ab, c, rfl, ht, hf, ok, wd, hd, S, hc, fin⟩ := h
      have hu := hr.units
      have hu0 : (A.deeper (envOfC "_law_spoiled" (defScope sLSpo) s.heap.objs.size f cdv)).units < cLine := by have := hr.un; omega
      have hrN : ∀ m, m ≤ 4 + n → Room m (A.deeper (envOfC "_law_spoiled" (defScope sLSpo) s.heap.objs.size f cdv)) := fun m h => hr.mono h
      refine ⟨_, pss_cons (ps_set (i := 3) scLSpo.nd rfl (Or.inl rfl) (pe_call GD (hrN _ (by omega)) rfl aD.m aD.k aD.b .nil pass0 (pa_cons (pv 0) (pa_cons pe_int pa_nil))))
              (pss_cons (ps_if (PW.pt (pw_or (pt_cmpR op_eq (pe_ix ix_tup (pv 2) pe_int (fun _ _ => rfl)) pe_str (nomark _)) (pw_or1 (pt_cmpR op_eq (pv 3) pe_int (nomark _))))) (pss_one (ps_ret (pe_call GLOdd (hrN _ (by omega)) rfl aLOdd.m aLOdd.k aLOdd.b .nil pass0 (pa_cons (pv 0) pa_nil)))) (pss_nil))
              (pss_cons (ps_if (pt_cmpR op_eq (pv 3) pe_int (nomark _)) (pss_one (ps_ret (pe_tup (pa_cons pe_str (pa_cons (pe_ix ix_tup (pv 2) pe_int (fun _ _ => rfl)) (pa_cons (pe_ix ix_tup (pv 2) pe_int (fun _ _ => rfl)) (pa_cons (pe_call GLSpo (hrN _ (by omega)) rfl aLSpo.m aLSpo.k aLSpo.b .nil pass0 (pa_cons (pv 0) (pa_cons (pv 1) (pa_cons (pe_ix ix_tup (pv 2) pe_int (fun _ _ => rfl)) pa_nil)))) pa_nil))))))) (pss_nil))
              (pss_cons (ps_if (PW.pt (pw_or (pt_cmpR (ENT.op_eqNilT hu0) (pe_ix ix_tup (pv 2) pe_int (fun _ _ => rfl)) (pe_tup pa_nil) (nomark _)) (pw_or1 (pt_cmpR op_eq (pv 3) pe_int (nomark _))))) (pss_cons (ps_set (i := 4) scLSpo.nd rfl (Or.inl rfl) (pe_tup (pa_cons pe_str (pa_cons (pe_ix ix_tup (pv 2) pe_int (fun _ _ => rfl)) (pa_cons (pe_tup pa_nil) (pa_cons (pe_tup (pa_cons pe_str (pa_cons pe_str pa_nil))) pa_nil))))))
              (pss_cons (ps_set (i := 5) scLSpo.nd rfl (Or.inl rfl) (pe_op op_catA (pe_ix ix_tup (pv 2) pe_int (fun _ _ => rfl)) (pe_tup (pa_cons (pe_tup (pa_cons pe_int (pa_cons (pe_tup (pa_cons pe_str (pa_cons pe_str pa_nil))) pa_nil))) pa_nil))))
              (pss_one (ps_ret (pe_call GP (hrN _ (by omega)) rfl aP.m aP.k aP.b .nil pass0 (pa_cons (pv 0) (pa_cons (pe_lst (pa_cons (pe_tup (pa_cons pe_str (pa_cons (pe_ix ix_tup (pv 2) pe_int (fun _ _ => rfl)) (pa_cons (pe_ix ix_tup (pv 2) pe_int (fun _ _ => rfl)) (pa_cons (pv 4) pa_nil))))) (pa_cons (pe_tup (pa_cons pe_str (pa_cons (pe_ix ix_tup (pv 2) pe_int (fun _ _ => rfl)) (pa_cons (pv 5) (pa_cons (pe_ix ix_tup (pv 2) pe_int (fun _ _ => rfl)) pa_nil))))) pa_nil))) pa_nil))))))) (pss_nil))
              (pss_cons (ps_set (i := 6) scLSpo.nd rfl (Or.inl rfl) (pe_call GD (hrN _ (by omega)) rfl aD.m aD.k aD.b .nil pass0 (pa_cons (pv 0) (pa_cons (pe_callB call_len_seq (by rfl) T.len PySem.boot_len (pa_cons (pe_ix ix_tup (pv 2) pe_int (fun _ _ => rfl)) pa_nil)) pa_nil))))
              (pss_cons (ps_asg (pe_ix ix_tup (pe_ix ix_tup (pv 2) pe_int (fun _ _ => rfl)) (pv 6) (fun _ _ => rfl)) (pg_tup rfl (pgs_cons (pg_name (i := 7) scLSpo.nd rfl (Or.inl rfl)) (pgs_cons (pg_name (i := 4) scLSpo.nd rfl (Or.inl rfl)) pgs_nil))))
              (pss_cons (ps_set (i := 8) scLSpo.nd rfl (Or.inl rfl) (pe_tup (pa_cons (pv 7) (pa_cons (pe_call GLSpo (hrN _ (by omega)) rfl aLSpo.m aLSpo.k aLSpo.b .nil pass0 (pa_cons (pv 0) (pa_cons (pv 1) (pa_cons (pv 4) pa_nil)))) pa_nil))))
              (pss_cut (ps_if (pt_cmpR op_eq (pv 3) pe_int (nomark _)) (pss_one (ps_set (i := 8) scLSpo.nd rfl (Or.inl rfl) (pe_call GP (hrN _ (by omega)) rfl aP.m aP.k aP.b .nil pass0 (pa_cons (pv 0) (pa_cons (pe_lst (pa_cons pe_int (pa_cons pe_non (pa_cons (pe_tup (pa_cons (pv 7) pa_nil)) (pa_cons (pe_tup (pa_cons (pe_tup (pa_cons pe_str pa_nil)) (pa_cons (pv 4) pa_nil))) (pa_cons (pe_tup (pa_cons (pv 7) (pa_cons (pv 4) (pa_cons (pv 4) pa_nil)))) (pa_cons (pe_tup (pa_cons pe_bl (pa_cons (pv 4) pa_nil))) (pa_cons (pe_tup pa_nil) pa_nil)))))))) pa_nil))))) (pss_nil))
              (pss_cons (ps_if (pt_cmpR op_eq (pv 3) pe_int (nomark _)) (pss_one (ps_ret (pe_tup (pa_cons pe_str (pa_cons (pe_ix ix_tup (pv 2) pe_int (fun _ _ => rfl)) (pa_cons (pe_op op_catA (pe_ix ix_tup (pv 2) pe_int (fun _ _ => rfl)) (pe_tup (pa_cons (pe_tup (pa_cons (pv 7) (pa_cons (pv 4) pa_nil))) pa_nil))) (pa_cons (pe_ix ix_tup (pv 2) pe_int (fun _ _ => rfl)) pa_nil))))))) (pss_nil))
              (pss_one (ps_ret (pe_tup (pa_cons pe_str (pa_cons (pe_ix ix_tup (pv 2) pe_int (fun _ _ => rfl)) (pa_cons (pe_op op_catA (pe_op op_catA (pe_slice sl_tup (pe_ix ix_tup (pv 2) pe_int (fun _ _ => rfl)) po_none (po_some (pv 6))) (pe_tup (pa_cons (pv 8) pa_nil))) (pe_slice sl_tup (pe_ix ix_tup (pv 2) pe_int (fun _ _ => rfl)) (po_some (pe_op op_add (pv 6) pe_int)) po_none)) (pa_cons (pe_ix ix_tup (pv 2) pe_int (fun _ _ => rfl)) pa_nil))))))))))))))), ?_⟩
      refine ⟨_, rfl, st, l, c, 6, rfl, S, by omega, by decide, by decide, fun d H1 d0 d1 B1 S1 => ?_⟩
      have T1 := tup_but S B1
      cases ht with
      | bad b => rw [fw_bad] at hf; cases hf
      | @fin p z r =>
        have r1 := T1 _ _ r
        exact ⟨_, rfl, p, _, 0, _, rfl, rfl, SqT.of r1, atI_nat (j := 0) rfl, rfl, _, rfl, ifT (decide_eq_true rfl) (iteT ⟨_, rfl, st, l, c + 1, rfl, S1, by omega, fun x dd H3 bt fx okd B3 S3 => fin x (.bad dd) H3 (c + 2) (.bad bt) (fun _ _ => fx) trivial (Nat.zero_le _) (Nat.zero_le _) (grw_odd okd) (B1.trans B3) S3 (by omega)⟩)⟩
      | @ask p kp cp ov xs kk cs o r rk rc ccs g =>
      obtain ⟨nin, hfc, hfo⟩ := fw_none hf
      have ok0 := ok
      obtain ⟨lok, csl, okc, oko⟩ := ok
      have dd := dep_ask kk cs o
      have ww := wd_ask kk cs o
      have xl : xs.length = cs.length := ccs.len
      have okO0 : OkO o ∧ wdO o ≤ wdO (.ask kk cs o) + 1 ∧ depO o ≤ depO (.ask kk cs o) := ⟨oko, by omega, by omega⟩
      have r1 := T1 _ _ r
      refine ⟨_, rfl, p, _, 0, _, rfl, rfl, SqT.of r1, atI_nat (j := 0) rfl, rfl, _, rfl, ifF (decide_eq_false (by intro z; injection z with z; exact absurd z (by decide +kernel))) ⟨_, rfl, rfl, _, rfl, ?_⟩⟩
      by_cases e0 : d = 0
      · exact ifT (decide_eq_true (by rw [e0])) ⟨_, rfl, st, l, c + 1, rfl, S1, by omega, fun x dd H3 bt fx okd B3 S3 => fin x (.bad dd) H3 (c + 2) (.bad bt) (fun _ _ => fx) trivial (Nat.zero_le _) (Nat.zero_le _) (grw_odd okd) (B1.trans B3) S3 (by omega)⟩
      refine ifF (decide_eq_false fun z => e0 (V.int.inj z)) ⟨_, rfl, rfl, _, rfl, ?_⟩
      have rk1 := T1 _ _ rk
      have rc1 := T1 _ _ rc
      have lenL : xs.length + 1 ≤ sizeLine := Nat.le_trans (show xs.length + 1 ≤ 20 by omega) (by decide)
      by_cases e1 : d = 1
      · refine ifT (decide_eq_true (by rw [e1])) ⟨_, rfl, p, _, 1, _, rfl, rfl, SqT.of r1, atI_nat (j := 1) rfl, _, rfl, p, _, 2, _, rfl, rfl, SqT.of r1, atI_nat (j := 2) rfl, _, rfl, _, rfl, _, rfl, p, _, 3, _, rfl, rfl, SqT.of r1, atI_nat (j := 3) rfl, plv, ov, o, _, c + 1, rfl, g.but T1 B1, hfo, oko, by omega, by omega, S1, by omega, fun v' o' H2 c2 ho' fx' oko' wd' dp' gr' B2 S2 hc2 => ⟨by show 4 ≤ sizeLine; decide, fun q hq => ?_⟩⟩
        have T2 := tup_but S1 B2
        have sq := same_mk (o := .tup [.str "ask", .ref kp, .ref cp, v']) hq
        have B3 := (B1.trans B2).trans (But.same sq)
        have T3 := tup_but S B3
        obtain ⟨a1, a2, a3⟩ := ask_ok (cs' := cs) (o' := o') ok0 wd (fun c hc => .inl hc) (Nat.le_succ _) ⟨oko', by omega, by omega⟩
        exact fin (.ref q) (.ask kk cs o') _ c2 (.ask upd_same (T3 _ _ rk) (T3 _ _ rc) (ccs.but T3 B3) (ho'.up sq)) (fun _ z => by cases z) a1 a2 a3 (grw_o gr') B3 (S2.up sq) (by omega)
      refine ifF (decide_eq_false fun z => e1 (V.int.inj z)) ?_
      refine ⟨_, rfl, p, _, 2, _, rfl, rfl, SqT.of r1, atI_nat (j := 2) rfl, by show 0 ≤ sizeLine; decide, fun em hem => ?_⟩
      have se := same_mk (o := .tup []) hem
      have B2 := B1.trans (But.same se)
      have S2 := S1.up se
      refine ⟨cp, em, xs, rfl, rfl, SqT.of (se _ _ rc1), SqT.of upd_same, _, rfl, ?_⟩
      generalize upd H1 em (.tup []) = H2 at se B2 S2 ⊢
      have xp0 : ¬ xs.isEmpty = true → 0 < xs.length := fun xe => by
        cases xs with
        | nil => exact absurd rfl xe
        | cons => exact Nat.succ_pos _
      apply ifW (R := fun H7 => H7 = H2)
      · intro blk
        by_cases xe : xs.isEmpty = true
        · exact ifT xe (iteT (blk _ rfl))
        · refine ifF (by simpa using xe) ⟨_, rfl, rfl, _, rfl, ?_⟩
          by_cases e2 : d = 2
          · exact ifT (decide_eq_true (by rw [e2])) (blk _ rfl)
          refine ifF (decide_eq_false fun z => e2 (V.int.inj z)) ?_
          have xp : 0 < xs.length := xp0 xe
          have r2 := se _ _ r1
          have rc2 := se _ _ rc1
          refine ⟨_, rfl, _, rfl, p, _, 2, _, rfl, rfl, SqT.of r2, atI_nat (j := 2) rfl, cp, xs, rfl, .inr (SqT.of rc2), st, l, c + 1, (xs.length : Int), rfl, S2, by omega, by omega, by omega, fun ei H3 ei0 ei1 B23 S3 => ?_⟩
          obtain ⟨i, rfl⟩ : ∃ i : Nat, ei = (i : Int) := ⟨ei.toNat, by omega⟩
          have iL : i < xs.length := by omega
          have iC : i < cs.length := by omega
          have B3 := B2.trans B23
          have T3 := tup_but S B3
          have hxi : xs[i]? = some xs[i] := List.getElem?_eq_getElem iL
          have hci : cs[i]? = some cs[i] := List.getElem?_eq_getElem iC
          have cx := (osAt_iff.mp ccs).2 i _ _ hxi hci
          have mem : cs[i] ∈ cs := List.getElem_mem iC
          obtain ⟨a, t, ec, hft⟩ := fwC_none hfc _ mem
          rw [ec] at cx hci mem
          obtain ⟨tp, av, tv, ex, htp, han, htt⟩ := cx
          rw [ex] at hxi
          obtain ⟨sok, tok⟩ := okS_mem.mp okc _ mem
          have dtd : depO t ≤ depS cs := depS_mem mem
          have wtd : wdO t ≤ wdS cs := wdS_mem mem
          have r3 := T3 _ _ r
          have rc3 := T3 _ _ rc
          refine ⟨_, rfl, p, _, 2, _, rfl, rfl, SqT.of r3, atI_nat (j := 2) rfl, _, rfl, cp, xs, (i : Int), .ref tp, rfl, rfl, SqT.of rc3, atI_nat hxi, tp, _, rfl, SqT.of (T3 _ _ htp), rfl, _, _, rfl, _, _, rfl, rfl, ?_⟩
          refine ⟨_, rfl, _, rfl, _, rfl, _, rfl, plv, tv, t, _, c + 2, rfl, htt.but T3 B3, hft, tok, by omega, by omega, S3, by omega, fun v' t' H4 c4 ht' fx' okt' wt' dt' gr' B34 S4 hc4 => ⟨by show 2 ≤ sizeLine; decide, fun q hq => ?_⟩⟩
          have sq := same_mk (o := .tup [av, v']) hq
          have B4 := (B3.trans B34).trans (But.same sq)
          have S5 := S4.up sq
          have hq5 := upd_same (H := H4) (a := q) (o := .tup [av, v'])
          have ht5 := ht'.up sq
          generalize upd H4 q (.tup [av, v']) = H5 at B4 S5 hq5 ht5 ⊢
          have T5 := tup_but S B4
          refine ⟨fun σ H' => ∃ x8 c8 cn, σ = [some (.ref st), some plv, some (.ref p), some (.int d), some tv, none, some (.int (i : Int)), some av, some x8] ∧ But st l H H' ∧ Strm H' st l cn ∧ cn ≤ c + 5 * (n + 1) ∧ CsO K st l H' x8 c8 ∧ Grd (cD (.ok a t)) (cD c8) ∧ OkCs kk c8 ∧ wdCs c8 ≤ wdO (.ask kk cs o) + 1 ∧ depCs c8 ≤ depO (.ask kk cs o), ?_, ?_⟩
          · refine ⟨_, rfl, rfl, _, rfl, ?_⟩
            by_cases e3 : d = 3
            · refine ifT (decide_eq_true (by rw [e3])) ?_
              refine ⟨_, rfl, _, rfl, by show 1 ≤ sizeLine; decide, fun q1 hq1 => ?_⟩
              have s1 := same_mk (o := .tup [av]) hq1
              refine ⟨by show 1 ≤ sizeLine; decide, fun q2 hq2 => ⟨_, rfl, by show 2 ≤ sizeLine; decide, fun q3 hq3 => ?_⟩⟩
              have s2 := same_mk (o := .tup [.str "x/y"]) hq2
              have s3 := same_mk (o := .tup [.ref q2, tv]) hq3
              refine ⟨_, rfl, _, rfl, _, rfl, by show 3 ≤ sizeLine; decide, fun q4 hq4 => ?_⟩
              have s4 := same_mk (o := .tup [av, tv, tv]) hq4
              refine ⟨_, rfl, by show 2 ≤ sizeLine; decide, fun q5 hq5' => ?_⟩
              have s5 := same_mk (o := .tup [.bl true, tv]) hq5'
              refine ⟨by show 0 ≤ sizeLine; decide, fun q6 hq6 => ?_⟩
              have s6 := same_mk (o := .tup []) hq6
              refine ⟨by show 7 ≤ sizeLine; decide, fun L hL => ?_⟩
              have s7 := same_mk (o := .lst [.int 5, .non, .ref q1, .ref q3, .ref q4, .ref q5, .ref q6]) hL
              have u6 := s6.trans s7
              have u5 := s5.trans u6
              have u4 := s4.trans u5
              have u3 := s3.trans u4
              have u2 := s2.trans u3
              have u1 := s1.trans u2
              have g1 := u2 _ _ (upd_same (H := H5) (a := q1) (o := .tup [av]))
              have g2 := u3 _ _ (upd_same (a := q2) (o := .tup [.str "x/y"]))
              have g3 := u4 _ _ (upd_same (a := q3) (o := .tup [.ref q2, tv]))
              have g4 := u5 _ _ (upd_same (a := q4) (o := .tup [av, tv, tv]))
              have g5 := u6 _ _ (upd_same (a := q5) (o := .tup [.bl true, tv]))
              have g6 := s7 _ _ (upd_same (a := q6) (o := .tup []))
              have gL := upd_same (H := upd (upd (upd (upd (upd (upd H5 q1 (.tup [av])) q2 (.tup [.str "x/y"])) q3 (.tup [.ref q2, tv])) q4 (.tup [av, tv, tv])) q5 (.tup [.bl true, tv])) q6 (.tup [])) (a := L) (o := .lst [.int 5, .non, .ref q1, .ref q3, .ref q4, .ref q5, .ref q6])
              have S6 := S5.up u1
              have B6 := B4.trans (But.same u1)
              have nL := (S5.up ((((((s1.trans s2).trans s3).trans s4).trans s5).trans s6))).ne_new hL
              generalize upd (upd (upd (upd (upd (upd (upd H5 q1 (.tup [av])) q2 (.tup [.str "x/y"])) q3 (.tup [.ref q2, tv])) q4 (.tup [av, tv, tv])) q5 (.tup [.bl true, tv])) q6 (.tup [])) L (.lst [.int 5, .non, .ref q1, .ref q3, .ref q4, .ref q5, .ref q6]) = H6 at u1 g1 g2 g3 g4 g5 g6 gL S6 B6 ⊢
              refine .inl ⟨st, l, c4, L, _, rfl, S6, by omega, gL, nL.1, nL.2, by show 0 < 7; decide, by show 7 < 1000; decide, fun j x H7 hx B67 S7 => ?_⟩
              have T7 := tup_but S6 B67
              have B7 := B6.trans B67
              have bad : ∀ (dx : PyData), dx ∈ ([.int 5, .none, .tuple [anD a], .tuple [anD a, otD t, otD t], .tuple []] : List PyData) → (∀ H8, But st l H H8 → TupS H6 H8 → BadC H8 x ∧ Dq K H8 x dx) → ∃ c8, CsO K st l H7 x c8 ∧ Grd (cD (.ok a t)) (cD c8) ∧ OkCs kk c8 ∧ wdCs c8 ≤ wdO (.ask kk cs o) + 1 ∧ depCs c8 ≤ depO (.ask kk cs o) := fun dx m h =>
                ⟨.odd dx, fun H8 b => h H8 (B7.trans b) (tup_but S6 (B67.trans b)), grd_odd m, trivial, Nat.zero_le _, Nat.zero_le _⟩
              have anq : ∀ H8, But st l H H8 → Dq K H8 av (anD a) := fun H8 b => an_dqt (han.tup (tup_but S b))
              have otq : ∀ H8, But st l H H8 → Dq K H8 tv (otD t) := fun H8 b => ot_dq (htt.but (tup_but S b) b)
              have key : ∃ c8, CsO K st l H7 x c8 ∧ Grd (cD (.ok a t)) (cD c8) ∧ OkCs kk c8 ∧ wdCs c8 ≤ wdO (.ask kk cs o) + 1 ∧ depCs c8 ≤ depO (.ask kk cs o) := by
                match j, hx with
                | 0, hx => cases hx; exact bad (.int 5) (by simp) fun H8 b t8 => ⟨.no (.inr ⟨_, rfl⟩), .int 5⟩
                | 1, hx => cases hx; exact bad .none (by simp) fun H8 b t8 => ⟨.no (.inl rfl), .non⟩
                | 2, hx => cases hx; exact bad (.tuple [anD a]) (by simp) fun H8 b t8 => ⟨.len (t8 _ _ g1) (by show 1 ≠ 2; decide), .tup (t8 _ _ g1) (.cons (anq H8 b) .nil)⟩
                | 3, hx => cases hx; exact ⟨.ans (.tuple [.str "x/y"]) t, ⟨q3, .ref q2, tv, rfl, T7 _ _ g3, fun H8 b => ⟨.xy (tup_but S6 (B67.trans b) _ _ g2), .tup (tup_but S6 (B67.trans b) _ _ g2) (.cons (.str _) .nil)⟩, htt.but (tup_but S B7) B7⟩, grd_ans (by simp), tok, (by show wdO t ≤ _; omega), (by show depO t ≤ _; omega)⟩
                | 4, hx => cases hx; exact bad (.tuple [anD a, otD t, otD t]) (by simp) fun H8 b t8 => ⟨.len (t8 _ _ g4) (by show 3 ≠ 2; decide), .tup (t8 _ _ g4) (.cons (anq H8 b) (.cons (otq H8 b) (.cons (otq H8 b) .nil)))⟩
                | 5, hx => cases hx; exact ⟨.ans (.bool true) t, ⟨q5, .bl true, tv, rfl, T7 _ _ g5, fun H8 b => ⟨.bl true, .bl true⟩, htt.but (tup_but S B7) B7⟩, grd_ans (by simp), tok, (by show wdO t ≤ _; omega), (by show depO t ≤ _; omega)⟩
                | 6, hx => cases hx; exact bad (.tuple []) (by simp) fun H8 b t8 => ⟨.len (t8 _ _ g6) (by decide), .tup (t8 _ _ g6) .nil⟩
                | j + 7, hx => simp at hx
              obtain ⟨c8, k1, k2, k3⟩ := key
              exact ⟨x, c8, _, rfl, B7, S7, by omega, k1, k2, k3⟩
            · exact ifF (decide_eq_false fun z => e3 (V.int.inj z)) ⟨.ref q, .ok a t', c4, rfl, B4, S5, by omega, ⟨q, av, v', rfl, hq5, han.tup T5, ht5⟩, grd_ok gr', ⟨sok, okt'⟩, (by show wdO t' ≤ _; omega), (by show depO t' ≤ _; omega)⟩
          · rintro _ H6 ⟨x8, c8, cn, rfl, B6, S6, hcn, hx8, gc8, ok8⟩
            have T6 := tup_but S B6
            have r6 := T6 _ _ r
            have rc6 := T6 _ _ rc
            refine ⟨_, rfl, rfl, _, rfl, ?_⟩
            by_cases e4 : d = 4
            · refine ifT (decide_eq_true (by rw [e4])) ?_
              refine ⟨_, rfl, p, _, 1, _, rfl, rfl, SqT.of r6, atI_nat (j := 1) rfl, _, rfl, p, _, 2, _, rfl, rfl, SqT.of r6, atI_nat (j := 2) rfl, _, rfl, _, rfl, by show 2 ≤ sizeLine; decide, fun q1 hq1 => ⟨by show 1 ≤ sizeLine; decide, fun q2 hq2 => ?_⟩⟩
              have s1 := same_mk (o := .tup [av, tv]) hq1
              have s2 := same_mk (o := .tup [.ref q1]) hq2
              have s12 := s1.trans s2
              have hq1' := s2 _ _ (upd_same (H := H6) (a := q1) (o := .tup [av, tv]))
              refine catA_all (s12 _ _ rc6) upd_same lenL fun q3 H7 s3 hq3 => ?_
              have s13 := s12.trans s3
              refine ⟨_, rfl, p, _, 3, _, rfl, rfl, SqT.of (s13 _ _ r6), atI_nat (j := 3) rfl, by show 4 ≤ sizeLine; decide, fun q4 hq4 => ?_⟩
              have s4 := same_mk (o := .tup [.str "ask", .ref kp, .ref q3, ov]) hq4
              have s14 := s13.trans s4
              have B8 := B6.trans (But.same s14)
              have T8 := tup_but S B8
              obtain ⟨a1, a2, a3⟩ := ask_ok (cs' := cs ++ [.ok a t]) (o' := o) ok0 wd (fun c hc => .inl ((List.mem_append.mp hc).elim id fun hc => (List.mem_singleton.mp hc) ▸ mem)) (by rw [List.length_append]; exact Nat.le_refl _) okO0
              refine fin (.ref q4) (.ask kk (cs ++ [.ok a t]) o) _ cn (.ask upd_same (T8 _ _ rk) (s4 _ _ hq3) ((ccs.but T8 B8).app (.one (c := .ok a t) ⟨q1, av, tv, rfl, (s3.trans s4) _ _ hq1', han.tup T8, htt.but T8 B8⟩)) (g.but T8 B8)) (fun _ z => by cases z) a1 a2 a3 (grw_more (fun g1 _ => g1 _ mem) (fun n g1 _ => Nat.le_trans (g1 _ mem) (by omega)) ?_) B8 (S6.up s14) hcn
              have := sum_mem mem
              omega
            · refine ifF (decide_eq_false fun z => e4 (V.int.inj z)) ?_
              have cut1 : cutV xs none (some (i : Int)) = xs.take i := by
                unfold cutV
                rw [show HT.sIx xs.length xs.length (some (i : Int)) = min i xs.length from HT.sIx_nat _ _ i, Nat.min_eq_left (by omega)]
                rfl
              have cut2 : cutV xs (some ((i : Int) + 1)) none = xs.drop (i + 1) := by
                unfold cutV
                rw [show HT.sIx xs.length 0 (some ((i : Int) + 1)) = min (i + 1) xs.length from HT.sIx_nat _ _ (i + 1), Nat.min_eq_left (by omega)]
                exact List.take_of_length_le (by rw [List.length_drop]; exact Nat.le_refl _)
              refine ⟨_, rfl, p, _, 1, _, rfl, rfl, SqT.of r6, atI_nat (j := 1) rfl, _, rfl, p, _, 2, _, rfl, rfl, SqT.of r6, atI_nat (j := 2) rfl, _, rfl, (i : Int), rfl, cp, xs, rfl, SqT.of rc6, fun z => ?_, fun q1 hq1 => ?_⟩
              · have := z.2
                rw [show HT.sIx xs.length xs.length (some (i : Int)) = min i xs.length from HT.sIx_nat _ _ i] at this
                omega
              rw [cut1]
              have s1 := same_mk (o := .tup (xs.take i)) hq1
              refine ⟨_, rfl, by show 1 ≤ sizeLine; decide, fun q2 hq2 => ?_⟩
              have s2 := same_mk (o := .tup [x8]) hq2
              have s12 := s1.trans s2
              refine catA_all (s2 _ _ (upd_same (H := H6) (a := q1) (o := .tup (xs.take i)))) upd_same (Nat.le_trans (Nat.add_le_add_right (by rw [List.length_take]; omega : (xs.take i).length ≤ xs.length) _) lenL) fun q3 H7 s3 hq3 => ?_
              have s13 := s12.trans s3
              refine ⟨_, rfl, p, _, 2, _, rfl, rfl, SqT.of (s13 _ _ r6), atI_nat (j := 2) rfl, _, rfl, _, _, rfl, rfl, _, rfl, cp, xs, rfl, SqT.of (s13 _ _ rc6), fun z => ?_, fun q4 hq4 => ?_⟩
              · have := z.1
                rw [show HT.sIx xs.length 0 (some ((i : Int) + 1)) = min (i + 1) xs.length from HT.sIx_nat _ _ (i + 1)] at this
                omega
              rw [cut2]
              have s4 := same_mk (o := .tup (xs.drop (i + 1))) hq4
              have s14 := s13.trans s4
              refine catA_all (s4 _ _ hq3) upd_same (by rw [List.length_append, List.length_take, List.length_drop]; refine Nat.le_trans ?_ lenL; show min i xs.length + 1 + (xs.length - (i + 1)) ≤ xs.length + 1; omega) fun q5 H8 s5 hq5 => ?_
              have s15 := s14.trans s5
              refine ⟨_, rfl, p, _, 3, _, rfl, rfl, SqT.of (s15 _ _ r6), atI_nat (j := 3) rfl, by show 4 ≤ sizeLine; decide, fun q6 hq6 => ?_⟩
              have s6 := same_mk (o := .tup [.str "ask", .ref kp, .ref q5, ov]) hq6
              have s16 := s15.trans s6
              have B8 := B6.trans (But.same s16)
              have T8 := tup_but S B8
              obtain ⟨a1, a2, a3⟩ := ask_ok (cs' := setC cs i c8) (o' := o) ok0 wd (fun c hc => (setC_mem hc).elim .inl fun z => .inr (z ▸ ok8)) (by rw [setC_len iC]; exact Nat.le_succ _) okO0
              exact fin (.ref q6) (.ask kk (setC cs i c8) o) _ cn (.ask upd_same (T8 _ _ rk) (s6 _ _ hq5) ((ccs.but T8 B8).set (hx8.up s16)) (g.but T8 B8)) (fun _ z => by cases z) a1 a2 a3 (grw_set hci gc8) B8 (S6.up s16) hcn
      · intro H7 e7
        subst e7
        have r2 := se _ _ r1
        have rk2 := se _ _ rk1
        have rc2 := se _ _ rc1
        refine ⟨_, rfl, p, _, 1, _, rfl, rfl, SqT.of r2, atI_nat (j := 1) rfl, by show 0 ≤ sizeLine; decide, fun q1 hq1 => ⟨by show 2 ≤ sizeLine; decide, fun q2 hq2 => ⟨by show 4 ≤ sizeLine; decide, fun q3 hq3 => ?_⟩⟩⟩
        have s1 := same_mk (o := .tup []) hq1
        have s2 := same_mk (o := .tup [.str "end", .str "x"]) hq2
        have s3 := same_mk (o := .tup [.str "ask", .ref kp, .ref q1, .ref q2]) hq3
        have s13 := (s1.trans s2).trans s3
        have g1 := (s2.trans s3) _ _ (upd_same (a := q1) (o := .tup []))
        have g2 := s3 _ _ (upd_same (a := q2) (o := .tup [.str "end", .str "x"]))
        have g3 := upd_same (H := upd (upd H7 q1 (.tup [])) q2 (.tup [.str "end", .str "x"])) (a := q3) (o := .tup [.str "ask", .ref kp, .ref q1, .ref q2])
        generalize upd (upd (upd H7 q1 (.tup [])) q2 (.tup [.str "end", .str "x"])) q3 (.tup [.str "ask", .ref kp, .ref q1, .ref q2]) = H3 at s13 g1 g2 g3 ⊢
        have s3' := s13
        have B3 := B2.trans (But.same s13)
        have S3 := S2.up s13
        have r3 := s13 _ _ r2
        have rk3 := s13 _ _ rk2
        have rc3 := s13 _ _ rc2
        refine ⟨_, rfl, p, _, 2, _, rfl, rfl, SqT.of r3, atI_nat (j := 2) rfl, by show 2 ≤ sizeLine; decide, fun q4 hq4 => ⟨by show 2 ≤ sizeLine; decide, fun q5 hq5 => ⟨by show 1 ≤ sizeLine; decide, fun q6 hq6 => ?_⟩⟩⟩
        have s4 := same_mk (o := .tup [.str "end", .str "x"]) hq4
        have s5 := same_mk (o := .tup [.int 5, .ref q4]) hq5
        have s6 := same_mk (o := .tup [.ref q5]) hq6
        have s46 := (s4.trans s5).trans s6
        have g4 := (s5.trans s6) _ _ (upd_same (a := q4) (o := .tup [.str "end", .str "x"]))
        have g5 := s6 _ _ (upd_same (a := q5) (o := .tup [.int 5, .ref q4]))
        refine catA_all (s46 _ _ rc3) upd_same lenL fun q7 H4 s7 hq7 => ?_
        have s47 := s46.trans s7
        have g4 := s7 _ _ g4
        have g5 := s7 _ _ g5
        have r4 := s47 _ _ r3
        refine ⟨_, rfl, _, rfl, p, _, 1, _, rfl, rfl, SqT.of r4, atI_nat (j := 1) rfl, _, rfl, p, _, 2, _, rfl, rfl, SqT.of r4, atI_nat (j := 2) rfl, _, rfl, by show 4 ≤ sizeLine; decide, fun q8 hq8 => ?_⟩
        have s8 := same_mk (o := .tup [.str "ask", .ref kp, .ref cp, .ref q3]) hq8
        refine ⟨_, rfl, p, _, 1, _, rfl, rfl, SqT.of (s8 _ _ r4), atI_nat (j := 1) rfl, _, rfl, _, rfl, p, _, 3, _, rfl, rfl, SqT.of (s8 _ _ r4), atI_nat (j := 3) rfl, by show 4 ≤ sizeLine; decide, fun q9 hq9 => ⟨by show 2 ≤ sizeLine; decide, fun L hL => ?_⟩⟩
        have s9 := same_mk (o := .tup [.str "ask", .ref kp, .ref q7, ov]) hq9
        have sL := same_mk (o := .lst [.ref q8, .ref q9]) hL
        have s89 := s8.trans s9
        have u1 := s89.trans sL
        have u0 := s47.trans u1
        have g8 := (s9.trans sL) _ _ (upd_same (H := H4) (a := q8) (o := .tup [.str "ask", .ref kp, .ref cp, .ref q3]))
        have g9 := sL _ _ (upd_same (H := upd H4 q8 (.tup [.str "ask", .ref kp, .ref cp, .ref q3])) (a := q9) (o := .tup [.str "ask", .ref kp, .ref q7, ov]))
        have gL := upd_same (H := upd (upd H4 q8 (.tup [.str "ask", .ref kp, .ref cp, .ref q3])) q9 (.tup [.str "ask", .ref kp, .ref q7, ov])) (a := L) (o := .lst [.ref q8, .ref q9])
        have nL := ((S3.up s47).up s89).ne_new hL
        generalize upd (upd (upd H4 q8 (.tup [.str "ask", .ref kp, .ref cp, .ref q3])) q9 (.tup [.str "ask", .ref kp, .ref q7, ov])) L (.lst [.ref q8, .ref q9]) = H5 at u1 u0 g8 g9 gL ⊢
        have g1 := u0 _ _ g1
        have g2 := u0 _ _ g2
        have g3 := u0 _ _ g3
        have g4 := u1 _ _ g4
        have g5 := u1 _ _ g5
        have g7 := u1 _ _ hq7
        have S5 := S3.up u0
        have B5 := B3.trans (But.same u0)
        refine .inl ⟨st, l, c + 1, L, _, rfl, S5, by omega, gL, nL.1, nL.2, by show 0 < 2; decide, by show 2 < 1000; decide, fun j x H6 hx B56 S6 => ?_⟩
        have T56 := tup_but S5 B56
        have B6 := B5.trans B56
        have T6 := tup_but S B6
        match j, hx with
        | 0, hx =>
          cases hx
          obtain ⟨a1, a2, a3⟩ := ask_ok (cs' := cs) (o' := .ask kk [] (.fin "x")) ok0 wd (fun c hc => .inl hc) (Nat.le_succ _) ⟨⟨lok, Nat.zero_le _, trivial, trivial⟩, by rw [wd_ask]; exact Nat.zero_le _, by rw [dep_ask kk [], dd]; exact Nat.succ_le_succ (Nat.zero_le _)⟩
          exact fin (.ref q8) (.ask kk cs (.ask kk [] (.fin "x"))) _ _ (.ask (T56 _ _ g8) (T6 _ _ rk) (T6 _ _ rc) (ccs.but T6 B6) (.ask (T56 _ _ g3) (T6 _ _ rk) (T56 _ _ g1) .nil (.fin (T56 _ _ g2)))) (fun _ z => by cases z) a1 a2 a3 grw_part B6 S6 (by omega)
        | 1, hx =>
          cases hx
          have x0 : otD (.fin "x") = .tuple [.str "end", .str "x"] := fin_d _
          have x3 : cD (.ans (.int 5) (.fin "x")) = .tuple [.int 5, .tuple [.str "end", .str "x"]] := by show PyData.tuple [.int 5, otD (.fin "x")] = _; rw [x0]
          have x1 : szD (cD (.ans (.int 5) (.fin "x"))) = 17 := by rw [x3]; decide +kernel
          have x2 : (cD (.ans (.int 5) (.fin "x"))).depth = 2 := by rw [x3]; decide +kernel
          obtain ⟨a1, a2, a3⟩ := ask_ok (cs' := cs ++ [.ans (.int 5) (.fin "x")]) (o' := o) ok0 wd (fun c hc => (List.mem_append.mp hc).elim .inl fun hc => .inr (by rw [List.mem_singleton.mp hc]; exact ⟨trivial, Nat.zero_le _, Nat.zero_le _⟩)) (by rw [List.length_append]; exact Nat.le_refl _) okO0
          exact fin (.ref q9) (.ask kk (cs ++ [.ans (.int 5) (.fin "x")]) o) _ _ (.ask (T56 _ _ g9) (T6 _ _ rk) (T56 _ _ g7) ((ccs.but T6 B6).app (.one (c := .ans (.int 5) (.fin "x")) ⟨q5, _, _, rfl, T56 _ _ g5, fun H7 B67 => ⟨.int 5, .int 5⟩, .fin (T56 _ _ g4)⟩)) (g.but T6 B6)) (fun _ z => by cases z) a1 a2 a3 (grw_more (fun _ _ => by rw [x3]; decide +kernel) (fun n _ _ => by rw [x2]; omega) (by rw [x1]; omega)) B6 S6 (by omega)
        | j + 2, hx => simp at hx
end
end T6

set_option maxHeartbeats 3900000
namespace T6
open PySem PySem.Spec PyProof.Rows L2 TL RP
open C8 (pss_cut tCut pe_gc)
open CB XW LE LR FI
abbrev sLSpm : Stmt := top 47
def spSpm (K : PySem.W.Frag) (st l : Addr) (n : Nat) : Sp := fun vs H Q _ => ∃ (plv v : V) (t : OT) (c : Nat), vs = [.ref st, plv, v] ∧ OtAt K st l H v t ∧ (∀ d, t = .bad d → FX st l H v) ∧ OkO t ∧ wdO t ≤ 18 ∧ depO t < n ∧ n ≤ 40 ∧ Strm H st l c ∧ c + 5 * n + 2 ≤ 800000 ∧
  ∀ v' t' H' c', OtAt K st l H' v' t' → OkO t' → wdO t' ≤ wdO t + 1 → depO t' ≤ depO t + 1 → Grw t t' → But st l H H' → Strm H' st l c' → c' ≤ c + 5 * n + 2 → Q v' H'
def trC : Cse OT → Option OT
  | .odd _ => none
  | .ok _ t => some t
  | .ans _ t => some t
def chC (t' : OT) : Cse OT → Cse OT
  | .odd d => .odd d
  | .ok a _ => .ok a t'
  | .ans d _ => .ans d t'
theorem bad_d (d : PyData) : otD (.bad d) = d := by unfold otD; rfl
theorem trC_at {K : PySem.W.Frag} {st l : Addr} {H : Hp} {x : V} {c : Cse OT} {t : OT} (h : CsO K st l H x c) (e : trC c = some t) : ∃ p av tv, x = .ref p ∧ H p = some (.tup [av, tv]) ∧ OtAt K st l H tv t ∧ ∀ H' q tv' t', But st l H H' → TupS H H' → H' q = some (.tup [av, tv']) → OtAt K st l H' tv' t' → CsO K st l H' (.ref q) (chC t' c) := by
  cases c with
  | odd d => cases e
  | ok a t0 =>
    cases e
    obtain ⟨p, av, tv, e, h1, h2, h3⟩ := h
    exact ⟨p, av, tv, e, h1, h3, fun H' q tv' t' B T hq g => ⟨q, av, tv', rfl, hq, h2.tup T, g⟩⟩
  | ans d t0 =>
    cases e
    obtain ⟨p, av, tv, e, h1, h2, h3⟩ := h
    exact ⟨p, av, tv, e, h1, h3, fun H' q tv' t' B T hq g => ⟨q, av, tv', rfl, hq, h2.but B, g⟩⟩
theorem trC_ok {k : Lk} {c : Cse OT} {t : OT} (h : OkCs k c) (e : trC c = some t) : OkO t ∧ wdCs c = wdO t ∧ depCs c = depO t ∧ ∀ t', OkO t' → OkCs k (chC t' c) ∧ wdCs (chC t' c) = wdO t' ∧ depCs (chC t' c) = depO t' := by
  cases c with
  | odd d => cases e
  | ok a t0 => cases e; exact ⟨h.2, rfl, rfl, fun t' g => ⟨⟨h.1, g⟩, rfl, rfl⟩⟩
  | ans d t0 => cases e; exact ⟨h, rfl, rfl, fun t' g => ⟨g, rfl, rfl⟩⟩
theorem trC_grd {c : Cse OT} {t t' : OT} (e : trC c = some t) (g : Grw t t') : Grd (cD c) (cD (chC t' c)) := by
  cases c with
  | odd d => cases e
  | ok a t0 => cases e; exact grd_ok g
  | ans d t0 => cases e; exact grd_an g
theorem grd_rfl (d : PyData) : Grd d d := ⟨id, by omega, by omega⟩
theorem grd_last {a b c d d' : PyData} (h : Grd d d') : Grd (.tuple [a, b, c, d]) (.tuple [a, b, c, d']) := by
  obtain ⟨h1, h2, h3⟩ := h
  refine ⟨?_, ?_, ?_⟩
  · simp only [PyData.showable, PyData.showableAll, Bool.and_eq_true]
    exact fun h => ⟨h.1, h.2.1, h.2.2.1, h1 h.2.2.2.1, trivial⟩
  · simp only [PyData.depth, PyData.depthAll]
    omega
  · have g1 := (tup_sz [a, b, c, d]).1
    have g2 := (tup_sz [a, b, c, d']).2
    simp only [List.map_cons, List.map_nil, List.sum_cons, List.sum_nil] at g1 g2
    omega
theorem lks_nil {H : Hp} {D : Addr} (h : H D = some (.lst [])) : LksL H D [] := ⟨[], h, rfl, fun i v k a => by simp at a⟩
theorem dq_four {K : PySem.W.Frag} {H : Hp} {a y z : Addr} {u : V} {d : PyData} (h : Dq K H (.ref a) d) (ha : H a = some (.tup [.str "ask", u, .ref y, .ref z])) (hy : H y = some (.tup [])) (hz : H z = some (.tup [.str "end", .str "a"])) : ∃ du, Dq K H u du ∧ d = .tuple [.str "ask", du, .tuple [], otD (.fin "a")] := by
  rw [fin_d]
  cases h with
  | tup h k =>
    rw [ha] at h
    cases h
    cases k with
    | cons k1 k => cases k with
      | cons k2 k => cases k with
        | cons k3 k => cases k with
          | cons k4 k =>
            cases k
            cases k1
            refine ⟨_, k2, ?_⟩
            cases k3 with
            | tup g j =>
              rw [hy] at g
              cases g
              cases j
              cases k4 with
              | tup g j =>
                rw [hz] at g
                cases g
                cases j with
                | cons j1 j => cases j with
                  | cons j2 j => cases j; cases j1; cases j2; rfl
              | lst g j => rw [hz] at g; cases g
              | dct g j => rw [hz] at g; cases g
            | lst g j => rw [hy] at g; cases g
            | dct g j => rw [hy] at g; cases g
  | lst h k => rw [ha] at h; cases h
  | dct h k => rw [ha] at h; cases h
section
variable {P : Program} {w : World} {K : PySem.W.Frag} {mg : Str → Option Value} {base : Heap} {st l : Addr}
theorem scLSpm : FnScope ["_law_stream", "_law_pool_here", "_law_tree_here", "_law_some", "_law_k", "_law_case"] ["_law_stream", "_law_pool_here", "_law_tree_here"] (defScope sLSpm) := ⟨rfl, rfl, rfl, by decide +kernel, rfl, by decide +kernel, by decide +kernel⟩
theorem ok_lspm {f fD fW fP fS : Addr} {fd fdD fdW fdP fdS : FuncData} (F : Fun K "_law_spoiled_more" "_law_spoiled_more" sLSpm f fd) (T : TB mg) (aD : aD' K mg fD fdD) (GD : FnOk P w K mg base CX0 1 fD fdD ["_law_stream", "_law_many"] spDraw) (aP : At K mg "_law_pick" fP fdP ["_law_stream", "_law_things"]) (GP : FnOk P w K mg base CX0 2 fP fdP ["_law_stream", "_law_things"] spPick)
    (aLFw : At K mg "_law_first_wrong" fW fdW ["_law_tree_here", "_law_looks_here", "_law_at"]) (aLSpo : At K mg "_law_spoiled" fS fdS ["_law_stream", "_law_pool_here", "_law_tree_here"])
    (n : Nat) (GLFw : FnOk P w K mg base CX0 (4 + n) fW fdW ["_law_tree_here", "_law_looks_here", "_law_at"] (spFW K st l (n + 1))) (GLSpo : FnOk P w K mg base CX0 (4 + n) fS fdS ["_law_stream", "_law_pool_here", "_law_tree_here"] (spSpo K st l n)) : FnOk P w K mg base CX0 (4 + n + 1) f fd ["_law_stream", "_law_pool_here", "_law_tree_here"] (spSpm K st l n) := by
  refine F.ok scLSpm (fun vs H Q E h => ?_) (fun cdv A outer s H vs Q E hr h => ?_)
  · obtain ⟨plv, v, t, c, rfl, _⟩ := h
    rfl
  · obtain ⟨plv, v, t, c, rfl, ht, fx, ok, wd, hd, n40, S, hc, fin⟩ := h
    have hu := hr.units
    have hrN : ∀ m, m ≤ 4 + n → Room m (A.deeper (envOfC "_law_spoiled_more" (defScope sLSpm) s.heap.objs.size f cdv)) := fun m h => hr.mono h
    have hu0 : (A.deeper (envOfC "_law_spoiled_more" (defScope sLSpm) s.heap.objs.size f cdv)).units < cLine := by have := hr.un; omega
    refine ⟨_, pss_cons (ps_if (PW.pt (pw_or (pt_not (pt_val (pe_callB call_isi (by rfl) T.isinstance (by decide +kernel) (pa_cons (pv 2) (pa_cons (pe_bltn (v := .ty "tuple") (by rfl) T.tuple (by decide +kernel) rfl) pa_nil))))) (pw_or (pt_cmpR op_ne (pe_callB call_len_seq (by rfl) T.len PySem.boot_len (pa_cons (pv 2) pa_nil)) pe_int (nomark _)) (pw_or (pt_cmpR op_ne (pe_ix ix_tup (pv 2) pe_int (fun _ _ => rfl)) pe_str (nomark _)) (pw_or1 (pt_not (pt_val (pe_callB call_isi (by rfl) T.isinstance (by decide +kernel) (pa_cons (pe_ix ix_tup (pv 2) pe_int (fun _ _ => rfl)) (pa_cons (pe_bltn (v := .ty "tuple") (by rfl) T.tuple (by decide +kernel) rfl) pa_nil)))))))))) (pss_one (ps_ret (pv 2))) (pss_nil))
            (pss_cons (ps_set (i := 3) scLSpm.nd rfl (Or.inl rfl) (pe_lst pa_nil))
            (pss_cons (ps_for PassesOwn.never rfl (EE.pi_enumE rfl T.enumerate (pe_ix ix_tup (pv 2) pe_int (fun _ _ => rfl))) (pg_tup rfl (pgs_cons (pg_name (i := 4) scLSpm.nd rfl (Or.inl rfl)) (pgs_cons (pg_name (i := 5) scLSpm.nd rfl (Or.inl rfl)) pgs_nil))) (pss_one (ps_if (PW.pt (pw_and (pt_val (pe_callB call_isi (by rfl) T.isinstance (by decide +kernel) (pa_cons (pv 5) (pa_cons (pe_bltn (v := .ty "tuple") (by rfl) T.tuple (by decide +kernel) rfl) pa_nil)))) (pw_and (pt_cmpR op_eq (pe_callB call_len_seq (by rfl) T.len PySem.boot_len (pa_cons (pv 5) pa_nil)) pe_int (nomark _)) (pw_and1 (pt_cmp (pc_isN (pe_call GLFw (hrN _ (by omega)) rfl aLFw.m aLFw.k aLFw.b .nil pass0 (pa_cons (pe_ix ix_tup (pv 5) pe_int (fun _ _ => rfl)) (pa_cons (pe_lst pa_nil) (pa_cons (pe_tup pa_nil) pa_nil)))))))))) (pss_one (ps_expr (pe_bm PySem.F.plainAttrs_list PySem.F.slot_list_append PySem.F.type_list_append mt_append (pv 3) (pa_cons (pv 4) pa_nil)))) (pss_nil))))
            (pss_cons (ps_if (PW.pt (pw_and (pt_cmpR (EN.op_neNil hu0) (pv 3) (pe_lst pa_nil) (nomark _)) (pw_and1 (pt_cmpR op_eq (pe_call GD (hrN _ (by omega)) rfl aD.m aD.k aD.b .nil pass0 (pa_cons (pv 0) (pa_cons pe_int pa_nil))) pe_int (nomark _))))) (pss_cons (ps_set (i := 4) scLSpm.nd rfl (Or.inl rfl) (pe_call GP (hrN _ (by omega)) rfl aP.m aP.k aP.b .nil pass0 (pa_cons (pv 0) (pa_cons (pv 3) pa_nil))))
            (pss_cons (ps_set (i := 5) scLSpm.nd rfl (Or.inl rfl) (pe_tup (pa_cons (pe_ix ix_tup (pe_ix ix_tup (pe_ix ix_tup (pv 2) pe_int (fun _ _ => rfl)) (pv 4) (fun _ _ => rfl)) pe_int (fun _ _ => rfl)) (pa_cons (pe_call GLSpo (hrN _ (by omega)) rfl aLSpo.m aLSpo.k aLSpo.b .nil pass0 (pa_cons (pv 0) (pa_cons (pv 1) (pa_cons (pe_ix ix_tup (pe_ix ix_tup (pe_ix ix_tup (pv 2) pe_int (fun _ _ => rfl)) (pv 4) (fun _ _ => rfl)) pe_int (fun _ _ => rfl)) pa_nil)))) pa_nil))))
            (pss_one (ps_ret (pe_tup (pa_cons pe_str (pa_cons (pe_ix ix_tup (pv 2) pe_int (fun _ _ => rfl)) (pa_cons (pe_op op_catA (pe_op op_catA (pe_slice sl_tup (pe_ix ix_tup (pv 2) pe_int (fun _ _ => rfl)) po_none (po_some (pv 4))) (pe_tup (pa_cons (pv 5) pa_nil))) (pe_slice sl_tup (pe_ix ix_tup (pv 2) pe_int (fun _ _ => rfl)) (po_some (pe_op op_add (pv 4) pe_int)) po_none)) (pa_cons (pe_ix ix_tup (pv 2) pe_int (fun _ _ => rfl)) pa_nil))))))))) (pss_nil))
            (pss_cons (ps_if (pt_cmp (pc_notN (pe_call GLFw (hrN _ (by omega)) rfl aLFw.m aLFw.k aLFw.b .nil pass0 (pa_cons (pe_ix ix_tup (pv 2) pe_int (fun _ _ => rfl)) (pa_cons (pe_lst pa_nil) (pa_cons (pe_tup pa_nil) pa_nil)))))) (pss_one (ps_ret (pv 2))) (pss_nil))
            (pss_one (ps_ret (pe_tup (pa_cons pe_str (pa_cons (pe_ix ix_tup (pv 2) pe_int (fun _ _ => rfl)) (pa_cons (pe_ix ix_tup (pv 2) pe_int (fun _ _ => rfl)) (pa_cons (pe_call GLSpo (hrN _ (by omega)) rfl aLSpo.m aLSpo.k aLSpo.b .nil pass0 (pa_cons (pv 0) (pa_cons (pv 1) (pa_cons (pe_ix ix_tup (pv 2) pe_int (fun _ _ => rfl)) pa_nil)))) pa_nil))))))))))), ?_⟩
    have stay : ∀ H1, Same H H1 → Q v H1 := fun H1 s1 => fin v t H1 c (ht.up s1) ok (Nat.le_succ _) (Nat.le_succ _) (grd_rfl _) (But.same s1) (S.up s1) (by omega)
    have len4 : ∀ (m : Nat), m ≠ 4 → (!decide (V.int (m : Int) = V.int 4)) = true := fun m h => by rw [decide_eq_false fun z => h (by have := V.int.inj z; omega)]; rfl
    cases ht with
    | @fin p z r => exact ⟨_, rfl, _, _, .type "tuple", .type "tuple", true, rfl, .ty "tuple", .base (.tup r), kit_ty (by decide +kernel), _, rfl, iteF ⟨_, rfl, p, _, rfl, .inr (SqT.of r), rfl, _, rfl, ifT (len4 2 (by decide)) (iteT ⟨_, rfl, stay H (Same.refl H)⟩)⟩⟩
    | @bad _ d b =>
      cases rt (ab := []) (OtAt.bad b) with
      | no e h k => exact ⟨_, rfl, _, _, _, .type "tuple", false, rfl, .ty "tuple", h, k, _, rfl, iteT (iteT ⟨_, rfl, stay H (Same.refl H)⟩)⟩
      | @len a xs e h n2 n4 => exact ⟨_, rfl, _, _, .type "tuple", .type "tuple", true, rfl, .ty "tuple", .base (.tup h), kit_ty (by decide +kernel), _, rfl, iteF ⟨_, rfl, a, _, rfl, .inr (SqT.of h), rfl, _, rfl, ifT (len4 _ n4) (iteT ⟨_, rfl, stay H (Same.refl H)⟩)⟩⟩
      | @twoW a w y e h n => exact ⟨_, rfl, _, _, .type "tuple", .type "tuple", true, rfl, .ty "tuple", .base (.tup h), kit_ty (by decide +kernel), _, rfl, iteF ⟨_, rfl, a, _, rfl, .inr (SqT.of h), rfl, _, rfl, ifT (len4 2 (by decide)) (iteT ⟨_, rfl, stay H (Same.refl H)⟩)⟩⟩
      | @two a y cn bb e h g k => exact ⟨_, rfl, _, _, .type "tuple", .type "tuple", true, rfl, .ty "tuple", .base (.tup h), kit_ty (by decide +kernel), _, rfl, iteF ⟨_, rfl, a, _, rfl, .inr (SqT.of h), rfl, _, rfl, ifT (len4 2 (by decide)) (iteT ⟨_, rfl, stay H (Same.refl H)⟩)⟩⟩
      | @fourW a w x y z e h n => exact ⟨_, rfl, _, _, .type "tuple", .type "tuple", true, rfl, .ty "tuple", .base (.tup h), kit_ty (by decide +kernel), _, rfl, iteF ⟨_, rfl, a, _, rfl, .inr (SqT.of h), rfl, _, rfl, ifF (by rw [show (List.length [V.str w, x, y, z]) = 4 from rfl, decide_eq_true (by rfl)]; rfl) ⟨_, rfl, a, _, 0, _, rfl, rfl, SqT.of h, atI_nat (j := 0) rfl, rfl, _, rfl, ifT (by rw [decide_eq_false fun z => n (V.str.inj z)]; rfl) (iteT ⟨_, rfl, stay H (Same.refl H)⟩)⟩⟩⟩
      | @fourY a u i z e h hu' => exact ⟨_, rfl, _, _, .type "tuple", .type "tuple", true, rfl, .ty "tuple", .base (.tup h), kit_ty (by decide +kernel), _, rfl, iteF ⟨_, rfl, a, _, rfl, .inr (SqT.of h), rfl, _, rfl, ifF (by rw [show (List.length [V.str "ask", V.ref u, V.int i, z]) = 4 from rfl, decide_eq_true (by rfl)]; rfl) ⟨_, rfl, a, _, 0, _, rfl, rfl, SqT.of h, atI_nat (j := 0) rfl, rfl, _, rfl, ifF (by rw [decide_eq_true rfl]; rfl) ⟨_, rfl, a, _, 2, _, rfl, rfl, SqT.of h, atI_nat (j := 2) rfl, _, _, .type "int", .type "tuple", false, rfl, .ty "tuple", .base (.int i), kit_ty (by decide +kernel), _, rfl, iteT ⟨_, rfl, stay H (Same.refl H)⟩⟩⟩⟩⟩
      | ask e _ _ _ _ _ => cases e
      | @fourX a x y z e h nn =>
        refine ⟨_, rfl, _, _, .type "tuple", .type "tuple", true, rfl, .ty "tuple", .base (.tup h), kit_ty (by decide +kernel), _, rfl, iteF ⟨_, rfl, a, _, rfl, .inr (SqT.of h), rfl, _, rfl, ifF (by rw [show (List.length [V.str "ask", x, y, z]) = 4 from rfl, decide_eq_true (by rfl)]; rfl) ⟨_, rfl, a, _, 0, _, rfl, rfl, SqT.of h, atI_nat (j := 0) rfl, rfl, _, rfl, ifF (by rw [decide_eq_true rfl]; rfl) ⟨_, rfl, a, _, 2, _, rfl, rfl, SqT.of h, atI_nat (j := 2) rfl, ?_⟩⟩⟩⟩
        rcases fx d rfl H But.refl a x y z rfl h with ⟨i, rfl⟩ | ⟨yq, zq, rfl, rfl, hy, hz, hx⟩
        · exact ⟨_, _, .type "int", .type "tuple", false, rfl, .ty "tuple", .base (.int i), kit_ty (by decide +kernel), _, rfl, iteT ⟨_, rfl, stay H (Same.refl H)⟩⟩
        refine ⟨_, _, .type "tuple", .type "tuple", true, rfl, .ty "tuple", .base (.tup hy), kit_ty (by decide +kernel), _, rfl, iteF ?_⟩
        refine ⟨by show 0 ≤ sizeLine; decide, fun L hL => ?_⟩
        have s1 := same_mk (o := .lst []) hL
        have hL1 := upd_same (H := H) (a := L) (o := .lst [])
        generalize upd H L (.lst []) = H1 at s1 hL1 ⊢
        refine ⟨_, rfl, a, _, 2, _, rfl, rfl, SqT.of (s1 _ _ h), atI_nat (j := 2) rfl, EE.for_enumE (v := .ref yq) ⟨yq, rfl, .inl (s1 _ _ hy)⟩ (fun i τ H' => τ = [some (.ref st), some plv, some (.ref a), some (.ref L), none, none] ∧ H' = H1) ⟨rfl, rfl⟩ (fun i τ H' h a o e q => by rw [h.2]; exact q) (fun i x T τ H' hi => absurd hi (Nat.not_lt_zero _)) ?_⟩
        rintro _ H7 ⟨rfl, e7⟩
        rw [e7]
        clear e7 H7
        refine ⟨_, rfl, by show 0 ≤ sizeLine; decide, fun e1 he1 => ⟨L, e1, [], rfl, rfl, SqL.of (same_mk he1 _ _ hL1), SqL.of upd_same, _, rfl, iteF (iteF ?_)⟩⟩
        have s2 := same_mk (o := .lst []) he1
        generalize upd H1 e1 (.lst []) = H2 at s2 ⊢
        have s02 := s1.trans s2
        refine ⟨_, rfl, a, _, 3, _, rfl, rfl, SqT.of (s02 _ _ h), atI_nat (j := 3) rfl, by show 0 ≤ sizeLine; decide, fun D0 hD0 => ⟨by show 0 ≤ sizeLine; decide, fun p0 hp0 => ?_⟩⟩
        have sD := same_mk (o := .lst []) hD0
        have sp := same_mk (o := .tup []) hp0
        have s03 := (s02.trans sD).trans sp
        refine ⟨.ref zq, D0, p0, .fin "a", [], [], rfl, .fin (s03 _ _ hz), trivial, Nat.succ_pos _, lks_nil (sp _ _ upd_same), (fun k hk => by cases hk), Nat.zero_le _, upd_same, Nat.zero_le _, fun rv H4 s4 hrv => ?_⟩
        rw [fw_fin] at hrv
        obtain rfl : rv = .non := hrv
        have s04 := s03.trans s4
        have h4 := s04 _ _ h
        refine ⟨_, rfl, iteF ⟨_, rfl, a, _, 1, _, rfl, rfl, SqT.of h4, atI_nat (j := 1) rfl, _, rfl, a, _, 2, _, rfl, rfl, SqT.of h4, atI_nat (j := 2) rfl, _, rfl, _, rfl, _, rfl, a, _, 3, _, rfl, rfl, SqT.of h4, atI_nat (j := 3) rfl, plv, .ref zq, .fin "a", [], c, rfl, .fin (s04 _ _ hz), fw_fin, trivial, Nat.zero_le _, (show 0 < n from Nat.lt_of_le_of_lt (Nat.zero_le _) hd), S.up s04, by omega, fun v' t' H5 c5 ht' fx' okt' wt' dt' gr' B5 S5 hc5 => ⟨by show 4 ≤ sizeLine; decide, fun q hq => ?_⟩⟩⟩
        have sq := same_mk (o := .tup [.str "ask", x, .ref yq, v']) hq
        have B6 := ((But.same s04).trans B5).trans (But.same sq)
        have S6 := S5.up sq
        have T6 := tup_but S B6
        obtain ⟨du, hdu, ed⟩ := dq_four (b H But.refl).2 h hy hz
        have hq6 := upd_same (H := H5) (a := q) (o := .tup [.str "ask", x, .ref yq, v'])
        have ht6 := ht'.up sq
        generalize upd H5 q (.tup [.str "ask", x, .ref yq, v']) = H6 at B6 S6 T6 hq6 ht6 ⊢
        refine fin (.ref q) (.bad (.tuple [.str "ask", du, .tuple [], otD t'])) H6 c5 (.bad fun H7 B67 => ?_) trivial (Nat.zero_le _) (Nat.zero_le _) ?_ B6 S6 (by omega)
        · have T7 := tup_but S6 B67
          have T07 := tup_but S (B6.trans B67)
          have du7 : Dq K H7 x du := by
            obtain ⟨du', h1, h2⟩ := dq_four (b H7 (B6.trans B67)).2 (T07 _ _ h) (T07 _ _ hy) (T07 _ _ hz)
            rw [ed] at h2
            cases h2
            exact h1
          have dq : Dq K H7 (.ref q) (.tuple [.str "ask", du, .tuple [], otD t']) := .tup (T7 _ _ hq6) (.cons (.str _) (.cons du7 (.cons (.tup (T07 _ _ hy) .nil) (.cons (ot_dq (ht6.but T7 B67)) .nil))))
          refine ⟨?_, dq⟩
          rcases hx with rfl | ⟨uq, rfl, huq⟩
          · exact .fourN (T7 _ _ hq6) (T07 _ _ hy)
          · exact .fourL (T7 _ _ hq6) (T07 _ _ huq) (by decide +kernel) (T07 _ _ hy) (by decide +kernel)
        · show Grd (otD (.bad d)) (otD (.bad _))
          rw [bad_d, bad_d, ed]
          exact grd_last gr'
    | @ask p kp cp ov xs kk cs o r rk rc ccs g =>
      have ok0 := ok
      obtain ⟨lok, csl, okc, oko⟩ := ok
      have dd := dep_ask kk cs o
      have ww := wd_ask kk cs o
      have xl : xs.length = cs.length := ccs.len
      have okO0 : OkO o ∧ wdO o ≤ wdO (.ask kk cs o) + 1 ∧ depO o ≤ depO (.ask kk cs o) := ⟨oko, by omega, by omega⟩
      have lenL : xs.length + 1 ≤ sizeLine := Nat.le_trans (show xs.length + 1 ≤ 20 by omega) (by decide)
      refine ⟨_, rfl, _, _, .type "tuple", .type "tuple", true, rfl, .ty "tuple", .base (.tup r), kit_ty (by decide +kernel), _, rfl, iteF ⟨_, rfl, p, _, rfl, .inr (SqT.of r), rfl, _, rfl, ifF (by rw [show (List.length [V.str "ask", .ref kp, .ref cp, ov]) = 4 from rfl, decide_eq_true (by rfl)]; rfl) ⟨_, rfl, p, _, 0, _, rfl, rfl, SqT.of r, atI_nat (j := 0) rfl, rfl, _, rfl, ifF (by rw [decide_eq_true rfl]; rfl) ⟨_, rfl, p, _, 2, _, rfl, rfl, SqT.of r, atI_nat (j := 2) rfl, _, _, .type "tuple", .type "tuple", true, rfl, .ty "tuple", .base (.tup rc), kit_ty (by decide +kernel), _, rfl, iteF ?_⟩⟩⟩⟩
      refine ⟨by show 0 ≤ sizeLine; decide, fun L hL => ?_⟩
      have s1 := same_mk (o := .lst []) hL
      have hL1 := upd_same (H := H) (a := L) (o := .lst [])
      have nL := S.ne_new hL
      have fL : H L = none := hL
      generalize upd H L (.lst []) = H1 at s1 hL1 ⊢
      have cat := (osAt_iff.mp ccs).2
      refine ⟨_, rfl, p, _, 2, _, rfl, rfl, SqT.of (s1 _ _ r), atI_nat (j := 2) rfl, EE.for_enumE (v := .ref cp) ⟨cp, rfl, .inl (s1 _ _ rc)⟩ (fun i τ H' => ∃ (x4 x5 : Option V) (js : List Nat), τ = [some (.ref st), some plv, some (.ref p), some (.ref L), x4, x5] ∧ Same H H' ∧ H' L = some (.lst (js.map fun j : Nat => V.int (j : Int))) ∧ js.length ≤ i ∧ ∀ j ∈ js, ∃ c t, cs[j]? = some c ∧ trC c = some t ∧ fw [] t = none)
        ⟨none, none, [], rfl, s1, hL1, Nat.le_refl _, (fun j hj => by cases hj)⟩ (fun i τ H' ⟨x4, x5, js, _, s7, _⟩ b q e hq => ?_) ?_ ?_⟩
      · cases e
        have := s1 _ _ rc
        rw [hq] at this
        cases this
        exact s7 _ _ rc
      · rintro i x Tt _ H7 hi ⟨x4, x5, js, rfl, s7, hL7, jl, jo⟩ hx hT
        have ic : i < cs.length := by omega
        have hci : cs[i]? = some cs[i] := List.getElem?_eq_getElem ic
        have cx := cat i x cs[i] hx hci
        have mem : cs[i] ∈ cs := List.getElem_mem ic
        generalize cs[i] = c0 at hci cx mem
        have sT := same_mk (o := .tup [.int (i : Nat), x]) hT
        refine ⟨Tt, _, rfl, SqT.of upd_same, rfl, _, _, rfl, _, _, rfl, rfl, ?_⟩
        have s8 := s7.trans sT
        have hL8 := sT _ _ hL7
        generalize upd H7 Tt (.tup [.int (i : Nat), x]) = H8 at s8 hL8 ⊢
        cases et : trC c0 with
        | none =>
          cases c0 with
          | ok a t => cases et
          | ans d t => cases et
          | odd d =>
            cases (cx.but (But.same s8)).now with
            | no h =>
              rcases h with rfl | ⟨j, rfl⟩
              · exact ⟨_, rfl, _, _, .type "NoneType", .type "tuple", false, rfl, .ty "tuple", .base .non, kit_ty (by decide +kernel), _, rfl, iteF (iteF ⟨_, _, js, rfl, s8, hL8, Nat.le_succ_of_le jl, jo⟩)⟩
              · exact ⟨_, rfl, _, _, .type "int", .type "tuple", false, rfl, .ty "tuple", .base (.int j), kit_ty (by decide +kernel), _, rfl, iteF (iteF ⟨_, _, js, rfl, s8, hL8, Nat.le_succ_of_le jl, jo⟩)⟩
            | @len ca zs h n => exact ⟨_, rfl, _, _, .type "tuple", .type "tuple", true, rfl, .ty "tuple", .base (.tup h), kit_ty (by decide +kernel), _, rfl, iteT ⟨_, rfl, ca, _, rfl, .inr (SqT.of h), rfl, _, rfl, ifF (decide_eq_false fun z => n (by have := V.int.inj z; omega)) (iteF ⟨_, _, js, rfl, s8, hL8, Nat.le_succ_of_le jl, jo⟩)⟩⟩
        | some t0 =>
          obtain ⟨tp, av, tv, rfl, htp, htt, _⟩ := trC_at cx et
          obtain ⟨tok, w0, dp0, _⟩ := trC_ok (okS_mem.mp okc _ mem) et
          have dmem := depS_mem mem
          have h8 := s8 _ _ htp
          refine ⟨_, rfl, _, _, .type "tuple", .type "tuple", true, rfl, .ty "tuple", .base (.tup h8), kit_ty (by decide +kernel), _, rfl, iteT ⟨_, rfl, tp, _, rfl, .inr (SqT.of h8), rfl, _, rfl, ifT (decide_eq_true rfl) ⟨_, rfl, tp, _, 1, _, rfl, rfl, SqT.of h8, atI_nat (j := 1) rfl, by show 0 ≤ sizeLine; decide, fun D0 hD0 => ⟨by show 0 ≤ sizeLine; decide, fun p0 hp0 => ?_⟩⟩⟩⟩
          have sD := same_mk (o := .lst []) hD0
          have sp := same_mk (o := .tup []) hp0
          have s9 := (s8.trans sD).trans sp
          have hL9 := (sD.trans sp) _ _ hL8
          refine ⟨tv, D0, p0, t0, [], [], rfl, htt.up s9, tok, by omega, lks_nil (sp _ _ upd_same), (fun k hk => by cases hk), by show 0 + _ ≤ 50; omega, upd_same, by show 0 + _ ≤ 50; omega, fun rv HA sA hrv => ?_⟩
          have s0A := s9.trans sA
          have hLA := sA _ _ hL9
          cases ef : fw [] t0 with
          | some p' =>
            rw [ef] at hrv
            obtain ⟨rq, rfl, _⟩ := hrv
            exact ⟨_, rfl, iteF ⟨_, _, js, rfl, s0A, hLA, Nat.le_succ_of_le jl, jo⟩⟩
          | none =>
            rw [ef] at hrv
            obtain rfl : rv = .non := hrv
            refine ⟨_, rfl, iteT ⟨_, rfl, .inl ⟨rfl, _, SqL.of hLA⟩, _, rfl, L, _, _, rfl, rfl, hLA, by rw [List.length_map]; exact Nat.lt_of_le_of_lt (show js.length ≤ 1000 by omega) (by decide), ?_⟩⟩
            refine ⟨_, _, js ++ [i], rfl, fun b q e => ?_, ?_, by rw [List.length_append]; exact Nat.succ_le_succ jl, fun j hj => ?_⟩
            · rw [upd_ne fun z => by rw [z, fL] at e; cases e]
              exact s0A _ _ e
            · rw [upd_same, List.map_append]
              rfl
            · rcases List.mem_append.mp hj with hj | hj
              · exact jo j hj
              · rw [List.mem_singleton.mp hj]
                exact ⟨c0, t0, hci, et, ef⟩
      · rintro _ H7 ⟨x4, x5, js, rfl, s7, hL7, jl, jo⟩
        have B7 : But st l H H7 := But.same s7
        have S7 := S.up s7
        refine ⟨_, rfl, by show 0 ≤ sizeLine; decide, fun e1 he1 => ⟨L, e1, _, rfl, rfl, SqL.of (same_mk he1 _ _ hL7), SqL.of upd_same, _, rfl, ?_⟩⟩
        have se := same_mk (o := .lst []) he1
        have B8 := B7.trans (But.same se)
        have S8 := S7.up se
        have hL8 := se _ _ hL7
        generalize upd H7 e1 (.lst []) = H8 at B8 S8 hL8 ⊢
        have jp : (!(js.map fun j : Nat => V.int (j : Int)).isEmpty) = true → 0 < js.length := fun h => by
          cases js with
          | nil => cases h
          | cons => exact Nat.succ_pos _
        apply ifW (R := fun H9 => But st l H H9 ∧ ∃ c9, Strm H9 st l c9 ∧ c9 ≤ c + 1)
        · intro oth
          by_cases je : (!(js.map fun j : Nat => V.int (j : Int)).isEmpty) = true
          · refine ifT je ⟨_, rfl, st, l, c, 2, rfl, S8, by omega, by decide, by decide, fun d H9 d0 d1 B89 S9 => ⟨rfl, _, rfl, ?_⟩⟩
            have B9 := B8.trans B89
            by_cases e0 : d = 0
            · refine ifT (decide_eq_true (by rw [e0])) ?_
              have hL9 := B89 _ _ hL8 nL.1 nL.2
              refine ⟨_, rfl, _, rfl, .inl ⟨st, l, c + 1, L, _, rfl, S9, by omega, hL9, nL.1, nL.2, by rw [List.length_map]; exact jp je, by rw [List.length_map]; omega, fun j x HA hx B9A SA => ?_⟩⟩
              rw [List.getElem?_map] at hx
              cases hj : js[j]? with
              | none => rw [hj] at hx; cases hx
              | some i =>
              rw [hj] at hx
              cases hx
              obtain ⟨c0, t0, hci, et, ef⟩ := jo i (List.mem_of_getElem? hj)
              have BA := B9.trans B9A
              have TA := tup_but S BA
              obtain ⟨iC, _⟩ := List.getElem?_eq_some_iff.mp hci
              have iL : i < xs.length := by omega
              have mem := List.mem_of_getElem? hci
              have hxi : xs[i]? = some xs[i] := List.getElem?_eq_getElem iL
              have cx := cat i _ _ hxi hci
              obtain ⟨tp, av, tv, ex, htp, htt, back⟩ := trC_at cx et
              rw [ex] at hxi
              obtain ⟨tok, w0, dp0, okn⟩ := trC_ok (okS_mem.mp okc _ mem) et
              have dmem := depS_mem mem
              have wmem := wdS_mem mem
              have rA := TA _ _ r
              have rcA := TA _ _ rc
              have htA := TA _ _ htp
              refine ⟨_, rfl, p, _, 2, _, rfl, rfl, SqT.of rA, atI_nat (j := 2) rfl, _, rfl, cp, xs, (i : Int), .ref tp, rfl, rfl, SqT.of rcA, atI_nat hxi, tp, _, 0, _, rfl, rfl, SqT.of htA, atI_nat (j := 0) rfl, _, rfl, _, rfl, _, rfl, p, _, 2, _, rfl, rfl, SqT.of rA, atI_nat (j := 2) rfl, _, rfl, cp, xs, (i : Int), .ref tp, rfl, rfl, SqT.of rcA, atI_nat hxi, tp, _, 1, _, rfl, rfl, SqT.of htA, atI_nat (j := 1) rfl, plv, tv, t0, [], c + 2, rfl, htt.but TA BA, ef, tok, by omega, by omega, SA, by omega, fun v' t' HB cB ht' fx' okt' wt' dt' gr' BAB SB hcB => ⟨by show 2 ≤ sizeLine; decide, fun q hq => ?_⟩⟩
              have sq := same_mk (o := .tup [av, v']) hq
              have B6 := (BA.trans BAB).trans (But.same sq)
              have S6 := SB.up sq
              have T6 := tup_but S B6
              have hx8 := back _ q v' t' B6 T6 upd_same (ht'.up sq)
              generalize upd HB q (.tup [av, v']) = H6 at B6 S6 T6 hx8 ⊢
              have r6 := T6 _ _ r
              have rc6 := T6 _ _ rc
              obtain ⟨n1, n2, n3⟩ := okn t' okt'
              have cut1 : cutV xs none (some (i : Int)) = xs.take i := by
                unfold cutV
                rw [show HT.sIx xs.length xs.length (some (i : Int)) = min i xs.length from HT.sIx_nat _ _ i, Nat.min_eq_left (by omega)]
                rfl
              have cut2 : cutV xs (some ((i : Int) + 1)) none = xs.drop (i + 1) := by
                unfold cutV
                rw [show HT.sIx xs.length 0 (some ((i : Int) + 1)) = min (i + 1) xs.length from HT.sIx_nat _ _ (i + 1), Nat.min_eq_left (by omega)]
                exact List.take_of_length_le (by rw [List.length_drop]; exact Nat.le_refl _)
              refine ⟨_, rfl, p, _, 1, _, rfl, rfl, SqT.of r6, atI_nat (j := 1) rfl, _, rfl, p, _, 2, _, rfl, rfl, SqT.of r6, atI_nat (j := 2) rfl, _, rfl, (i : Int), rfl, cp, xs, rfl, SqT.of rc6, fun z => ?_, fun q1 hq1 => ?_⟩
              · have := z.2
                rw [show HT.sIx xs.length xs.length (some (i : Int)) = min i xs.length from HT.sIx_nat _ _ i] at this
                omega
              rw [cut1]
              have s1 := same_mk (o := .tup (xs.take i)) hq1
              refine ⟨_, rfl, by show 1 ≤ sizeLine; decide, fun q2 hq2 => ?_⟩
              have s2 := same_mk (o := .tup [.ref q]) hq2
              have s12 := s1.trans s2
              refine catA_all (s2 _ _ (upd_same (H := H6) (a := q1) (o := .tup (xs.take i)))) upd_same (Nat.le_trans (Nat.add_le_add_right (by rw [List.length_take]; omega : (xs.take i).length ≤ xs.length) _) lenL) fun q3 HC s3 hq3 => ?_
              have s13 := s12.trans s3
              refine ⟨_, rfl, p, _, 2, _, rfl, rfl, SqT.of (s13 _ _ r6), atI_nat (j := 2) rfl, _, rfl, _, _, rfl, rfl, _, rfl, cp, xs, rfl, SqT.of (s13 _ _ rc6), fun z => ?_, fun q4 hq4 => ?_⟩
              · have := z.1
                rw [show HT.sIx xs.length 0 (some ((i : Int) + 1)) = min (i + 1) xs.length from HT.sIx_nat _ _ (i + 1)] at this
                omega
              rw [cut2]
              have s4 := same_mk (o := .tup (xs.drop (i + 1))) hq4
              have s14 := s13.trans s4
              refine catA_all (s4 _ _ hq3) upd_same (by rw [List.length_append, List.length_take, List.length_drop]; refine Nat.le_trans ?_ lenL; show min i xs.length + 1 + (xs.length - (i + 1)) ≤ xs.length + 1; omega) fun q5 HE s5 hq5 => ?_
              have s15 := s14.trans s5
              refine ⟨_, rfl, p, _, 3, _, rfl, rfl, SqT.of (s15 _ _ r6), atI_nat (j := 3) rfl, by show 4 ≤ sizeLine; decide, fun q6 hq6 => ?_⟩
              have s6 := same_mk (o := .tup [.str "ask", .ref kp, .ref q5, ov]) hq6
              have s16 := s15.trans s6
              have BF := B6.trans (But.same s16)
              have TF := tup_but S BF
              obtain ⟨a1, a2, a3⟩ := ask_ok (cs' := setC cs i (chC t' c0)) (o' := o) ok0 wd (fun c hc => (setC_mem hc).elim .inl fun z => .inr (by rw [z]; exact ⟨n1, by omega, by omega⟩)) (by rw [setC_len iC]; exact Nat.le_succ _) okO0
              exact fin (.ref q6) (.ask kk (setC cs i (chC t' c0)) o) _ cB (.ask upd_same (TF _ _ rk) (s6 _ _ hq5) ((ccs.but TF BF).set (hx8.up s16)) (g.but TF BF)) a1 a2 a3 (grw_set hci (trC_grd et gr')) BF (S6.up s16) (by omega)
            · exact ifF (decide_eq_false fun z => e0 (V.int.inj z)) (oth _ ⟨B9, c + 1, S9, Nat.le_refl _⟩)
          · exact ifF (by simpa using je) (iteF (oth _ ⟨B8, c, S8, Nat.le_succ _⟩))
        · rintro H9 ⟨B9, c9, S9, hc9⟩
          have T9 := tup_but S B9
          have r9 := T9 _ _ r
          refine ⟨_, rfl, p, _, 3, _, rfl, rfl, SqT.of r9, atI_nat (j := 3) rfl, by show 0 ≤ sizeLine; decide, fun D0 hD0 => ⟨by show 0 ≤ sizeLine; decide, fun p0 hp0 => ?_⟩⟩
          have sD := same_mk (o := .lst []) hD0
          have sp := same_mk (o := .tup []) hp0
          have sDp := sD.trans sp
          refine ⟨ov, D0, p0, o, [], [], rfl, (g.but T9 B9).up sDp, oko, by omega, lks_nil (sp _ _ upd_same), (fun k hk => by cases hk), by show 0 + _ ≤ 50; omega, upd_same, by show 0 + _ ≤ 50; omega, fun rv HA sA hrv => ?_⟩
          have s9A := sDp.trans sA
          have BA := B9.trans (But.same s9A)
          have SA := S9.up s9A
          have TA := tup_but S BA
          have rA := TA _ _ r
          cases ef : fw [] o with
          | some p' =>
            rw [ef] at hrv
            obtain ⟨rq, rfl, _⟩ := hrv
            exact ⟨_, rfl, iteT ⟨_, rfl, fin (.ref p) (.ask kk cs o) HA c9 (.ask rA (TA _ _ rk) (TA _ _ rc) (ccs.but TA BA) (g.but TA BA)) ok0 (Nat.le_succ _) (Nat.le_succ _) (grd_rfl _) BA SA (by omega)⟩⟩
          | none =>
            rw [ef] at hrv
            obtain rfl : rv = .non := hrv
            refine ⟨_, rfl, iteF ⟨_, rfl, p, _, 1, _, rfl, rfl, SqT.of rA, atI_nat (j := 1) rfl, _, rfl, p, _, 2, _, rfl, rfl, SqT.of rA, atI_nat (j := 2) rfl, _, rfl, _, rfl, _, rfl, p, _, 3, _, rfl, rfl, SqT.of rA, atI_nat (j := 3) rfl, plv, ov, o, [], c9, rfl, g.but TA BA, ef, oko, by omega, by omega, SA, by omega, fun v' o' H2 c2 ho' fx' oko' wd' dp' gr' B2 S2 hc2 => ⟨by show 4 ≤ sizeLine; decide, fun q hq => ?_⟩⟩⟩
            have sq := same_mk (o := .tup [.str "ask", .ref kp, .ref cp, v']) hq
            have B3 := (BA.trans B2).trans (But.same sq)
            have T3 := tup_but S B3
            obtain ⟨a1, a2, a3⟩ := ask_ok (cs' := cs) (o' := o') ok0 wd (fun c hc => .inl hc) (Nat.le_succ _) ⟨oko', by omega, by omega⟩
            exact fin (.ref q) (.ask kk cs o') _ c2 (.ask upd_same (T3 _ _ rk) (T3 _ _ rc) (ccs.but T3 B3) (ho'.up sq)) a1 a2 a3 (grw_o gr') B3 (S2.up sq) (by omega)
end
end T6

set_option maxHeartbeats 3900000
namespace T6
open PySem PySem.Spec PyProof.Rows L2 TL RP
open C8 (pss_cut tCut pe_gc)
open CB XW LE LR FI
def spTIniX (K : PySem.W.Frag) (st l CBS C : Addr) (n : Nat) : Sp := fun vs H _ E => ∃ o dx v t p, vs = [.ref o, v] ∧ H o = some (.ins C dx []) ∧ OtAt K st l H v t ∧ OkO t ∧ depO t < n ∧ n ≤ 40 ∧ fw [] t = some p ∧ WantP CBS H p E
section
variable {P : Program} {w : World} {K : PySem.W.Frag} {mg : Str → Option Value} {base : Heap} {C CBS st l : Addr} {mt : Str → Addr}
theorem ok_tinix {n : Nat} {f fPT fUn : Addr} {fd fdPT fdUn : FuncData} (F : Fun K "__init__" "Step.__init__" sTIni f fd) (T : TB mg) (S0 : TCl K mg C mt) (aPT : At K mg "plain_tree" fPT fdPT ["thing", "place", "above"]) (GPT : FnOk P w K mg base (CX P w) (7 + n) fPT fdPT ["thing", "place", "above"] (spPTE K st l CBS n)) (aUn : At K mg "unordered" fUn fdUn ["tree"]) (GUn0 : FnOk P w K mg base CX0 n fUn fdUn ["tree"] (spUn w n)) : FnOk P w K mg base (CX P w) (7 + n + 1) f fd ["self", "tree"] (spTIniX K st l CBS C n) := by
  have GUn := toX GUn0
  refine F.okX scTIni (fun vs H Q E h => ?_) (fun cdv A outer s H vs Q E hr h => ?_)
  · obtain ⟨o, dx, v, t, p, rfl, _⟩ := h
    rfl
  · obtain ⟨o, dx, v, t, p, rfl, ho, ht, ok, hd, hn, ef, want⟩ := h
    have hrN : ∀ m, m ≤ 7 + n → Room m (A.deeper (envOfC "Step.__init__" (defScope sTIni) s.heap.objs.size f cdv)) := fun m h => hr.mono h
    refine ⟨_, pss_cons (ps_fld (pv 0) (pe_call GPT (hrN _ (by omega)) rfl aPT.m aPT.k aPT.b .nil (passes_call (takes_of rfl rfl rfl rfl) (fun _ _ _ _ h => h)) (pa_cons (pv 1) (pa_cons (pe_tup pa_nil) (pa_cons (pe_tup pa_nil) pa_nil)))) rfl)
            (pss_one (ps_fld (pv 0) (pe_call GUn (hrN _ (by omega)) rfl aUn.m aUn.k aUn.b .nil (passes_call (takes_of rfl rfl rfl rfl) (fun _ _ _ _ h => h)) (pa_cons (pe_fld (pv 0) rfl) pa_nil)) rfl)), ?_⟩
    refine ⟨_, rfl, by show 0 ≤ sizeLine; decide, fun p1 hp1 => ⟨by show 0 ≤ sizeLine; decide, fun p2 hp2 => ?_⟩⟩
    have s1 := same_mk (o := .tup []) hp1
    have s2 := same_mk (o := .tup []) hp2
    have s12 := s1.trans s2
    exact ⟨v, p1, p2, t, [], [], [], p, rfl, ht.up s12, ok, hd, s2 _ _ upd_same, by show 0 + depO t ≤ 50; omega, upd_same, ⟨rfl, fun i x k h => by simp at h⟩, by show 0 + depO t ≤ 50; omega, fun k hk => by simp at hk, ef, want.up s12⟩
def spTIni2 (w : World) (K : PySem.W.Frag) (st l CBS C : Addr) (n : Nat) : Sp := fun vs H Q E => spTIni w C n vs H Q E ∨ spTIniX K st l CBS C n vs H Q E
theorem ok_tini2 {n : Nat} {f : Addr} {fd : FuncData} (G1 : FnOk P w K mg base CX0 (7 + n + 1) f fd ["self", "tree"] (spTIni w C n)) (G2 : FnOk P w K mg base (CX P w) (7 + n + 1) f fd ["self", "tree"] (spTIniX K st l CBS C n)) : FnOk P w K mg base (CX P w) (7 + n + 1) f fd ["self", "tree"] (spTIni2 w K st l CBS C n) := FnOk_or (toX G1) G2
end
end T6

set_option maxHeartbeats 3900000
namespace T6
open PySem PySem.Spec PyProof.Rows L2 TL RP
open C8 (pss_cut tCut pe_gc)
open CB XW LE LR FI
mutual
def em : Tr → OT
  | .fin z => .fin z
  | .ask k cs o => .ask k (emC cs) (em o)
def emC : Cs → Os
  | [] => []
  | (a, t) :: r => .ok a (em t) :: emC r
end
theorem em_ask (k : Lk) (cs : Cs) (o : Tr) : em (.ask k cs o) = .ask k (emC cs) (em o) := by simp [em]
theorem emC_cons (a : An) (t : Tr) (r : Cs) : emC ((a, t) :: r) = .ok a (em t) :: emC r := by simp [emC]
theorem emC_len : ∀ cs : Cs, (emC cs).length = cs.length
  | [] => by simp [emC]
  | (a, t) :: r => by rw [emC_cons, List.length_cons, List.length_cons, emC_len r]
section
variable {K : PySem.W.Frag} {st l : Addr} {H : Hp}
mutual
theorem em_at : ∀ {v : V} {t : Tr}, TrAt H v t → OtAt K st l H v (em t)
  | _, _, .fin (z := z) r => by
    rw [show em (.fin z) = .fin z by simp [em]]
    exact .fin r
  | _, _, .ask r rk rc c t => by
    rw [em_ask]
    exact .ask r rk rc (emC_at c) (em_at t)
theorem emC_at : ∀ {v : List V} {t : Cs}, CsAt H v t → OsAt K st l H v (emC t)
  | _, _, .nil => by
    rw [show emC [] = [] by simp [emC]]
    exact .nil
  | _, _, .cons r ha ht c => by
    rw [emC_cons]
    exact .ok r ha (em_at ht) (emC_at c)
end
end
mutual
theorem em_ok {zs : List Str} : ∀ (t : Tr) (ab : List Lk), OkT ab t → OnT zs t → OkO (em t) ∧ wdO (em t) ≤ 3 ∧ depO (em t) ≤ dep t ∧ fw ab (em t) = none
  | .fin z, ab, _, _ => by
    rw [show em (.fin z) = .fin z by simp [em]]
    exact ⟨trivial, Nat.zero_le _, Nat.zero_le _, fw_fin⟩
  | .ask k cs o, ab, ok, on => by
    rw [em_ask]
    obtain ⟨on1, on2, on3, on4⟩ := on
    obtain ⟨k1, k2, k3, k4, k5, k6⟩ := ok
    obtain ⟨a1, a2, a3, a4⟩ := em_ok o (ab ++ [k]) k6 on4
    obtain ⟨b1, b2, b3, b4⟩ := emC_ok cs ab k [] 0 k5 on3 k3 (fun a _ h => by cases h)
    have hl := emC_len cs
    refine ⟨⟨k1, by omega, b1, a1⟩, ?_, ?_, ?_⟩
    · rw [wd_ask]
      omega
    · rw [dep_ask]
      show _ ≤ max (depC cs) (dep o) + 1
      omega
    · rw [fw_o k2 b4, a4]
      rfl
theorem emC_ok {zs : List Str} : ∀ (cs : Cs) (ab : List Lk) (k : Lk) (seen : List An) (i : Nat), OkC ab k cs → OnC zs cs → (cs.map (·.1)).Nodup → (∀ a ∈ cs.map (·.1), a ∉ seen) → OkS k (emC cs) ∧ wdS (emC cs) ≤ 3 ∧ depS (emC cs) ≤ depC cs ∧ fwC (ab ++ [k]) seen i (emC cs) = none
  | [], ab, k, seen, i, _, _, _, _ => by
    rw [show emC [] = [] by simp [emC]]
    exact ⟨trivial, Nat.zero_le _, Nat.zero_le _, fwC_nil⟩
  | (a, t) :: r, ab, k, seen, i, ok, on, nd, ns => by
    rw [emC_cons]
    rw [List.map_cons] at nd ns
    obtain ⟨n1, n2⟩ := List.nodup_cons.mp nd
    obtain ⟨a1, a2, a3, a4⟩ := em_ok t (ab ++ [k]) ok.2.1 on.2.1
    have ms : a ∉ seen := ns a List.mem_cons_self
    obtain ⟨b1, b2, b3, b4⟩ := emC_ok r ab k (seen ++ [a]) (i + 1) ok.2.2 on.2.2 n2 (fun x hx h => by
      rcases List.mem_append.mp h with h | h
      · exact ns x (List.mem_cons_of_mem _ hx) h
      · rw [List.mem_singleton.mp h] at hx
        exact n1 hx)
    refine ⟨⟨⟨ok.1, a1⟩, b1⟩, ?_, ?_, ?_⟩
    · rw [wdS_cons]
      show max (wdO (em t)) _ ≤ 3
      omega
    · rw [depS_cons]
      show max (depO (em t)) _ ≤ max (dep t) (depC r)
      omega
    · rw [fwC_next ms a4]
      exact b4
end
mutual
theorem em_D : ∀ t : Tr, otD (em t) = trD t
  | .fin z => by
    rw [show em (.fin z) = .fin z by simp [em], fin_d]
    unfold trD
    rfl
  | .ask k cs o => by
    rw [em_ask]
    conv => lhs; unfold otD
    conv => rhs; unfold trD
    rw [emC_D cs, em_D o]
theorem emC_D : ∀ cs : Cs, osD (emC cs) = csD cs
  | [] => by simp [emC, osD, csD]
  | (a, t) :: r => by
    rw [emC_cons]
    conv => lhs; unfold osD
    conv => rhs; unfold csD
    rw [em_D t, emC_D r]
end
def Shw (t : OT) (dep n : Nat) : Prop := (otD t).showable = true ∧ (otD t).depth ≤ dep ∧ szD (otD t) ≤ n
theorem Shw.grw {t t' : OT} {d n : Nat} (h : Shw t d n) (g : Grw t t') : Shw t' (d + 2) (2 * n + 1000) := ⟨g.1 h.1, by have := g.2.1; have := h.2.1; omega, by have := g.2.2; have := h.2.2; omega⟩
theorem Shw.le {t : OT} {d n d' n' : Nat} (h : Shw t d n) (h1 : d ≤ d') (h2 : n ≤ n') : Shw t d' n' := ⟨h.1, Nat.le_trans h.2.1 h1, Nat.le_trans h.2.2 h2⟩
theorem em_shw {zs : List Str} (nm : ∀ y ∈ zs, IsNm y) {t : Tr} (on : OnT zs t) (ok : OkT [] t) (h : dep t ≤ 4) : Shw (em t) 13 800000 := by
  have f := tr_fine nm t 4 [] on ok h
  unfold Shw
  rw [em_D]
  exact ⟨f.sh, f.dp, Nat.le_trans f.sz (by decide)⟩
theorem plV_dq {K : PySem.W.Frag} {H : Hp} : ∀ p : List Nat, DqAll K H (plV p) (p.map fun i : Nat => PyData.int (i : Int))
  | [] => .nil
  | i :: r => .cons (.int _) (plV_dq r)
def wyD : Option (List Nat) → PyData
  | none => .none
  | some p => .tuple (p.map fun i : Nat => PyData.int (i : Int))
theorem fwr_dq {K : PySem.W.Frag} {H : Hp} {r : V} {o : Option (List Nat)} (h : FwR H r [] o) : Dq K H r (wyD o) := by
  cases o with
  | none => cases (show r = .non from h); exact .non
  | some p =>
    obtain ⟨q, rfl, h⟩ := h
    exact .tup h (plV_dq p)
mutual
theorem fw_len : ∀ (t : OT) (ab : List Lk) (p : List Nat), OkO t → fw ab t = some p → p.length ≤ depO t + 1 ∧ ∀ i ∈ p, i ≤ 20
  | .fin z, ab, p, _, e => by rw [fw_fin] at e; cases e
  | .bad d, ab, p, _, e => by
    rw [fw_bad] at e
    cases e
    exact ⟨Nat.zero_le _, fun i h => by cases h⟩
  | .ask k cs o, ab, p, ok, e => by
    obtain ⟨lok, cl, okc, oko⟩ := ok
    rw [dep_ask]
    by_cases h : k ∈ ab
    · rw [fw_rep h] at e
      cases e
      exact ⟨Nat.zero_le _, fun i h => by cases h⟩
    cases ec : fwC (ab ++ [k]) [] 0 cs with
    | some q =>
      rw [fw_cs h ec] at e
      cases e
      obtain ⟨h1, h2⟩ := fwC_len cs k (ab ++ [k]) [] 0 p okc (by omega) ec
      exact ⟨by omega, h2⟩
    | none =>
      rw [fw_o h ec] at e
      cases eo : fw (ab ++ [k]) o with
      | none => rw [eo] at e; cases e
      | some q =>
        rw [eo] at e
        cases e
        obtain ⟨h1, h2⟩ := fw_len o (ab ++ [k]) q oko eo
        refine ⟨by rw [List.length_cons]; omega, fun i hi => ?_⟩
        rcases List.mem_cons.mp hi with rfl | hi
        · exact cl
        · exact h2 i hi
theorem fwC_len : ∀ (cs : Os) (k : Lk) (ab : List Lk) (seen : List An) (i : Nat) (p : List Nat), OkS k cs → i + cs.length ≤ 20 → fwC ab seen i cs = some p → p.length ≤ depS cs + 2 ∧ ∀ i ∈ p, i ≤ 20
  | [], k, ab, seen, i, p, _, _, e => by rw [fwC_nil] at e; cases e
  | .odd d :: r, k, ab, seen, i, p, _, hi, e => by
    rw [fwC_odd] at e
    cases e
    exact ⟨by show 1 ≤ _; omega, fun j hj => by rw [List.mem_singleton.mp hj]; omega⟩
  | .ans d t :: r, k, ab, seen, i, p, _, hi, e => by
    rw [fwC_ans] at e
    cases e
    exact ⟨by show 1 ≤ _; omega, fun j hj => by rw [List.mem_singleton.mp hj]; omega⟩
  | .ok a t :: r, k, ab, seen, i, p, ok, hi, e => by
    rw [depS_cons]
    rw [List.length_cons] at hi
    by_cases h : a ∈ seen
    · rw [fwC_rep h] at e
      cases e
      exact ⟨by show 1 ≤ _; omega, fun j hj => by rw [List.mem_singleton.mp hj]; omega⟩
    cases et : fw ab t with
    | some q =>
      rw [fwC_in h et] at e
      cases e
      obtain ⟨h1, h2⟩ := fw_len t ab q ok.1.2 et
      refine ⟨by rw [List.length_cons]; show _ ≤ max (depO t) _ + 2; omega, fun j hj => ?_⟩
      rcases List.mem_cons.mp hj with rfl | hj
      · omega
      · exact h2 j hj
    | none =>
      rw [fwC_next h et] at e
      obtain ⟨h1, h2⟩ := fwC_len r k ab (seen ++ [a]) (i + 1) p ok.2 (by omega) e
      exact ⟨by omega, h2⟩
end
theorem wy_fine {t : OT} (ok : OkO t) (h : depO t ≤ 10) {o : Option (List Nat)} (e : fw [] t = o) : Fine (wyD o) 20 1000000 := by
  cases o with
  | none => exact fine_non.up (by decide) (by decide)
  | some p =>
    obtain ⟨h1, h2⟩ := fw_len t [] p ok e
    refine (Fine.tup (dep := 0) (n := 100) (m := 2000) (fun d hd => ?_) ?_).up (by decide) (by decide)
    · obtain ⟨i, hi, rfl⟩ := List.mem_map.mp hd
      have hi := h2 i hi
      have w : (List.range 21).all (fun i => (PyData.int (i : Int)).showable && decide ((PyData.int (i : Int)).depth ≤ 0) && decide ((PyData.int (i : Int)).shown.length ≤ 100)) = true := by decide +kernel
      have := List.all_eq_true.mp w i (List.mem_range.mpr (by omega))
      simp only [Bool.and_eq_true, decide_eq_true_eq] at this
      exact ⟨this.1.1, this.1.2, this.2⟩
    · rw [List.length_map]
      have := Nat.mul_le_mul_right (100 + 2) (show p.length ≤ 11 by omega)
      omega
end T6

set_option maxHeartbeats 3900000
namespace T6
open PySem PySem.Spec PyProof.Rows L2 TL
open C8 (pss_cut tCut pe_gc)
open CB XW LE LR RP FI
def exA (sp : Addr → Addr → Sp) : Sp := fun vs H Q E => ∃ st l, sp st l vs H Q E
theorem exA_of {P : Program} {w : World} {K : PySem.W.Frag} {mg : Str → Option Value} {base : Heap} {CX : CXT} {k : Nat} {f : Addr} {fd : FuncData} {ps : List Str} {sp : Addr → Addr → Sp} (h : ∀ st l, FnOk P w K mg base CX k f fd ps (sp st l)) : FnOk P w K mg base CX k f fd ps (exA sp) :=
  ⟨fun vs H Q E ⟨st, l, q⟩ => (h st l).len vs H Q E q, fun A outer s H args us vs Q E hr he hb hv ⟨st, l, q⟩ => (h st l).run A outer s H args us vs Q E hr he hb hv q⟩
theorem exA_un {P : Program} {w : World} {K : PySem.W.Frag} {mg : Str → Option Value} {base : Heap} {CX : CXT} {k : Nat} {f : Addr} {fd : FuncData} {ps : List Str} {sp : Addr → Addr → Sp} (F : FnOk P w K mg base CX k f fd ps (exA sp)) (st l : Addr) : FnOk P w K mg base CX k f fd ps (sp st l) := F.imp fun vs H Q E h => ⟨st, l, h⟩
def spIEXA (K : PySem.W.Frag) : Sp := exA (spIEX K)
def spLoAXA (K : PySem.W.Frag) : Sp := exA (spLoAX K)
def spPTEA (K : PySem.W.Frag) (CBS : Addr) : Sp := exA fun st l => spPTE K st l CBS 7
def spFWA (K : PySem.W.Frag) : Sp := exA fun st l => spFW K st l 8
def spSpoA (K : PySem.W.Frag) : Sp := exA fun st l => spSpo K st l 7
def spSpmA (K : PySem.W.Frag) : Sp := exA fun st l => spSpm K st l 7
def spTIniA (w : World) (K : PySem.W.Frag) (CBS C : Addr) : Sp := exA fun st l => spTIni2 w K st l CBS C 7
section
variable {P : Program} {w : World} {K : PySem.W.Frag} {mg : Str → Option Value} {base : Heap} {C CBS fBS : Addr} {fdBS : FuncData} {mt : Str → Addr}
theorem ok_iexA {f fR : Addr} {fd fdR : FuncData} (F : Fun K "is_end" "is_end" sIE f fd) (T : TB mg) (aRow : At K mg "is_row" fR fdR ["thing", "size"]) (GRow : FnOk P w K mg base CX0 1 fR fdR ["thing", "size"] spRow2) : FnOk P w K mg base CX0 2 f fd ["thing"] (spIEXA K) := by exact exA_of fun st l => ok_iex F T aRow GRow
theorem ok_loaxA {f fR fL : Addr} {fd fdR fdL : FuncData} (F : Fun K "look_of_ask" "look_of_ask" sLoA f fd) (T : TB mg) (aRow : At K mg "is_row" fR fdR ["thing", "size"]) (GRow : FnOk P w K mg base CX0 1 fR fdR ["thing", "size"] spRow2) (aAsLook : At K mg "as_look" fL fdL ["thing"]) (GAsLook : FnOk P w K mg base CX0 5 fL fdL ["thing"] spAsLook2) : FnOk P w K mg base CX0 6 f fd ["thing"] (spLoAXA K) := by exact exA_of fun st l => ok_loax F T aRow GRow aAsLook GAsLook
theorem ok_pt7 {f fE fL fS fR : Addr} {fd fdE fdL fdS fdR : FuncData} (F : Fun K "plain_tree" "plain_tree" sPT f fd) (T : TB mg) (aPT : At K mg "plain_tree" f fd ["thing", "place", "above"]) (aIsE : At K mg "is_end" fE fdE ["thing"]) (GIsE : FnOk P w K mg base CX0 2 fE fdE ["thing"] spIE) (aLoA : At K mg "look_of_ask" fL fdL ["thing"]) (GLoA : FnOk P w K mg base CX0 6 fL fdL ["thing"] spLoA) (aAsSight : At K mg "as_sight" fS fdS ["thing"]) (GAsSight : FnOk P w K mg base CX0 6 fS fdS ["thing"] spAsSight) (aRow : At K mg "is_row" fR fdR ["thing", "size"]) (GRow : FnOk P w K mg base CX0 1 fR fdR ["thing", "size"] spRow) : FnOk P w K mg base CX0 14 f fd ["thing", "place", "above"] (spPT 7) := ok_pt F T aPT aIsE GIsE aLoA GLoA aAsSight GAsSight aRow GRow 7
theorem ok_un7 {f : Addr} {fd : FuncData} (F : Fun K "unordered" "unordered" sUn f fd) (T : TB mg) (aUn : At K mg "unordered" f fd ["tree"]) : FnOk P w K mg base CX0 7 f fd ["tree"] (spUn w 7) := ok_un F T aUn 7
theorem ok_ltree5 {f fD fL fS : Addr} {fd fdD fdL fdS : FuncData} (F : Fun K "_law_tree" "_law_tree" sLTree f fd) (T : TB mg) (aD : aD' K mg fD fdD) (GD : FnOk P w K mg base CX0 1 fD fdD ["_law_stream", "_law_many"] spDraw) (aLooks : At K mg "_law_looks" fL fdL ["_law_stream", "_law_pool_here", "_law_many"]) (GLooks : FnOk P w K mg base CX0 5 fL fdL ["_law_stream", "_law_pool_here", "_law_many"] spLooks) (aSo : At K mg "_law_some_answer" fS fdS ["_law_stream", "_law_pool_here", "_law_look_here"]) (GSo : FnOk P w K mg base CX0 3 fS fdS ["_law_stream", "_law_pool_here", "_law_look_here"] spSome) (aLTree : At K mg "_law_tree" f fd ["_law_stream", "_law_pool_here", "_law_looks_here", "_law_most"]) : FnOk P w K mg base CX0 11 f fd ["_law_stream", "_law_pool_here", "_law_looks_here", "_law_most"] (spLTree 5) := ok_ltree F T aD GD aLooks GLooks aSo GSo aLTree 5
theorem ok_pte7 {f fE fL fS fR : Addr} {fd fdE fdL fdS fdR : FuncData} (F : Fun K "plain_tree" "plain_tree" sPT f fd) (T : TB mg) (BBSt : BSt K mg CBS fBS) (bBBSt : L2.Binds K fdBS ["self", "place"] []) (GBBSt : FnOk P w K mg base CX0 1 fBS fdBS ["self", "place"] (spEIni "place" CBS)) (aPT : At K mg "plain_tree" f fd ["thing", "place", "above"]) (aIsE : At K mg "is_end" fE fdE ["thing"]) (GIsE : FnOk P w K mg base CX0 2 fE fdE ["thing"] (spIEXA K)) (aLoA : At K mg "look_of_ask" fL fdL ["thing"]) (GLoA : FnOk P w K mg base CX0 6 fL fdL ["thing"] (spLoAXA K)) (aAsSight : At K mg "as_sight" fS fdS ["thing"]) (GAsSight : FnOk P w K mg base CX0 6 fS fdS ["thing"] spAsSight2) (aRow : At K mg "is_row" fR fdR ["thing", "size"]) (GRow : FnOk P w K mg base CX0 1 fR fdR ["thing", "size"] spRow2) (GIsE1 : FnOk P w K mg base CX0 2 fE fdE ["thing"] spIE) (GLoA1 : FnOk P w K mg base CX0 6 fL fdL ["thing"] spLoA) (GAsSight1 : FnOk P w K mg base CX0 6 fS fdS ["thing"] spAsSight) (GRow1 : FnOk P w K mg base CX0 1 fR fdR ["thing", "size"] spRow) : FnOk P w K mg base (CX P w) 14 f fd ["thing", "place", "above"] (spPTEA K CBS) := by exact exA_of fun st l => ok_pte F T BBSt bBBSt GBBSt aPT (ok_pt F T aPT aIsE GIsE1 aLoA GLoA1 aAsSight GAsSight1 aRow GRow1) aIsE (exA_un GIsE st l) aLoA (exA_un GLoA st l) aAsSight GAsSight aRow GRow 7
theorem ok_lfw8 {f fI fC : Addr} {fd fdI fdC : FuncData} (F : Fun K "_law_first_wrong" "_law_first_wrong" sLFw f fd) (T : TB mg) (aLIrl : At K mg "_law_is_right_look" fI fdI ["_law_look_here"]) (GLIrl : FnOk P w K mg base CX0 1 fI fdI ["_law_look_here"] spLIrl) (aLCan : At K mg "_law_can_have" fC fdC ["_law_look_here", "_law_answer"]) (GLCan : FnOk P w K mg base CX0 1 fC fdC ["_law_look_here", "_law_answer"] spLCan) (aLFw : At K mg "_law_first_wrong" f fd ["_law_tree_here", "_law_looks_here", "_law_at"]) : FnOk P w K mg base CX0 11 f fd ["_law_tree_here", "_law_looks_here", "_law_at"] (spFWA K) := by exact (exA_of fun st l => ok_lfw F T aLIrl GLIrl aLCan GLCan aLFw 8).mono (by decide)
theorem ok_lspo7 {f fD fO fP : Addr} {fd fdD fdO fdP : FuncData} (F : Fun K "_law_spoiled" "_law_spoiled" sLSpo f fd) (T : TB mg) (aD : aD' K mg fD fdD) (GD : FnOk P w K mg base CX0 1 fD fdD ["_law_stream", "_law_many"] spDraw) (aP : At K mg "_law_pick" fP fdP ["_law_stream", "_law_things"]) (GP : FnOk P w K mg base CX0 2 fP fdP ["_law_stream", "_law_things"] spPick) (aLOdd : At K mg "_law_odd_tree" fO fdO ["_law_stream"]) (GLOdd : FnOk P w K mg base CX0 3 fO fdO ["_law_stream"] (spLOdd K)) (aLSpo : At K mg "_law_spoiled" f fd ["_law_stream", "_law_pool_here", "_law_tree_here"]) : FnOk P w K mg base CX0 11 f fd ["_law_stream", "_law_pool_here", "_law_tree_here"] (spSpoA K) := by exact exA_of fun st l => ok_lspo F T aD GD aP GP aLOdd GLOdd aLSpo 7
theorem ok_lspm7 {f fD fW fP fS : Addr} {fd fdD fdW fdP fdS : FuncData} (F : Fun K "_law_spoiled_more" "_law_spoiled_more" sLSpm f fd) (T : TB mg) (aD : aD' K mg fD fdD) (GD : FnOk P w K mg base CX0 1 fD fdD ["_law_stream", "_law_many"] spDraw) (aP : At K mg "_law_pick" fP fdP ["_law_stream", "_law_things"]) (GP : FnOk P w K mg base CX0 2 fP fdP ["_law_stream", "_law_things"] spPick) (aLFw : At K mg "_law_first_wrong" fW fdW ["_law_tree_here", "_law_looks_here", "_law_at"]) (aLSpo : At K mg "_law_spoiled" fS fdS ["_law_stream", "_law_pool_here", "_law_tree_here"]) (GLFw : FnOk P w K mg base CX0 11 fW fdW ["_law_tree_here", "_law_looks_here", "_law_at"] (spFWA K)) (GLSpo : FnOk P w K mg base CX0 11 fS fdS ["_law_stream", "_law_pool_here", "_law_tree_here"] (spSpoA K)) : FnOk P w K mg base CX0 12 f fd ["_law_stream", "_law_pool_here", "_law_tree_here"] (spSpmA K) := by exact exA_of fun st l => ok_lspm F T aD GD aP GP aLFw aLSpo 7 (exA_un GLFw st l) (exA_un GLSpo st l)
theorem ok_tini7 {f fPT fUn : Addr} {fd fdPT fdUn : FuncData} (F : Fun K "__init__" "Step.__init__" sTIni f fd) (T : TB mg) (S0 : TCl K mg C mt) (BBSt : BSt K mg CBS fBS) (aPT : At K mg "plain_tree" fPT fdPT ["thing", "place", "above"]) (GPT : FnOk P w K mg base CX0 14 fPT fdPT ["thing", "place", "above"] (spPT 7)) (GPTE : FnOk P w K mg base (CX P w) 14 fPT fdPT ["thing", "place", "above"] (spPTEA K CBS)) (aUn : At K mg "unordered" fUn fdUn ["tree"]) (GUn : FnOk P w K mg base CX0 7 fUn fdUn ["tree"] (spUn w 7)) : FnOk P w K mg base (CX P w) 15 f fd ["self", "tree"] (spTIniA w K CBS C) := by exact exA_of fun st l => ok_tini2 (n := 7) (ok_tini (n := 7) F T S0 aPT GPT aUn GUn) (ok_tinix (n := 7) F T S0 aPT (exA_un GPTE st l) aUn GUn)
end
end T6

set_option maxHeartbeats 3900000
namespace TA
open PySem PySem.Spec PyProof.Rows L2
abbrev Suit := Addr → Value → Option Addr → TS
def gone (i : Nat) (D : Ends) : Ends where
  nx := fun a b => D.nx (a.set i none) b
  rt := D.rt
  bk := fun a b => D.bk (a.set i none) b
  ct := fun a b => D.ct (a.set i none) b
def wEach (K : PySem.W.Frag) (i : Nat) (Wout : WX) (D : Ends) : List (Value × Suit) → WX
  | [] => Wout
  | one :: more => fun cls d τ G => ∃ hit, PySem.W.exmOne K cls one.1 = some hit ∧
      (hit = true → ∀ a, G a = none → one.2 a cls d (gone i D) (τ.set i (some (.ref a))) G) ∧
      (hit = false → wEach K i Wout D more cls d τ G)
inductive Clauses (X : Cx) (n : Str) : List ExceptHandler → List (Value × Suit) → Prop
  | nil : Clauses X n [] []
  | cons {x : Str} {cl : Value} {ts : Suit} {b1 : Stmt} {bs : List Stmt} {q1 q2 : Pos} {hs : List ExceptHandler} {l : List (Value × Suit)}
      (nm : Names X x cl)
      (su : ∀ (a : Addr) (ob : Obj) (cls : Value) (d : Option Addr) (pn : List (Addr × Obj)), Zc cls d ob → (∃ fs, ob.data = .fields fs) → PSs (X.suite a ((a, ob) :: pn)) (b1 :: bs) (ts a cls d))
      (rest : Clauses X n hs l) : Clauses X n (.ExceptHandler (some (.Name x q1)) (some n) (b1 :: bs) q2 :: hs) ((cl, ts) :: l)
section
variable {X : Cx} {n : Str} {i : Nat} {body : List Stmt} {c0 : ExceptHandler} {cs : List ExceptHandler} {l : List (Value × Suit)} {pos : Pos} {tb : WX → TS} {Wout : WX}
theorem ps_try_each (hs : X.stack = X.env :: X.outer) (hf : X.env.frame = some X.env.locals) (nd : X.N.Nodup) (hi : X.N[i]? = some n) (hl : X.env.kindOf n = some .local) (tk : Takes X Wout)
    (hb : ∀ (W : WX) (pn : List (Addr × Obj)) (xe : Value → Shared → Prop), Takes (X.tr pn xe) W → PassesOwn (model X.prog X.w) X.A X.env xe → PSs (X.tr pn xe) body (tb W))
    (hc : Clauses X n (c0 :: cs) l) : PS X (.Try body (c0 :: cs) [] [] pos) (fun D σ H => tb (wEach X.K i Wout D l) D σ H) := by
  constructor
  intro pins s σ H D I h
  have ok := I.ok
  have frames : X.A.frames = some (X.env :: X.outer) := ok.frames.trans (congrArg some hs)
  let look : Value → Shared → Prop := fun e s1 => wpAny (model X.prog X.w) X.A (noteFrame e X.env) (fun _ s2 =>
    wpAny (model X.prog X.w) X.A (setFlight e none) (fun _ s3 =>
      wpAny (model X.prog X.w) X.A (handleBy e X.env (c0 :: cs)) (SP X pins D) X.xe s3) X.xe s2) X.xe s1
  have caught : Takes (X.tr (X.pn ++ pins) look) (wEach X.K i Wout D l) := by
    rintro u t ⟨a, B, sI, pins2, τ, G, cls, d, rfl, Jt, nb, up, sky, na, eos, bare, want⟩
    have J : Inv X pins τ G sI := Jt.ofTry ok
    have sky2 : Sky B (X.env :: X.outer) a (Zc cls d) X.env.locals t.heap := hs ▸ sky
    show wpAny (model X.prog X.w) X.A (noteFrame (.ref a) X.env) _ _ _
    refine Sky.land Zc.steady frames hf sky2 fun g fly upg => ?_
    have Jg : Inv X pins τ G { t with heap := g } := J.landed nb fly.1 (up.trans upg) eos bare
    obtain ⟨ob, fs, hob, hzc, hdat⟩ := fly.there
    have notIn : a ∉ frs (X.env :: X.outer) := by
      intro m
      obtain ⟨_, o2, e2, no⟩ := fly.2.2.1.mem m
      rw [hob] at e2
      exact no fs (Option.some.inj e2 ▸ hdat)
    have neL : a ≠ X.env.locals := by
      rintro rfl
      exact notIn (List.mem_filterMap.mpr ⟨X.env, List.mem_cons_self, hf⟩)
    have neF : a ∉ X.fs := by
      intro m
      obtain ⟨ev, hev, q⟩ := List.mem_filterMap.mp m
      exact notIn (List.mem_filterMap.mpr ⟨ev, List.mem_cons_of_mem _ hev, q⟩)
    have key : ∀ {cs2 : List ExceptHandler} {l2 : List (Value × Suit)}, Clauses X n cs2 l2 → wEach X.K i Wout D l2 cls d τ G →
        wpAny (model X.prog X.w) X.A (handleBy (.ref a) X.env cs2) (SP X pins D) X.xe { t with heap := g } := by
      intro cs2 l2 C
      induction C with
      | nil =>
        intro want2
        apply wpAny_handleBy_nil
        obtain ⟨_, _, _, o3, fs3, T, _, _, e3, _, d3, v3, _⟩ := id fly
        have on : wpAny (model X.prog X.w) X.A (setFlight (.ref a) X.env.frame) (fun _ s4 => wpAny (model X.prog X.w) X.A (throw (.ref a) : Sem Flow) (SP X pins D) X.xe s4) X.xe { t with heap := g } := by
          rw [hf]
          exact HandSPX.setFlight_upZ fly fun g4 held up4 => wpAny_throw (tk _ _ ⟨a, B, sI, pins, τ, G, cls, d, rfl, J, nb, (up.trans upg).trans up4, .inr (.inr (hs.symm ▸ held)), na, eos, bare, want2⟩)
        unfold PySem.passOn
        refine wpAny_bind (wpAny_field e3 d3 v3 ?_)
        have nn : ¬ ((Value.ref T == Value.none) = true) := by simp
        rw [if_neg nn]
        first
          | exact wpAny_bind on
          | exact wpAny_bind (wpAny_pure (wpAny_bind on))
      | @cons x cl ts b1 bs q1 q2 hs3 l3 nm su rest ih =>
        rintro ⟨hit, isHit, yes, no⟩
        have sut := Jg.suite hob hdat na neL neF
        have cname : ∀ {Q E : Value → Shared → Prop}, Q cl { t with heap := g } → wpAny (model X.prog X.w) (X.A.mark (some (.ref a))) (eval (.Name x q1) X.env) Q E { t with heap := g } := by
          intro Q E q
          obtain ⟨gl, dbg, m1 | ⟨m1, m2, m3⟩⟩ := nm
          · exact ld_glob (X := X.suite a ((a, ob) :: (X.pn ++ pins))) sut gl m1 q dbg
          · exact ld_blt (X := X.suite a ((a, ob) :: (X.pn ++ pins))) sut gl m1 m2 q m3 dbg
        have ofCls : PySem.W.Looks (model X.prog X.w) g (typeOf (.ref a)) cls := fun A Q E s k q => wpAny_typeOf_ref (k _ _ hob) (hzc.1 ▸ q)
        refine wpAny_handleBy_cons (codeAny_handlers_test (cname ((PySem.W.exm_one (M := model X.prog X.w) Jg.kIn ofCls isHit).here ?_))) (by intro q; cases q)
        match hit, yes, no with
        | false, _, no => exact ih (no rfl)
        | true, yes, _ =>
          apply codeAny_handlers_suite_as
          refine HandSPX.lands_againZ fly fun g4 fly4 up4 => ?_
          obtain ⟨ob4, fs4, hob4, hzc4, hdat4⟩ := fly4.there
          have J4 : Inv X pins τ G { t with heap := g4 } := J.landed nb fly4.1 ((up.trans upg).trans up4) eos bare
          refine store_ok (X := X.suite a ((a, ob4) :: (X.pn ++ pins))) (v := .ref a) (J4.suite hob4 hdat4 na neL neF) nd hi (.inl hl) rfl (fun s5 J5 => ?_) (.inr hl)
          have bye : ∀ {s6 : Shared} {τ6 : L2.St} {G6 : Hp} {Q : Shared → Prop}, Inv (X.suite a ((a, ob4) :: (X.pn ++ pins))) [] τ6 G6 s6 → (∀ s7, Inv X pins (τ6.set i none) G6 s7 → Q s7) →
              wpAny (model X.prog X.w) X.A (do bindName X.env n .none; unbindBehindTheSuite X.env n q2) (fun _ s7 => Q s7) X.xe s6 := fun J6 k => gone_ok (J6.unsuite ok) nd hi hl k
          refine wpAny_mono ((su a ob4 cls d (X.pn ++ pins) hzc4 ⟨_, hdat4⟩).run [] s5 _ G _ J5 (yes rfl a na)) (fun f s6 end6 => ?_) (fun _ _ z => z.elim)
          cases f with
          | next => obtain ⟨τ6, G6, J6, q6⟩ := end6; exact bye J6 fun s7 J7 => ⟨_, _, J7, q6⟩
          | brk => obtain ⟨τ6, G6, J6, q6⟩ := end6; exact bye J6 fun s7 J7 => ⟨_, _, J7, q6⟩
          | cont => obtain ⟨τ6, G6, J6, q6⟩ := end6; exact bye J6 fun s7 J7 => ⟨_, _, J7, q6⟩
          | ret u6 => obtain ⟨v6, τ6, G6, J6, r6, q6⟩ := end6; exact bye J6 fun s7 J7 => ⟨_, _, _, J7, r6, q6⟩
    exact key hc want
  refine wpAny_Try_except (wpAny_mono ((hb (wEach X.K i Wout D l) (X.pn ++ pins) look caught PassesOwn.looking).run [] s σ H D (I.toTry _) h) (fun f t end1 => ?_) (fun e t he => he))
  cases f with
  | next => obtain ⟨τ, G, J, q⟩ := end1; exact wpAny_execs_nil ⟨τ, G, J.ofTry ok, q⟩
  | brk => obtain ⟨τ, G, J, q⟩ := end1; exact ⟨τ, G, J.ofTry ok, q⟩
  | cont => obtain ⟨τ, G, J, q⟩ := end1; exact ⟨τ, G, J.ofTry ok, q⟩
  | ret r => obtain ⟨v, τ, G, J, rr, q⟩ := end1; exact ⟨v, τ, G, J.ofTry ok, rr, q⟩
end
end TA

set_option maxHeartbeats 3900000
namespace OW
open PySem PySem.Spec PyProof.Rows L2 PySem.F
section
variable {X : Cx} {k : Nat} {C f : Addr} {fd : FuncData} {ps : List Str} {sp : Sp} {CX : CXT} {E : XK}
end
end OW

set_option maxHeartbeats 3900000
namespace T6
open PySem PySem.Spec PyProof.Rows L2 TL
open C8 (pss_cut tCut pe_gc)
open STP CB XW LE LR RP FI TA
abbrev sLaw : Stmt := top 48
abbrev bd (i : Nat) : Stmt := nth (forBody (nth (defBody sLaw) 1)) i
structure TN (K : PySem.W.Frag) (st l : Addr) (H : Hp) (v : V) (t : OT) (n d z : Nat) : Prop where
  at_ : OtAt K st l H v t
  ok : OkO t
  wd : wdO t ≤ n
  dp : depO t ≤ n + 1
  sh : Shw t d z
theorem TN.but {K : PySem.W.Frag} {st l : Addr} {c : Nat} {H H' : Hp} {v : V} {t : OT} {n d z : Nat} (h : TN K st l H v t n d z) (S : Strm H st l c) (B : But st l H H') : TN K st l H' v t n d z := ⟨h.at_.but (tup_but S B) B, h.ok, h.wd, h.dp, h.sh⟩
def J0 (v0 : V) (st l : Addr) (c : Nat) : L2.St → Hp → Prop := fun σ H => ∃ (x2 x3 x4 x5 x6 x7 x8 : Option V), σ = [some v0, some (.ref st), x2, x3, x4, x5, x6, x7, x8] ∧ Strm H st l c ∧ c ≤ 400000
def J1  (v0 : V) (st l : Addr) (c : Nat) : L2.St → Hp → Prop := fun σ H => ∃ (p : Addr) (zs : List Str) (x2 x4 x5 x6 x7 x8 : Option V), σ = [some v0, some (.ref st), x2, some (.ref p), x4, x5, x6, x7, x8] ∧ (∃ c' ≤ c + 40, Strm H st l c') ∧ c ≤ 400000 ∧ PlO H st l p zs
def J2 (K : PySem.W.Frag) (v0 : V) (st l : Addr) (c : Nat) : L2.St → Hp → Prop := fun σ H => ∃ (p : Addr) (tv : V) (t : OT) (x2 x5 x6 x7 x8 : Option V), σ = [some v0, some (.ref st), x2, some (.ref p), some (tv), x5, x6, x7, x8] ∧ (∃ c' ≤ c + 24000, Strm H st l c') ∧ c ≤ 400000 ∧ TN K st l H tv t 3 13 800000 ∧ fw [] t = none
def J3 (K : PySem.W.Frag) (v0 : V) (st l : Addr) (c : Nat) : L2.St → Hp → Prop := fun σ H => ∃ (p : Addr) (tv : V) (t : OT) (m : Int) (x2 x6 x7 x8 : Option V), σ = [some v0, some (.ref st), x2, some (.ref p), some (tv), some (.int m), x6, x7, x8] ∧ (∃ c' ≤ c + 24001, Strm H st l c') ∧ c ≤ 400000 ∧ TN K st l H tv t 3 13 800000 ∧ fw [] t = none
def J4 (K : PySem.W.Frag) (v0 : V) (st l : Addr) (c : Nat) : L2.St → Hp → Prop := fun σ H => ∃ (p : Addr) (tv : V) (t : OT) (m : Int) (x2 x6 x7 x8 : Option V), σ = [some v0, some (.ref st), x2, some (.ref p), some (tv), some (.int m), x6, x7, x8] ∧ (∃ c' ≤ c + 24040, Strm H st l c') ∧ c ≤ 400000 ∧ TN K st l H tv t 4 15 1601000 ∧ (∀ d, t = .bad d → FX st l H tv)
def J5 (K : PySem.W.Frag) (v0 : V) (st l : Addr) (c : Nat) : L2.St → Hp → Prop := fun σ H => ∃ (tv : V) (t : OT) (x2 x3 x5 x6 x7 x8 : Option V), σ = [some v0, some (.ref st), x2, x3, some (tv), x5, x6, x7, x8] ∧ (∃ c' ≤ c + 24080, Strm H st l c') ∧ c ≤ 400000 ∧ TN K st l H tv t 5 17 3203000
def J6 (K : PySem.W.Frag) (v0 : V) (st l : Addr) (c : Nat) : L2.St → Hp → Prop := fun σ H => ∃ (tv : V) (t : OT) (x2 x3 x5 x8 : Option V), σ = [some v0, some (.ref st), x2, x3, some (tv), x5, some (.str (otD t).shown), some (.non), x8] ∧ (∃ c' ≤ c + 24080, Strm H st l c') ∧ c ≤ 400000 ∧ TN K st l H tv t 5 17 3203000
def J7 (K : PySem.W.Frag) (v0 : V) (st l : Addr) (c : Nat) : L2.St → Hp → Prop := fun σ H => ∃ (tv r : V) (t : OT) (x2 x3 x5 x8 : Option V), σ = [some v0, some (.ref st), x2, x3, some (tv), x5, some (.str (otD t).shown), some (r), x8] ∧ (∃ c' ≤ c + 24080, Strm H st l c') ∧ c ≤ 400000 ∧ TN K st l H tv t 5 17 3203000 ∧ FwR H r [] (fw [] t)
def JE  (v0 : V) (st l : Addr) (c : Nat) : L2.St → Hp → Prop := fun σ H => ∃  (x2 x3 x4 x5 x6 x7 x8 : Option V), σ = [some v0, some (.ref st), x2, x3, x4, x5, x6, x7, x8] ∧ (∃ c' ≤ c + 24080, Strm H st l c') ∧ c ≤ 400000

theorem scLaw : FnScope ["_law_script", "_law_stream", "_law_turn", "_law_pool_here", "_law_tree_here", "_law_many", "_law_kept", "_law_found", "e"] ["_law_script"] (defScope sLaw) := ⟨rfl, rfl, rfl, by decide +kernel, rfl, by decide +kernel, by decide +kernel⟩
structure LV (P : Program) (w : World) (K : PySem.W.Frag) (mg : Str → Option Value) (base : Heap) (C CBS : Addr) (mt fa : Str → Addr) (fd : Str → FuncData) : Prop where
  T : TB mg
  mRepr : mg "repr" = none
  aD : aD' K mg (fa "D") (fd "D")
  GD : FnOk P w K mg base CX0 1 (fa "D") (fd "D") ["_law_stream", "_law_many"] (spDraw)
  aPo : At K mg "_law_pool" (fa "Po") (fd "Po") ["_law_stream", "_law_many"]
  GPo : FnOk P w K mg base CX0 4 (fa "Po") (fd "Po") ["_law_stream", "_law_many"] (spPool)
  aLTree : At K mg "_law_tree" (fa "LTree") (fd "LTree") ["_law_stream", "_law_pool_here", "_law_looks_here", "_law_most"]
  GLTree : FnOk P w K mg base CX0 11 (fa "LTree") (fd "LTree") ["_law_stream", "_law_pool_here", "_law_looks_here", "_law_most"] (spLTree 5)
  aLSpo : At K mg "_law_spoiled" (fa "LSpo") (fd "LSpo") ["_law_stream", "_law_pool_here", "_law_tree_here"]
  GLSpo : FnOk P w K mg base CX0 11 (fa "LSpo") (fd "LSpo") ["_law_stream", "_law_pool_here", "_law_tree_here"] (spSpoA K)
  aLSpm : At K mg "_law_spoiled_more" (fa "LSpm") (fd "LSpm") ["_law_stream", "_law_pool_here", "_law_tree_here"]
  GLSpm : FnOk P w K mg base CX0 12 (fa "LSpm") (fd "LSpm") ["_law_stream", "_law_pool_here", "_law_tree_here"] (spSpmA K)
  aLFw : At K mg "_law_first_wrong" (fa "LFw") (fd "LFw") ["_law_tree_here", "_law_looks_here", "_law_at"]
  GLFw : FnOk P w K mg base CX0 11 (fa "LFw") (fd "LFw") ["_law_tree_here", "_law_looks_here", "_law_at"] (spFWA K)
  aSa : At K mg "_law_same" (fa "Sa") (fd "Sa") ["_law_found", "_law_due"]
  GSa : FnG P w K mg base CX0 1 (fa "Sa") (fd "Sa") ["_law_found", "_law_due"] (spSame K)
  S0 : TCl K mg C mt
  BBSt : BSt K mg CBS (fa "BSIni")
  mkT : Mk K C (fa "TIni")
  bTIni : L2.Binds K (fd "TIni") ["self", "tree"] []
  GTIni : FnOk P w K mg base (CX P w) 15 (fa "TIni") (fd "TIni") ["self", "tree"] (spTIniA w K CBS C)
abbrev XL (P : Program) (w : World) (K : PySem.W.Frag) (mg : Str → Option Value) (base : Heap) (f : Addr) (cdv : Value) (A : Around) (outer : List Env) (s : Shared) (H : Hp) (E : XK) : Cx :=
  (cxOf CX0 P w K mg base ["_law_script", "_law_stream", "_law_turn", "_law_pool_here", "_law_tree_here", "_law_many", "_law_kept", "_law_found", "e"] "law" (defScope sLaw) f cdv A outer s H E).nox
end T6

set_option maxHeartbeats 3900000
namespace T6
open PySem PySem.Spec PyProof.Rows L2 TL
open C8 (pss_cut tCut pe_gc)
open STP CB XW LE LR RP FI TA
section
variable {P : Program} {w : World} {K : PySem.W.Frag} {mg : Str → Option Value} {base : Heap} {C CBS : Addr} {mt fa : Str → Addr} {fd : Str → FuncData}
  {f : Addr} {cdv : Value} {A : Around} {outer : List Env} {s : Shared} {H : Hp} {E : XK} {v0 : V} {st l : Addr} {c : Nat}
theorem st0  (Lv : LV P w K mg base C CBS mt fa fd) (hg : A.guards = some []) (SM : (base.get? sysModules).isSome = true) (hr : Room 17 (A.deeper (envOfC "law" (defScope sLaw) s.heap.objs.size f cdv))) : Step (XL P w K mg base f cdv A outer s H E) (bd 0) (J0 v0 st l c) (J1 v0 st l c) := by
  obtain ⟨T, mRepr, aD, GD, aPo, GPo, aLTree, GLTree, aLSpo, GLSpo, aLSpm, GLSpm, aLFw, GLFw, aSa, GSa, S0, BBSt, mkT, bTIni, GTIni⟩ := id Lv
  have hu := hr.units
  have hu0 := Nat.lt_of_le_of_lt (Nat.le_add_right _ 64) hr.units
  have hu1 := Nat.lt_of_le_of_lt (Nat.add_le_add_left (show 1 ≤ 64 by decide) _) hr.units
  refine ⟨_, ps_set (i := 3) scLaw.nd rfl (Or.inl rfl) (pe_call GPo (hr.mono (by decide)) rfl aPo.m aPo.k aPo.b .nil pass0 (pa_cons (pv 1) (pa_cons pe_int pa_nil))), fun D σ H' hA k => ?_⟩
  obtain ⟨x2, x3, x4, x5, x6, x7, x8, rfl, S, hc⟩ := hA
  refine ⟨_, rfl, st, l, c, 3, rfl, S, by omega, by decide, by decide, fun p zs H2 c2 zl nd nm np L B2 S2 hc2 => ?_⟩
  exact k _ _ ⟨p, zs, _, _, _, _, _, _, rfl, ⟨c2, by omega, S2⟩, hc, ⟨L, nd, by omega, by omega, nm⟩⟩
theorem st1  (Lv : LV P w K mg base C CBS mt fa fd) (hg : A.guards = some []) (SM : (base.get? sysModules).isSome = true) (hr : Room 17 (A.deeper (envOfC "law" (defScope sLaw) s.heap.objs.size f cdv))) : Step (XL P w K mg base f cdv A outer s H E) (bd 1) (J1 v0 st l c) (J2 K v0 st l c) := by
  obtain ⟨T, mRepr, aD, GD, aPo, GPo, aLTree, GLTree, aLSpo, GLSpo, aLSpm, GLSpm, aLFw, GLFw, aSa, GSa, S0, BBSt, mkT, bTIni, GTIni⟩ := id Lv
  have hu := hr.units
  have hu0 := Nat.lt_of_le_of_lt (Nat.le_add_right _ 64) hr.units
  have hu1 := Nat.lt_of_le_of_lt (Nat.add_le_add_left (show 1 ≤ 64 by decide) _) hr.units
  refine ⟨_, ps_set (i := 4) scLaw.nd rfl (Or.inl rfl) (pe_call GLTree (hr.mono (by decide)) rfl aLTree.m aLTree.k aLTree.b .nil pass0 (pa_cons (pv 1) (pa_cons (pv 3) (pa_cons (pe_lst pa_nil) (pa_cons pe_int pa_nil))))), fun D σ H' hA k => ?_⟩
  obtain ⟨p, zs, x2, x4, x5, x6, x7, x8, rfl, ⟨c1, hc1, S⟩, hc, pl⟩ := hA
  refine ⟨_, rfl, _, rfl, by show 0 ≤ sizeLine; decide, fun D hD => ?_⟩
  have sD := same_mk (o := .lst []) hD
  have nD := S.ne_new hD
  have eW : dW 4 = 23910 := by decide
  refine ⟨st, l, p, D, c1, zs, [], 4, _, rfl, rfl, by decide, S.up sD, by omega, pl.L.but (But.same sD), pl.nd, by have := pl.z1; omega, by have := pl.z3; omega, pl.nm, ⟨[], upd_same, rfl, fun i v k h => by simp at h⟩, nD.1, nD.2, by decide, (fun k hk => absurd hk List.not_mem_nil), fun tv t H1 c2 htr tok ton tdep B1 S1 hc2 => ?_⟩
  obtain ⟨e1, e2, e3, e4⟩ := em_ok t [] tok ton
  exact k _ _ ⟨p, tv, em t, _, _, _, _, _, rfl, ⟨c2, by omega, S1⟩, hc, ⟨em_at htr, e1, e2, by omega, em_shw pl.nm ton tok tdep⟩, e4⟩
theorem st2  (Lv : LV P w K mg base C CBS mt fa fd) (hg : A.guards = some []) (SM : (base.get? sysModules).isSome = true) (hr : Room 17 (A.deeper (envOfC "law" (defScope sLaw) s.heap.objs.size f cdv))) : Step (XL P w K mg base f cdv A outer s H E) (bd 2) (J2 K v0 st l c) (J3 K v0 st l c) := by
  obtain ⟨T, mRepr, aD, GD, aPo, GPo, aLTree, GLTree, aLSpo, GLSpo, aLSpm, GLSpm, aLFw, GLFw, aSa, GSa, S0, BBSt, mkT, bTIni, GTIni⟩ := id Lv
  have hu := hr.units
  have hu0 := Nat.lt_of_le_of_lt (Nat.le_add_right _ 64) hr.units
  have hu1 := Nat.lt_of_le_of_lt (Nat.add_le_add_left (show 1 ≤ 64 by decide) _) hr.units
  refine ⟨_, ps_set (i := 5) scLaw.nd rfl (Or.inl rfl) (pe_call GD (hr.mono (by decide)) rfl aD.m aD.k aD.b .nil pass0 (pa_cons (pv 1) (pa_cons pe_int pa_nil))), fun D σ H' hA k => ?_⟩
  obtain ⟨p, tv, t, x2, x5, x6, x7, x8, rfl, ⟨c1, hc1, S⟩, hc, tn, ef⟩ := hA
  refine ⟨_, rfl, st, l, c1, 4, rfl, S, by omega, by decide, by decide, fun d H1 d0 d4 B1 S1 => ?_⟩
  exact k _ _ ⟨p, tv, t, d, _, _, _, _, rfl, ⟨c1 + 1, by omega, S1⟩, hc, tn.but S B1, ef⟩
theorem st3  (Lv : LV P w K mg base C CBS mt fa fd) (hg : A.guards = some []) (SM : (base.get? sysModules).isSome = true) (hr : Room 17 (A.deeper (envOfC "law" (defScope sLaw) s.heap.objs.size f cdv))) : Step (XL P w K mg base f cdv A outer s H E) (bd 3) (J3 K v0 st l c) (J4 K v0 st l c) := by
  obtain ⟨T, mRepr, aD, GD, aPo, GPo, aLTree, GLTree, aLSpo, GLSpo, aLSpm, GLSpm, aLFw, GLFw, aSa, GSa, S0, BBSt, mkT, bTIni, GTIni⟩ := id Lv
  have hu := hr.units
  have hu0 := Nat.lt_of_le_of_lt (Nat.le_add_right _ 64) hr.units
  have hu1 := Nat.lt_of_le_of_lt (Nat.add_le_add_left (show 1 ≤ 64 by decide) _) hr.units
  refine ⟨_, ps_set (i := 4) scLaw.nd rfl (Or.inl rfl) (pe_ifExp (pt_cmpR op_gt (pv 5) pe_int (nomark _)) (pe_call GLSpo (hr.mono (by decide)) rfl aLSpo.m aLSpo.k aLSpo.b .nil pass0 (pa_cons (pv 1) (pa_cons (pv 3) (pa_cons (pv 4) pa_nil)))) (pv 4)), fun D σ H' hA k => ?_⟩
  obtain ⟨p, tv, t, m, x2, x6, x7, x8, rfl, ⟨c1, hc1, S⟩, hc, tn, ef⟩ := hA
  have nb : ∀ d, t = .bad d → FX st l H' tv := fun d e => by subst e; rw [fw_bad] at ef; cases ef
  refine ⟨_, rfl, _, _, rfl, rfl, _, rfl, ?_⟩
  by_cases h : 0 < m
  · refine ifT (decide_eq_true h) ⟨_, rfl, _, rfl, _, rfl, st, l, .ref p, tv, t, [], c1, rfl, tn.at_, ef, tn.ok, by have := tn.wd; omega, by have := tn.dp; omega, S, by omega, fun v' t' H1 c2 ht' fx' ok' wd' dp' gr' B1 S1 hc2 => ?_⟩
    exact k _ _ ⟨p, v', t', m, _, _, _, _, rfl, ⟨c2, by omega, S1⟩, hc, ⟨ht', ok', by have := tn.wd; omega, by have := tn.dp; omega, tn.sh.grw gr'⟩, fx'⟩
  · exact ifF (decide_eq_false h) ⟨_, rfl, k _ _ ⟨p, tv, t, m, _, _, _, _, rfl, ⟨c1, by omega, S⟩, hc, ⟨tn.at_, tn.ok, by have := tn.wd; omega, by have := tn.dp; omega, tn.sh.le (by decide) (by decide)⟩, nb⟩⟩
theorem st4  (Lv : LV P w K mg base C CBS mt fa fd) (hg : A.guards = some []) (SM : (base.get? sysModules).isSome = true) (hr : Room 17 (A.deeper (envOfC "law" (defScope sLaw) s.heap.objs.size f cdv))) : Step (XL P w K mg base f cdv A outer s H E) (bd 4) (J4 K v0 st l c) (J5 K v0 st l c) := by
  obtain ⟨T, mRepr, aD, GD, aPo, GPo, aLTree, GLTree, aLSpo, GLSpo, aLSpm, GLSpm, aLFw, GLFw, aSa, GSa, S0, BBSt, mkT, bTIni, GTIni⟩ := id Lv
  have hu := hr.units
  have hu0 := Nat.lt_of_le_of_lt (Nat.le_add_right _ 64) hr.units
  have hu1 := Nat.lt_of_le_of_lt (Nat.add_le_add_left (show 1 ≤ 64 by decide) _) hr.units
  refine ⟨_, ps_set (i := 4) scLaw.nd rfl (Or.inl rfl) (pe_ifExp (pt_cmpR op_gt (pv 5) pe_int (nomark _)) (pe_call GLSpm (hr.mono (by decide)) rfl aLSpm.m aLSpm.k aLSpm.b .nil pass0 (pa_cons (pv 1) (pa_cons (pv 3) (pa_cons (pv 4) pa_nil)))) (pv 4)), fun D σ H' hA k => ?_⟩
  obtain ⟨p, tv, t, m, x2, x6, x7, x8, rfl, ⟨c1, hc1, S⟩, hc, tn, fx⟩ := hA
  refine ⟨_, rfl, _, _, rfl, rfl, _, rfl, ?_⟩
  by_cases h : 1 < m
  · refine ifT (decide_eq_true h) ⟨_, rfl, _, rfl, _, rfl, st, l, .ref p, tv, t, c1, rfl, tn.at_, fx, tn.ok, by have := tn.wd; omega, by have := tn.dp; omega, by decide, S, by omega, fun v' t' H1 c2 ht' ok' wd' dp' gr' B1 S1 hc2 => ?_⟩
    exact k _ _ ⟨v', t', _, _, _, _, _, _, rfl, ⟨c2, by omega, S1⟩, hc, ⟨ht', ok', by have := tn.wd; omega, by have := tn.dp; omega, tn.sh.grw gr'⟩⟩
  · exact ifF (decide_eq_false h) ⟨_, rfl, k _ _ ⟨tv, t, _, _, _, _, _, _, rfl, ⟨c1, by omega, S⟩, hc, ⟨tn.at_, tn.ok, by have := tn.wd; omega, by have := tn.dp; omega, tn.sh.le (by decide) (by decide)⟩⟩⟩
theorem st5  (Lv : LV P w K mg base C CBS mt fa fd) (hg : A.guards = some []) (SM : (base.get? sysModules).isSome = true) (hr : Room 17 (A.deeper (envOfC "law" (defScope sLaw) s.heap.objs.size f cdv))) : Step (XL P w K mg base f cdv A outer s H E) (bd 5) (J5 K v0 st l c) (J6 K v0 st l c) := by
  obtain ⟨T, mRepr, aD, GD, aPo, GPo, aLTree, GLTree, aLSpo, GLSpo, aLSpm, GLSpm, aLFw, GLFw, aSa, GSa, S0, BBSt, mkT, bTIni, GTIni⟩ := id Lv
  have hu := hr.units
  have hu0 := Nat.lt_of_le_of_lt (Nat.le_add_right _ 64) hr.units
  have hu1 := Nat.lt_of_le_of_lt (Nat.add_le_add_left (show 1 ≤ 64 by decide) _) hr.units
  refine ⟨_, ps_par (i := 6) (j := 7) (by rfl) scLaw.nd rfl rfl (by decide) rfl rfl (pa_cons (pe_callB (call_repr SM hg hu) (by rfl) mRepr (by decide +kernel) (pa_cons (pv 4) pa_nil)) (pa_cons pe_non pa_nil)) (by rfl), fun D σ H' hA k => ?_⟩
  obtain ⟨tv, t, x2, x3, x5, x6, x7, x8, rfl, ⟨c1, hc1, S⟩, hc, tn⟩ := hA
  refine ⟨_, rfl, tv, otD t, rfl, ot_dq tn.at_, tn.sh.1, Nat.le_trans tn.sh.2.1 (by decide), Nat.le_trans tn.sh.2.2 (by decide), _, _, rfl, ?_⟩
  exact k _ _ ⟨tv, t, _, _, _, _, rfl, ⟨c1, by omega, S⟩, hc, tn⟩
end
end T6

set_option maxHeartbeats 3900000
namespace T6
open PySem PySem.Spec PyProof.Rows L2 TL
open C8 (pss_cut tCut pe_gc)
open STP CB XW LE LR RP FI TA
theorem sm_make {C : Addr} {H : Hp} {x dx : Addr} (hx : H x = none) (hdx : H dx = none) : Same H (upd (upd H dx (.own x)) x (.ins C dx [])) := fun b u hb => by
  have n1 : b ≠ x := fun e => by rw [e, hx] at hb; cases hb
  have n2 : b ≠ dx := fun e => by rw [e, hdx] at hb; cases hb
  rw [upd_ne n1, upd_ne n2]
  exact hb
section
variable {P : Program} {w : World} {K : PySem.W.Frag} {mg : Str → Option Value} {base : Heap} {C CBS : Addr} {mt fa : Str → Addr} {fd : Str → FuncData}
  {f : Addr} {cdv : Value} {A : Around} {outer : List Env} {s : Shared} {H : Hp} {E : XK} {v0 : V} {st l : Addr} {c : Nat}
theorem st6  (Lv : LV P w K mg base C CBS mt fa fd) (hg : A.guards = some []) (SM : (base.get? sysModules).isSome = true) (hr : Room 17 (A.deeper (envOfC "law" (defScope sLaw) s.heap.objs.size f cdv))) : Step (XL P w K mg base f cdv A outer s H E) (bd 6) (J6 K v0 st l c) (J7 K v0 st l c) := by
  obtain ⟨T, mRepr, aD, GD, aPo, GPo, aLTree, GLTree, aLSpo, GLSpo, aLSpm, GLSpm, aLFw, GLFw, aSa, GSa, S0, BBSt, mkT, bTIni, GTIni⟩ := id Lv
  have hu := hr.units
  have hu0 := Nat.lt_of_le_of_lt (Nat.le_add_right _ 64) hr.units
  have hu1 := Nat.lt_of_le_of_lt (Nat.add_le_add_left (show 1 ≤ 64 by decide) _) hr.units
  have hr16 : Room 16 (A.deeper (envOfC "law" (defScope sLaw) s.heap.objs.size f cdv)) := hr.mono (by decide)
  refine ⟨_, ps_try_each (i := 8) (l := [(.ref CBS, _)]) (Wout := fun _ _ _ _ => False) rfl rfl scLaw.nd rfl rfl L2.takes0
        (fun W pn xe tk _ => pss_one (ps_expr (by exact (_root_.MS.pe_makeS mkT GTIni (Room.mono (show Room 16 (A.deeper (envOfC "law" (defScope sLaw) s.heap.objs.size f cdv)) from hr16) (by decide)) rfl S0.mg bTIni (fun σ => passAt tk σ) (pa_cons (pv 4) pa_nil)))))
        (.cons ⟨rfl, by decide, Or.inl BBSt.mg⟩ (fun a ob cls d pn hz hf => pss_one (ps_set (i := 7) scLaw.nd rfl (Or.inl rfl) (pe_xf BBSt.xf BBSt.no hz hf (pv 8)))) .nil), fun D σ H' hA k => ?_⟩
  obtain ⟨tv, t, x2, x3, x5, x8, rfl, ⟨c1, hc1, S⟩, hc, tn⟩ := hA
  refine ⟨_, rfl, fun o dx ho hdx hne => ?_⟩
  have s0 := sm_make (C := C) ho hdx
  have o7 : depO t < 7 := by have := tn.dp; omega
  refine ⟨st, l, ?_⟩
  cases ef : fw [] t with
  | none =>
    obtain ⟨tr, q1, q2, q3⟩ := conv (tn.at_.up s0) tn.ok ef
    refine .inl ⟨o, dx, tv, tr, rfl, upd_same, q1.in, by omega, by decide, q2, fun H1 kp _ => ⟨rfl, ?_⟩⟩
    have s1 : Same H' H1 := fun b u hb => kp b u (s0 b u hb) fun e => by rw [e, ho] at hb; cases hb
    exact k _ _ ⟨tv, .non, t, _, _, _, _, rfl, ⟨c1, by omega, S.up s1⟩, hc, tn.but S (But.same s1), by rw [ef]; rfl⟩
  | some p =>
    refine .inr ⟨o, dx, tv, t, p, rfl, upd_same, tn.at_.up s0, tn.ok, o7, by decide, ef, fun q d H1 s1 hq hd hxd => ?_⟩
    have s01 := s0.trans s1
    refine ⟨true, BBSt.te, fun _ a ha => ?_, fun q => Bool.noConfusion q⟩
    exact ⟨_, rfl, rfl, rfl, d, _, .ref q, rfl, hxd, by simp [List.lookup], k _ _ ⟨tv, .ref q, t, _, _, _, _, rfl, ⟨c1, by omega, S.up s01⟩, hc, tn.but S (But.same s01), by rw [ef]; exact ⟨q, rfl, hq⟩⟩⟩
theorem st7  (Lv : LV P w K mg base C CBS mt fa fd) (hg : A.guards = some []) (SM : (base.get? sysModules).isSome = true) (hr : Room 17 (A.deeper (envOfC "law" (defScope sLaw) s.heap.objs.size f cdv))) : Step (XL P w K mg base f cdv A outer s H E) (bd 7) (J7 K v0 st l c) (JE v0 st l c) := by
  obtain ⟨T, mRepr, aD, GD, aPo, GPo, aLTree, GLTree, aLSpo, GLSpo, aLSpm, GLSpm, aLFw, GLFw, aSa, GSa, S0, BBSt, mkT, bTIni, GTIni⟩ := id Lv
  have hu := hr.units
  have hu0 := Nat.lt_of_le_of_lt (Nat.le_add_right _ 64) hr.units
  have hu1 := Nat.lt_of_le_of_lt (Nat.add_le_add_left (show 1 ≤ 64 by decide) _) hr.units
  refine ⟨_, ps_if (PW.pt (pw_or (pt_not (pt_val (pe_callG GSa hg (hr.mono (by decide)) rfl aSa.m aSa.k aSa.b pass0 (pa_cons (pv 7) (pa_cons (pe_call GLFw (hr.mono (by decide)) rfl aLFw.m aLFw.k aLFw.b .nil pass0 (pa_cons (pv 4) (pa_cons (pe_lst pa_nil) (pa_cons (pe_tup pa_nil) pa_nil)))) pa_nil))))) (pw_or1 (pt_cmpR op_ne (pe_callB (call_repr SM hg hu) (by rfl) mRepr (by decide +kernel) (pa_cons (pv 4) pa_nil)) (pv 6) (nomark _))))) (pss_one (ps_ret pe_bl)) (pss_nil), fun D σ H' hA k => ?_⟩
  obtain ⟨tv, r, t, x2, x3, x5, x8, rfl, ⟨c1, hc1, S⟩, hc, tn, hr7⟩ := hA
  refine ⟨_, rfl, _, rfl, by show 0 ≤ sizeLine; decide, fun D0 hD0 => ⟨by show 0 ≤ sizeLine; decide, fun p0 hp0 => ?_⟩⟩
  have sD := same_mk (o := .lst []) hD0
  have sp := same_mk (o := .tup []) hp0
  have s2 := sD.trans sp
  have dp := tn.dp
  refine ⟨st, l, tv, D0, p0, t, [], [], rfl, tn.at_.up s2, tn.ok, by omega, lks_nil (sp _ _ upd_same), (fun k hk => by cases hk), by show 0 + _ ≤ 50; omega, upd_same, by show 0 + _ ≤ 50; omega, fun rv H4 s4 hrv => ?_⟩
  have s04 := s2.trans s4
  have tn4 := tn.but S (But.same s04)
  refine ⟨r, rv, wyD (fw [] t), rfl, fwr_dq (hr7.up s04), fwr_dq hrv, wy_fine tn.ok (by omega) rfl, _, rfl, iteF ?_⟩
  exact ⟨_, rfl, tv, otD t, rfl, ot_dq tn4.at_, tn.sh.1, Nat.le_trans tn.sh.2.1 (by decide), Nat.le_trans tn.sh.2.2 (by decide), _, rfl, rfl, _, rfl, ifF (by rw [decide_eq_true rfl]; rfl) (k _ _ ⟨_, _, _, _, _, _, _, rfl, ⟨c1, by omega, S.up s04⟩, hc⟩)⟩
end
end T6

set_option maxHeartbeats 3900000
namespace T6
open PySem PySem.Spec PyProof.Rows L2 TL
open C8 (pss_cut tCut pe_gc)
open STP CB XW LE LR RP FI TA
section
variable {P : Program} {w : World} {K : PySem.W.Frag} {mg : Str → Option Value} {base : Heap} {C CBS : Addr} {mt fa : Str → Addr} {fd : Str → FuncData}
  {f : Addr} {cdv : Value} {A : Around} {outer : List Env} {s : Shared} {H : Hp} {E : XK} {v0 : V} {st l : Addr} {c : Nat}
theorem turn (Lv : LV P w K mg base C CBS mt fa fd) (hg : A.guards = some []) (SM : (base.get? sysModules).isSome = true) (hr : Room 17 (A.deeper (envOfC "law" (defScope sLaw) s.heap.objs.size f cdv))) : Steps (XL P w K mg base f cdv A outer s H E) (forBody (nth (defBody sLaw) 1)) (J0 v0 st l c) (JE v0 st l c) :=
  steps_cons (st0 Lv hg SM hr) (steps_cons (st1 Lv hg SM hr) (steps_cons (st2 Lv hg SM hr) (steps_cons (st3 Lv hg SM hr) (steps_cons (st4 Lv hg SM hr) (steps_cons (st5 Lv hg SM hr) (steps_cons (st6 Lv hg SM hr) (steps_one (st7 Lv hg SM hr))))))))
def spLaw (K : PySem.W.Frag) : Sp := fun vs H Q _ => ∃ (a : Addr) (ns : List Int), vs = [.ref a] ∧ ns.length ≤ 63 ∧ SqL K H a (ns.map V.int) ∧ ∀ H', Q (.bl true) H'
theorem ok_law {f : Addr} {fdl : FuncData} (F : Fun K "law" "law" sLaw f fdl) (VV : LV P w K mg base C CBS mt fa fd) (SM : (base.get? sysModules).isSome = true) : FnG P w K mg base CX0 18 f fdl ["_law_script"] (spLaw K) := by
  refine okG F scLaw (fun vs H Q E h => ?_) (fun cdv A outer s H vs Q E hg hr h => ?_)
  · obtain ⟨a, ns, rfl, _⟩ := h
    rfl
  · have V0 := VV
    obtain ⟨T, mRepr, aD, GD, aPo, GPo, aLTree, GLTree, aLSpo, GLSpo, aLSpm, GLSpm, aLFw, GLFw, aSa, GSa, S0, BBSt, mkT, bTIni, GTIni⟩ := id VV
    have hu := hr.units
    have hu0 := Nat.lt_of_le_of_lt (Nat.le_add_right _ 64) hr.units
    have hu1 := Nat.lt_of_le_of_lt (Nat.add_le_add_left (show 1 ≤ 64 by decide) _) hr.units
    obtain ⟨a, ns, rfl, hl, hS, fin⟩ := h
    refine ⟨_, pss_cut (ps_set (i := 1) scLaw.nd rfl (Or.inl rfl) (pe_lst (pa_cons (pe_callTy call_list_of (by rfl) T.list (by decide +kernel) (pa_cons (pv 0) pa_nil)) (pa_cons pe_int (pa_cons pe_int (pa_cons pe_int pa_nil))))))
      (pss_cut (ps_for PassesOwn.never rfl (pi_range1 rfl T.range (pa_cons pe_int pa_nil)) (pg_name (i := 2) scLaw.nd rfl (Or.inl rfl)) (psW (ss := forBody (nth (defBody sLaw) 1))))
      (pss_one (ps_ret pe_bl))), ?_⟩
    refine ⟨fun σ H' => ∃ st l, σ = [some (.ref a), some (.ref st), none, none, none, none, none, none, none] ∧ Strm H' st l 0,
      ⟨_, rfl, a, _, rfl, .inl hS, fun l hl0 => ⟨by show 4 ≤ sizeLine; decide, fun st hst => ⟨st, l, rfl, ?_⟩⟩⟩, ?_⟩
    · have e : upd (upd H l (.lst (ns.map V.int))) st (.lst [.ref l, .int 0, .int 0, .int 0]) l = some (.lst (ns.map V.int)) := same_mk hst _ _ upd_same
      exact ⟨ns, 0, 0, ⟨upd_same, e⟩, hl, by decide, by decide, by decide⟩
    rintro _ H0 ⟨st, l, rfl, S0⟩
    refine ⟨fun _ _ => True, ?_, ?_⟩
    · refine ⟨10, rfl, by decide, by decide, for_range (lo := 0) (n := 10) (fun i σ H' => ∃ x2 x3 x4 x5 x6 x7 x8 c, σ = [some (.ref a), some (.ref st), x2, x3, x4, x5, x6, x7, x8] ∧ Strm H' st l c ∧ c ≤ 24080 * i)
        ⟨none, none, none, none, none, none, none, 0, rfl, S0, Nat.le_refl _⟩ ?_ (fun _ _ _ => trivial)⟩
      rintro i _ H1 hi ⟨x2, x3, x4, x5, x6, x7, x8, c, rfl, S1, hc1⟩
      refine Steps.wish (turn V0 hg SM hr (v0 := .ref a) (st := st) (l := l) (c := c)) ⟨_, _, _, _, _, _, _, rfl, S1, by omega⟩ ?_
      rintro σ' H' ⟨y2, y3, y4, y5, y6, y7, y8, rfl, ⟨c', hc', S'⟩, _⟩
      exact ⟨y2, y3, y4, y5, y6, y7, y8, c', rfl, S', by omega⟩
    · rintro σ H1 _
      exact fin _
end
end T6

set_option maxHeartbeats 0
namespace T6
open PySem PySem.Spec PyProof.Rows L2 EG RP
theorem fun_of {K : PySem.W.Frag} {x q : Str} {st : Stmt} {f : Addr} {fd : FuncData} (F : FunD K x q (defArgs st) (defBody st) (defScope st) [] [] f fd) : Fun K x q st f fd := by
  obtain ⟨oc, od, dV, kV, doc, pm, an, cdv, ct, osl, rfl, lk, hcd, hD, hK⟩ := F.ex
  rcases hD with ⟨_, rfl⟩ | ⟨e, _⟩
  · exact ⟨⟨oc, od, kV, doc, pm, an, cdv, ct, osl, rfl, lk, hcd⟩, F.kp⟩
  · exact absurd rfl e
section
variable {P : Program} {w : World} {K : PySem.W.Frag} {h : Heap} {mg : Str → Option Value} {f : Addr}
theorem whole (X : K.In h) (G : h.Ns mainGlobals mg) (hfa : mg ("law" : Str) = some (.ref f)) (c : He.SaysX faL fnL [] tfL exB w h K) :
    ∃ fd : FuncData, (∀ (s : Shared) (u : Value), BindsTo s fd ⟨[u], []⟩ [("_law_script", u)]) ∧ ∀ base : Heap, K.In base → base.Ns mainGlobals mg → (base.get? sysModules).isSome = true → FnG P w K mg base CX0 18 f fd ["_law_script"] (spLaw K) := by
  have D := c.t.d
  have ex := c.more
  have gl : ∀ x ∈ gloL, mg x = some (.ref (He.ga K x)) := fun x hx => He.glo_ok X G (D.facts (f := .glo x) (List.mem_append_left _ (List.mem_map.mpr ⟨x, hx, rfl⟩)))
  have fr : ∀ x ∈ freeL, mg x = none := fun x hx => He.free_ok X G (D.facts (f := .free x) (List.mem_append_right _ (List.mem_append_left _ (List.mem_map.mpr ⟨x, hx, rfl⟩))))
  have co : ∀ x ∈ conL, x.ok K = true := fun x hx => D.facts (List.mem_append_right _ (List.mem_append_right _ hx))
  have e := hfa.symm.trans (gl "law" (by decide +kernel))
  cases e
  obtain ⟨d0, U0⟩ := D.def_ 0 (d := dG "is_name" 9) rfl
  have F0 : Fun K "is_name" "is_name" (top 9) (He.ga K "is_name") d0 := fun_of U0
  have b0 : L2.Binds K d0 ["thing"] [] := F0.binds fun _ _ _ _ _ _ us hl => match us, hl with | [_], _ => rfl
  have a0 : At K mg "is_name" (He.ga K "is_name") d0 ["thing"] := ⟨gl _ (by decide +kernel), F0.kp, b0⟩
  obtain ⟨d1, U1⟩ := D.def_ 1 (d := dG "is_path" 10) rfl
  have F1 : Fun K "is_path" "is_path" (top 10) (He.ga K "is_path") d1 := fun_of U1
  have b1 : L2.Binds K d1 ["thing"] [] := F1.binds fun _ _ _ _ _ _ us hl => match us, hl with | [_], _ => rfl
  have a1 : At K mg "is_path" (He.ga K "is_path") d1 ["thing"] := ⟨gl _ (by decide +kernel), F1.kp, b1⟩
  obtain ⟨d2, U2⟩ := D.def_ 2 (d := dG "is_place" 11) rfl
  have F2 : Fun K "is_place" "is_place" (top 11) (He.ga K "is_place") d2 := fun_of U2
  have b2 : L2.Binds K d2 ["thing"] [] := F2.binds fun _ _ _ _ _ _ us hl => match us, hl with | [_], _ => rfl
  have a2 : At K mg "is_place" (He.ga K "is_place") d2 ["thing"] := ⟨gl _ (by decide +kernel), F2.kp, b2⟩
  obtain ⟨d3, U3⟩ := D.def_ 3 (d := dG "is_row" 13) rfl
  have F3 : Fun K "is_row" "is_row" (top 13) (He.ga K "is_row") d3 := fun_of U3
  have b3 : L2.Binds K d3 ["thing", "size"] [] := F3.binds fun _ _ _ _ _ _ us hl => match us, hl with | [_, _], _ => rfl
  have a3 : At K mg "is_row" (He.ga K "is_row") d3 ["thing", "size"] := ⟨gl _ (by decide +kernel), F3.kp, b3⟩
  obtain ⟨d4, U4⟩ := D.def_ 4 (d := dG "as_look" 14) rfl
  have F4 : Fun K "as_look" "as_look" (top 14) (He.ga K "as_look") d4 := fun_of U4
  have b4 : L2.Binds K d4 ["thing"] [] := F4.binds fun _ _ _ _ _ _ us hl => match us, hl with | [_], _ => rfl
  have a4 : At K mg "as_look" (He.ga K "as_look") d4 ["thing"] := ⟨gl _ (by decide +kernel), F4.kp, b4⟩
  obtain ⟨d5, U5⟩ := D.def_ 5 (d := dG "can_look" 15) rfl
  have F5 : Fun K "can_look" "can_look" (top 15) (He.ga K "can_look") d5 := fun_of U5
  have b5 : L2.Binds K d5 ["word", "where"] [] := F5.binds fun _ _ _ _ _ _ us hl => match us, hl with | [_, _], _ => rfl
  have a5 : At K mg "can_look" (He.ga K "can_look") d5 ["word", "where"] := ⟨gl _ (by decide +kernel), F5.kp, b5⟩
  obtain ⟨d6, U6⟩ := D.def_ 6 (d := dG "can_show" 16) rfl
  have F6 : Fun K "can_show" "can_show" (top 16) (He.ga K "can_show") d6 := fun_of U6
  have b6 : L2.Binds K d6 ["look", "answer"] [] := F6.binds fun _ _ _ _ _ _ us hl => match us, hl with | [_, _], _ => rfl
  have a6 : At K mg "can_show" (He.ga K "can_show") d6 ["look", "answer"] := ⟨gl _ (by decide +kernel), F6.kp, b6⟩
  obtain ⟨d7, U7⟩ := D.def_ 7 (d := dG "is_listing" 17) rfl
  have F7 : Fun K "is_listing" "is_listing" (top 17) (He.ga K "is_listing") d7 := fun_of U7
  have b7 : L2.Binds K d7 ["thing"] [] := F7.binds fun _ _ _ _ _ _ us hl => match us, hl with | [_], _ => rfl
  have a7 : At K mg "is_listing" (He.ga K "is_listing") d7 ["thing"] := ⟨gl _ (by decide +kernel), F7.kp, b7⟩
  obtain ⟨d8, U8⟩ := D.def_ 8 (d := dG "is_entry" 18) rfl
  have F8 : Fun K "is_entry" "is_entry" (top 18) (He.ga K "is_entry") d8 := fun_of U8
  have b8 : L2.Binds K d8 ["thing"] [] := F8.binds fun _ _ _ _ _ _ us hl => match us, hl with | [_], _ => rfl
  have a8 : At K mg "is_entry" (He.ga K "is_entry") d8 ["thing"] := ⟨gl _ (by decide +kernel), F8.kp, b8⟩
  obtain ⟨d9, U9⟩ := D.def_ 9 (d := dG "as_sight" 19) rfl
  have F9 : Fun K "as_sight" "as_sight" (top 19) (He.ga K "as_sight") d9 := fun_of U9
  have b9 : L2.Binds K d9 ["thing"] [] := F9.binds fun _ _ _ _ _ _ us hl => match us, hl with | [_], _ => rfl
  have a9 : At K mg "as_sight" (He.ga K "as_sight") d9 ["thing"] := ⟨gl _ (by decide +kernel), F9.kp, b9⟩
  obtain ⟨d10, U10⟩ := D.def_ 10 (d := dG "plain_tree" 21) rfl
  have F10 : Fun K "plain_tree" "plain_tree" (top 21) (He.ga K "plain_tree") d10 := fun_of U10
  have b10 : L2.Binds K d10 ["thing", "place", "above"] [] := F10.binds fun _ _ _ _ _ _ us hl => match us, hl with | [_, _, _], _ => rfl
  have a10 : At K mg "plain_tree" (He.ga K "plain_tree") d10 ["thing", "place", "above"] := ⟨gl _ (by decide +kernel), F10.kp, b10⟩
  obtain ⟨d11, U11⟩ := D.def_ 11 (d := dG "is_end" 22) rfl
  have F11 : Fun K "is_end" "is_end" (top 22) (He.ga K "is_end") d11 := fun_of U11
  have b11 : L2.Binds K d11 ["thing"] [] := F11.binds fun _ _ _ _ _ _ us hl => match us, hl with | [_], _ => rfl
  have a11 : At K mg "is_end" (He.ga K "is_end") d11 ["thing"] := ⟨gl _ (by decide +kernel), F11.kp, b11⟩
  obtain ⟨d12, U12⟩ := D.def_ 12 (d := dG "look_of_ask" 23) rfl
  have F12 : Fun K "look_of_ask" "look_of_ask" (top 23) (He.ga K "look_of_ask") d12 := fun_of U12
  have b12 : L2.Binds K d12 ["thing"] [] := F12.binds fun _ _ _ _ _ _ us hl => match us, hl with | [_], _ => rfl
  have a12 : At K mg "look_of_ask" (He.ga K "look_of_ask") d12 ["thing"] := ⟨gl _ (by decide +kernel), F12.kp, b12⟩
  obtain ⟨d13, U13⟩ := D.def_ 13 (d := dG "unordered" 24) rfl
  have F13 : Fun K "unordered" "unordered" (top 24) (He.ga K "unordered") d13 := fun_of U13
  have b13 : L2.Binds K d13 ["tree"] [] := F13.binds fun _ _ _ _ _ _ us hl => match us, hl with | [_], _ => rfl
  have a13 : At K mg "unordered" (He.ga K "unordered") d13 ["tree"] := ⟨gl _ (by decide +kernel), F13.kp, b13⟩
  obtain ⟨d14, U14⟩ := D.def_ 14 (d := dG "_law_draw" 30) rfl
  have F14 : Fun K "_law_draw" "_law_draw" (top 30) (He.ga K "_law_draw") d14 := fun_of U14
  have b14 : L2.Binds K d14 ["_law_stream", "_law_many"] [] := F14.binds fun _ _ _ _ _ _ us hl => match us, hl with | [_, _], _ => rfl
  have a14 : At K mg "_law_draw" (He.ga K "_law_draw") d14 ["_law_stream", "_law_many"] := ⟨gl _ (by decide +kernel), F14.kp, b14⟩
  obtain ⟨d15, U15⟩ := D.def_ 15 (d := dG "_law_pick" 31) rfl
  have F15 : Fun K "_law_pick" "_law_pick" (top 31) (He.ga K "_law_pick") d15 := fun_of U15
  have b15 : L2.Binds K d15 ["_law_stream", "_law_things"] [] := F15.binds fun _ _ _ _ _ _ us hl => match us, hl with | [_, _], _ => rfl
  have a15 : At K mg "_law_pick" (He.ga K "_law_pick") d15 ["_law_stream", "_law_things"] := ⟨gl _ (by decide +kernel), F15.kp, b15⟩
  obtain ⟨d16, U16⟩ := D.def_ 16 (d := dG "_law_mixed" 32) rfl
  have F16 : Fun K "_law_mixed" "_law_mixed" (top 32) (He.ga K "_law_mixed") d16 := fun_of U16
  have b16 : L2.Binds K d16 ["_law_stream", "_law_things"] [] := F16.binds fun _ _ _ _ _ _ us hl => match us, hl with | [_, _], _ => rfl
  have a16 : At K mg "_law_mixed" (He.ga K "_law_mixed") d16 ["_law_stream", "_law_things"] := ⟨gl _ (by decide +kernel), F16.kp, b16⟩
  obtain ⟨d17, U17⟩ := D.def_ 17 (d := dG "_law_same" 33) rfl
  have F17 : Fun K "_law_same" "_law_same" (top 33) (He.ga K "_law_same") d17 := fun_of U17
  have b17 : L2.Binds K d17 ["_law_found", "_law_due"] [] := F17.binds fun _ _ _ _ _ _ us hl => match us, hl with | [_, _], _ => rfl
  have a17 : At K mg "_law_same" (He.ga K "_law_same") d17 ["_law_found", "_law_due"] := ⟨gl _ (by decide +kernel), F17.kp, b17⟩
  obtain ⟨d18, U18⟩ := D.def_ 18 (d := dG "_law_fresh" 34) rfl
  have F18 : Fun K "_law_fresh" "_law_fresh" (top 34) (He.ga K "_law_fresh") d18 := fun_of U18
  have b18 : L2.Binds K d18 ["_law_stream", "_law_taken"] [] := F18.binds fun _ _ _ _ _ _ us hl => match us, hl with | [_, _], _ => rfl
  have a18 : At K mg "_law_fresh" (He.ga K "_law_fresh") d18 ["_law_stream", "_law_taken"] := ⟨gl _ (by decide +kernel), F18.kp, b18⟩
  obtain ⟨d19, U19⟩ := D.def_ 19 (d := dG "_law_pool" 35) rfl
  have F19 : Fun K "_law_pool" "_law_pool" (top 35) (He.ga K "_law_pool") d19 := fun_of U19
  have b19 : L2.Binds K d19 ["_law_stream", "_law_many"] [] := F19.binds fun _ _ _ _ _ _ us hl => match us, hl with | [_, _], _ => rfl
  have a19 : At K mg "_law_pool" (He.ga K "_law_pool") d19 ["_law_stream", "_law_many"] := ⟨gl _ (by decide +kernel), F19.kp, b19⟩
  obtain ⟨d20, U20⟩ := D.def_ 20 (d := dG "_law_path" 36) rfl
  have F20 : Fun K "_law_path" "_law_path" (top 36) (He.ga K "_law_path") d20 := fun_of U20
  have b20 : L2.Binds K d20 ["_law_stream", "_law_pool_here", "_law_most"] [] := F20.binds fun _ _ _ _ _ _ us hl => match us, hl with | [_, _, _], _ => rfl
  have a20 : At K mg "_law_path" (He.ga K "_law_path") d20 ["_law_stream", "_law_pool_here", "_law_most"] := ⟨gl _ (by decide +kernel), F20.kp, b20⟩
  obtain ⟨d21, U21⟩ := D.def_ 21 (d := dG "_law_text" 37) rfl
  have F21 : Fun K "_law_text" "_law_text" (top 37) (He.ga K "_law_text") d21 := fun_of U21
  have b21 : L2.Binds K d21 ["_law_stream"] [] := F21.binds fun _ _ _ _ _ _ us hl => match us, hl with | [_], _ => rfl
  have a21 : At K mg "_law_text" (He.ga K "_law_text") d21 ["_law_stream"] := ⟨gl _ (by decide +kernel), F21.kp, b21⟩
  obtain ⟨d22, U22⟩ := D.def_ 22 (d := dG "_law_look" 38) rfl
  have F22 : Fun K "_law_look" "_law_look" (top 38) (He.ga K "_law_look") d22 := fun_of U22
  have b22 : L2.Binds K d22 ["_law_stream", "_law_pool_here"] [] := F22.binds fun _ _ _ _ _ _ us hl => match us, hl with | [_, _], _ => rfl
  have a22 : At K mg "_law_look" (He.ga K "_law_look") d22 ["_law_stream", "_law_pool_here"] := ⟨gl _ (by decide +kernel), F22.kp, b22⟩
  obtain ⟨d23, U23⟩ := D.def_ 23 (d := dG "_law_looks" 39) rfl
  have F23 : Fun K "_law_looks" "_law_looks" (top 39) (He.ga K "_law_looks") d23 := fun_of U23
  have b23 : L2.Binds K d23 ["_law_stream", "_law_pool_here", "_law_many"] [] := F23.binds fun _ _ _ _ _ _ us hl => match us, hl with | [_, _, _], _ => rfl
  have a23 : At K mg "_law_looks" (He.ga K "_law_looks") d23 ["_law_stream", "_law_pool_here", "_law_many"] := ⟨gl _ (by decide +kernel), F23.kp, b23⟩
  obtain ⟨d24, U24⟩ := D.def_ 24 (d := dG "_law_some_answer" 40) rfl
  have F24 : Fun K "_law_some_answer" "_law_some_answer" (top 40) (He.ga K "_law_some_answer") d24 := fun_of U24
  have b24 : L2.Binds K d24 ["_law_stream", "_law_pool_here", "_law_look_here"] [] := F24.binds fun _ _ _ _ _ _ us hl => match us, hl with | [_, _, _], _ => rfl
  have a24 : At K mg "_law_some_answer" (He.ga K "_law_some_answer") d24 ["_law_stream", "_law_pool_here", "_law_look_here"] := ⟨gl _ (by decide +kernel), F24.kp, b24⟩
  obtain ⟨d25, U25⟩ := D.def_ 25 (d := dG "_law_tree" 41) rfl
  have F25 : Fun K "_law_tree" "_law_tree" (top 41) (He.ga K "_law_tree") d25 := fun_of U25
  have b25 : L2.Binds K d25 ["_law_stream", "_law_pool_here", "_law_looks_here", "_law_most"] [] := F25.binds fun _ _ _ _ _ _ us hl => match us, hl with | [_, _, _, _], _ => rfl
  have a25 : At K mg "_law_tree" (He.ga K "_law_tree") d25 ["_law_stream", "_law_pool_here", "_law_looks_here", "_law_most"] := ⟨gl _ (by decide +kernel), F25.kp, b25⟩
  obtain ⟨d26, U26⟩ := D.def_ 26 (d := dG "_law_odd_tree" 42) rfl
  have F26 : Fun K "_law_odd_tree" "_law_odd_tree" (top 42) (He.ga K "_law_odd_tree") d26 := fun_of U26
  have b26 : L2.Binds K d26 ["_law_stream"] [] := F26.binds fun _ _ _ _ _ _ us hl => match us, hl with | [_], _ => rfl
  have a26 : At K mg "_law_odd_tree" (He.ga K "_law_odd_tree") d26 ["_law_stream"] := ⟨gl _ (by decide +kernel), F26.kp, b26⟩
  obtain ⟨d27, U27⟩ := D.def_ 27 (d := dG "_law_is_right_look" 43) rfl
  have F27 : Fun K "_law_is_right_look" "_law_is_right_look" (top 43) (He.ga K "_law_is_right_look") d27 := fun_of U27
  have b27 : L2.Binds K d27 ["_law_look_here"] [] := F27.binds fun _ _ _ _ _ _ us hl => match us, hl with | [_], _ => rfl
  have a27 : At K mg "_law_is_right_look" (He.ga K "_law_is_right_look") d27 ["_law_look_here"] := ⟨gl _ (by decide +kernel), F27.kp, b27⟩
  obtain ⟨d28, U28⟩ := D.def_ 28 (d := dG "_law_spoiled" 44) rfl
  have F28 : Fun K "_law_spoiled" "_law_spoiled" (top 44) (He.ga K "_law_spoiled") d28 := fun_of U28
  have b28 : L2.Binds K d28 ["_law_stream", "_law_pool_here", "_law_tree_here"] [] := F28.binds fun _ _ _ _ _ _ us hl => match us, hl with | [_, _, _], _ => rfl
  have a28 : At K mg "_law_spoiled" (He.ga K "_law_spoiled") d28 ["_law_stream", "_law_pool_here", "_law_tree_here"] := ⟨gl _ (by decide +kernel), F28.kp, b28⟩
  obtain ⟨d29, U29⟩ := D.def_ 29 (d := dG "_law_can_have" 45) rfl
  have F29 : Fun K "_law_can_have" "_law_can_have" (top 45) (He.ga K "_law_can_have") d29 := fun_of U29
  have b29 : L2.Binds K d29 ["_law_look_here", "_law_answer"] [] := F29.binds fun _ _ _ _ _ _ us hl => match us, hl with | [_, _], _ => rfl
  have a29 : At K mg "_law_can_have" (He.ga K "_law_can_have") d29 ["_law_look_here", "_law_answer"] := ⟨gl _ (by decide +kernel), F29.kp, b29⟩
  obtain ⟨d30, U30⟩ := D.def_ 30 (d := dG "_law_first_wrong" 46) rfl
  have F30 : Fun K "_law_first_wrong" "_law_first_wrong" (top 46) (He.ga K "_law_first_wrong") d30 := fun_of U30
  have b30 : L2.Binds K d30 ["_law_tree_here", "_law_looks_here", "_law_at"] [] := F30.binds fun _ _ _ _ _ _ us hl => match us, hl with | [_, _, _], _ => rfl
  have a30 : At K mg "_law_first_wrong" (He.ga K "_law_first_wrong") d30 ["_law_tree_here", "_law_looks_here", "_law_at"] := ⟨gl _ (by decide +kernel), F30.kp, b30⟩
  obtain ⟨d31, U31⟩ := D.def_ 31 (d := dG "_law_spoiled_more" 47) rfl
  have F31 : Fun K "_law_spoiled_more" "_law_spoiled_more" (top 47) (He.ga K "_law_spoiled_more") d31 := fun_of U31
  have b31 : L2.Binds K d31 ["_law_stream", "_law_pool_here", "_law_tree_here"] [] := F31.binds fun _ _ _ _ _ _ us hl => match us, hl with | [_, _, _], _ => rfl
  have a31 : At K mg "_law_spoiled_more" (He.ga K "_law_spoiled_more") d31 ["_law_stream", "_law_pool_here", "_law_tree_here"] := ⟨gl _ (by decide +kernel), F31.kp, b31⟩
  obtain ⟨d32, U32⟩ := D.def_ 32 (d := dG "law" 48) rfl
  have F32 : Fun K "law" "law" (top 48) (He.ga K "law") d32 := fun_of U32
  obtain ⟨d33, U33⟩ := D.def_ 33 (d := dI "BadStep" "__init__" "BadStep.__init__" 3 0 []) rfl
  have F33 : Fun K "__init__" "BadStep.__init__" (inClass (top 3) 0) (He.ma K (He.ga K "BadStep") "__init__") d33 := fun_of U33
  have b33 : L2.Binds K d33 ["self", "place"] [] := F33.binds fun _ _ _ _ _ _ us hl => match us, hl with | [_, _], _ => rfl
  obtain ⟨d34, U34⟩ := D.def_ 34 (d := dI "Step" "__init__" "Step.__init__" 28 0 []) rfl
  have F34 : Fun K "__init__" "Step.__init__" (inClass (top 28) 0) (He.ma K (He.ga K "Step") "__init__") d34 := fun_of U34
  have b34 : L2.Binds K d34 ["self", "tree"] [] := F34.binds fun _ _ _ _ _ _ us hl => match us, hl with | [_, _], _ => rfl
  obtain ⟨d35, U35⟩ := D.def_ 35 (d := dI "Step" "tree" "Step.tree" 28 1 []) rfl
  have F35 : Fun K "tree" "Step.tree" (inClass (top 28) 1) (He.ma K (He.ga K "Step") "tree") d35 := fun_of U35
  have b35 : L2.Binds K d35 ["self"] [] := F35.binds fun _ _ _ _ _ _ us hl => match us, hl with | [_], _ => rfl
  have bL : ∀ (s : Shared) (u : Value), BindsTo s d32 ⟨[u], []⟩ [("_law_script", u)] := by
    obtain ⟨oc, od, kV, doc, pm, an, cdv, ct, osl, rfl, lk, hcd⟩ := F32.ex
    exact fun s u => .of_eq rfl
  refine ⟨d32, bL, fun base KB GB SM => ?_⟩
  have T : TB mg := ⟨(fr _ (by decide +kernel)), (fr _ (by decide +kernel)), (fr _ (by decide +kernel)), (fr _ (by decide +kernel)), (fr _ (by decide +kernel)), (fr _ (by decide +kernel)), (fr _ (by decide +kernel)), (fr _ (by decide +kernel)), (fr _ (by decide +kernel)), (fr _ (by decide +kernel)), (fr _ (by decide +kernel)), (fr _ (by decide +kernel))⟩
  have T0 : TPk mg := ⟨T, He.str_ok X G (co _ (List.mem_cons_self ..)), He.str_ok X G (co _ (List.mem_cons_of_mem _ (List.mem_cons_self ..))), He.str_ok X G (co _ (List.mem_cons_of_mem _ (List.mem_cons_of_mem _ (List.mem_cons_self ..)))), He.int_ok X G (co _ (List.mem_cons_of_mem _ (List.mem_cons_of_mem _ (List.mem_cons_of_mem _ (List.mem_cons_self ..)))))⟩
  obtain ⟨xT, ex⟩ := He.ba ex
  have xBS := ex
  have cT := HB.clsB_ok xT
  let mt0 : Str → Addr := fun m => He.ma K (He.ga K "Step") m
  have mt1 : ∀ x ∈ tMeth, Meth K (He.ga K "Step") x (mt0 x) := by
    intro x hx
    unfold tMeth at hx
    simp only [List.mem_cons, List.mem_nil_iff, or_false] at hx
    rcases hx with rfl
    · exact He.meth_ok (co _ (List.mem_cons_of_mem _ (List.mem_cons_of_mem _ (List.mem_cons_of_mem _ (List.mem_cons_of_mem _ (List.mem_cons_of_mem _ (List.mem_cons_self ..)))))))
  have S0 : TCl K mg (He.ga K "Step") mt0 := ⟨(gl _ (by decide +kernel)), He.cls_ok (co _ (List.mem_cons_of_mem _ (List.mem_cons_of_mem _ (List.mem_cons_of_mem _ (List.mem_cons_of_mem _ (List.mem_cons_of_mem _ (List.mem_cons_of_mem _ (List.mem_cons_self ..)))))))), He.noat_ok (co _ (List.mem_cons_of_mem _ (List.mem_cons_of_mem _ (List.mem_cons_of_mem _ (List.mem_cons_of_mem _ (List.mem_cons_of_mem _ (List.mem_cons_of_mem _ (List.mem_cons_of_mem _ (List.mem_cons_self ..))))))))), He.noat_ok (co _ (List.mem_cons_of_mem _ (List.mem_cons_of_mem _ (List.mem_cons_of_mem _ (List.mem_cons_of_mem _ (List.mem_cons_of_mem _ (List.mem_cons_of_mem _ (List.mem_cons_of_mem _ (List.mem_cons_of_mem _ (List.mem_cons_self ..)))))))))), He.mkr_ok (co _ (List.mem_cons_of_mem _ (List.mem_cons_of_mem _ (List.mem_cons_of_mem _ (List.mem_cons_of_mem _ (List.mem_cons_self ..)))))), mt1, cT.ha, cT.hn, cT.ht, cT.hm⟩
  have BT0 : BSt K mg (He.ga K "BadStep") (He.ma K (He.ga K "BadStep") "__init__") := HB.ecl_of xBS (gl _ (by decide +kernel))
  have G1__law_draw := ok_draw (P := P) (w := w) (base := base) (mg := mg) F14 ⟨(fr _ (by decide +kernel))⟩
  have G4__law_pick := ok_pick (P := P) (w := w) (base := base) (mg := mg) F15 ⟨T.int, T.len, T.range, T.list, a14.m, a14.k, a14.b⟩ G1__law_draw
  have G3__law_fresh := ok_fresh (P := P) (w := w) (base := base) (mg := mg) F18 T a14 a15 G1__law_draw G4__law_pick
  have G2__law_pool := ok_pool (P := P) (w := w) (base := base) (mg := mg) F19 T a18 G3__law_fresh
  have G8__law_path := ok_path (P := P) (w := w) (base := base) (mg := mg) F20 T a14 a15 G1__law_draw G4__law_pick
  have G7__law_look := ok_look (P := P) (w := w) (base := base) (mg := mg) F22 T a14 a15 a20 G1__law_draw G4__law_pick G8__law_path
  have G6__law_looks := ok_looks (P := P) (w := w) (base := base) (mg := mg) F23 T a22 G7__law_look
  have G10__law_mixed := ok_mixed (P := P) (w := w) (base := base) (mg := mg) F16 T a14 G1__law_draw
  have G11__law_text := ok_text (P := P) (w := w) (base := base) (mg := mg) F21 a14 G1__law_draw
  have G9__law_some_answer := ok_some (P := P) (w := w) (base := base) (mg := mg) F24 T a14 a16 a21 G1__law_draw G10__law_mixed G11__law_text
  have G5__law_tree := ok_ltree5 (P := P) (w := w) (base := base) (mg := mg) F25 T a14 G1__law_draw a23 G6__law_looks a24 G9__law_some_answer a25
  have G13__law_odd_tree := ok_lodd (P := P) (w := w) (base := base) (mg := mg) F26 T a15 G4__law_pick
  have G12__law_spoiled := ok_lspo7 (P := P) (w := w) (base := base) (mg := mg) F28 T a14 G1__law_draw a15 G4__law_pick a26 G13__law_odd_tree a28
  have G16__law_is_right_look := ok_lirl (P := P) (w := w) (base := base) (mg := mg) F27 T
  have G17__law_can_have := ok_lcan (P := P) (w := w) (base := base) (mg := mg) F29 T
  have G15__law_first_wrong := ok_lfw8 (P := P) (w := w) (base := base) (mg := mg) F30 T a27 G16__law_is_right_look a29 G17__law_can_have a30
  have G14__law_spoiled_more := ok_lspm7 (P := P) (w := w) (base := base) (mg := mg) F31 T a14 G1__law_draw a15 G4__law_pick a30 a28 G15__law_first_wrong G12__law_spoiled
  have G18__law_same := ok_same (P := P) (w := w) (base := base) (mg := mg) F17 (fr _ (by decide +kernel)) SM
  have G22_is_row := ok_row (P := P) (w := w) (base := base) (mg := mg) F3 T
  have G21_is_end := ok_ie (P := P) (w := w) (base := base) (mg := mg) F11 T a3 G22_is_row
  have G26_is_name := ok_isName (P := P) (w := w) (base := base) (mg := mg) F0 T0
  have G27_is_path := ok_isPath (P := P) (w := w) (base := base) (mg := mg) F1 T0 a0 G26_is_name
  have G28_is_place := ok_isPlace (P := P) (w := w) (base := base) (mg := mg) F2 T0 a1 G27_is_path
  have G25_can_look := ok_canLook (P := P) (w := w) (base := base) (mg := mg) F5 T0 a0 a1 a2 G26_is_name G27_is_path G28_is_place
  have G24_as_look := ok_asLook (P := P) (w := w) (base := base) (mg := mg) F4 T a3 a5 G22_is_row G25_can_look
  have G23_look_of_ask := ok_loa (P := P) (w := w) (base := base) (mg := mg) F12 T a3 G22_is_row a4 G24_as_look
  have G32_is_entry := ok_isEntry (P := P) (w := w) (base := base) (mg := mg) F8 T0 a0 G26_is_name
  have G31_is_listing := ok_isListing (P := P) (w := w) (base := base) (mg := mg) F7 T0 a8 G32_is_entry
  have G30_can_show := ok_canShow (P := P) (w := w) (base := base) (mg := mg) F6 T0 a7 G31_is_listing
  have G29_as_sight := ok_asSight (P := P) (w := w) (base := base) (mg := mg) F9 T a3 a4 a6 G22_is_row G24_as_look G30_can_show
  have G20_plain_tree := ok_pt7 (P := P) (w := w) (base := base) (mg := mg) F10 T a10 a11 G21_is_end a12 G23_look_of_ask a9 G29_as_sight a3 G22_is_row
  have G34_BadStep___init__ := ok_stini (P := P) (w := w) (base := base) (mg := mg) F33 BT0
  have G37_is_row := ok_rowO (P := P) (w := w) (base := base) (mg := mg) F3 T
  have G36_is_row : FnOk P w K mg base CX0 1 (He.ga K "is_row") d3 ["thing", "size"] spRow2 := FnOk_or G22_is_row G37_is_row
  have G35_is_end := ok_iexA (P := P) (w := w) (base := base) (mg := mg) F11 T a3 G36_is_row
  have G42_is_name := ok_isNameO (P := P) (w := w) (base := base) (mg := mg) F0 T0
  have G43_is_path := ok_isPathO (P := P) (w := w) (base := base) (mg := mg) F1 T0 a0 G26_is_name
  have G44_is_place := ok_isPlaceO (P := P) (w := w) (base := base) (mg := mg) F2 T0 a1 G43_is_path
  have G41_can_look := ok_canLookO (P := P) (w := w) (base := base) (mg := mg) F5 T0 a0 a1 a2 G26_is_name G42_is_name G43_is_path G44_is_place
  have G40_as_look := ok_asLookO (P := P) (w := w) (base := base) (mg := mg) F4 T a3 a5 G22_is_row G37_is_row G41_can_look
  have G39_as_look : FnOk P w K mg base CX0 5 (He.ga K "as_look") d4 ["thing"] spAsLook2 := FnOk_or G24_as_look G40_as_look
  have G38_look_of_ask := ok_loaxA (P := P) (w := w) (base := base) (mg := mg) F12 T a3 G36_is_row a4 G39_as_look
  have G50_is_entry := ok_isEntryG (P := P) (w := w) (base := base) (mg := mg) F8 T0 a0 G26_is_name
  have G49_is_listing := ok_isListingO (P := P) (w := w) (base := base) (mg := mg) F7 T0 a8 G50_is_entry
  have G48_is_listing : FnOk P w K mg base CX0 3 (He.ga K "is_listing") d7 ["thing"] spIsListing2 := FnOk_or G31_is_listing G49_is_listing
  have G47_can_show := ok_canShowO (P := P) (w := w) (base := base) (mg := mg) F6 T0 a7 G48_is_listing
  have G46_as_sight := ok_asSightO (P := P) (w := w) (base := base) (mg := mg) F9 T a3 a4 a6 G36_is_row G39_as_look G47_can_show
  have G45_as_sight : FnOk P w K mg base CX0 6 (He.ga K "as_sight") d9 ["thing"] spAsSight2 := FnOk_or G29_as_sight G46_as_sight
  have G33_plain_tree := ok_pte7 (P := P) (w := w) (base := base) (mg := mg) F10 T BT0 b33 G34_BadStep___init__ a10 a11 G35_is_end a12 G38_look_of_ask a9 G45_as_sight a3 G36_is_row G21_is_end G23_look_of_ask G29_as_sight G22_is_row
  have G51_unordered := ok_un7 (P := P) (w := w) (base := base) (mg := mg) F13 T a13
  have G19_Step___init__ := ok_tini7 (P := P) (w := w) (base := base) (mg := mg) F34 T S0 BT0 a10 G20_plain_tree G33_plain_tree a13 G51_unordered
  let fa : Str → Addr := fun m => if m = "BSIni" then He.ma K (He.ga K "BadStep") "__init__" else if m = "D" then He.ga K "_law_draw" else if m = "LFw" then He.ga K "_law_first_wrong" else if m = "LSpm" then He.ga K "_law_spoiled_more" else if m = "LSpo" then He.ga K "_law_spoiled" else if m = "LTree" then He.ga K "_law_tree" else if m = "Po" then He.ga K "_law_pool" else if m = "Sa" then He.ga K "_law_same" else He.ma K (He.ga K "Step") "__init__"
  let fdd : Str → FuncData := fun m => if m = "D" then d14 else if m = "LFw" then d30 else if m = "LSpm" then d31 else if m = "LSpo" then d28 else if m = "LTree" then d25 else if m = "Po" then d19 else if m = "Sa" then d17 else d34
  have V0 : LV P w K mg base (He.ga K "Step") (He.ga K "BadStep") mt0 fa fdd :=
    { T := T, mRepr := (fr _ (by decide +kernel)), aD := a14, GD := G1__law_draw, aPo := a19, GPo := G2__law_pool, aLTree := a25, GLTree := G5__law_tree, aLSpo := a28, GLSpo := G12__law_spoiled, aLSpm := a31, GLSpm := G14__law_spoiled_more, aLFw := a30, GLFw := G15__law_first_wrong, aSa := a17, GSa := G18__law_same, S0 := S0, BBSt := BT0, mkT := (He.mkr_ok (co _ (List.mem_cons_of_mem _ (List.mem_cons_of_mem _ (List.mem_cons_of_mem _ (List.mem_cons_of_mem _ (List.mem_cons_self ..))))))), bTIni := b34, GTIni := G19_Step___init__ }
  exact ok_law F32 V0 SM
end
end T6

set_option maxHeartbeats 0
open PySem PySem.W PySem.Calls PyProof.Rows
theorem PySem.Challenge.cw_trueagain_k13_bad_steps_holds : PySem.Challenge.rw_trueagain_k13_bad_steps.Holds := by
  w_on; o_law
  refine HandSHeadRun.head_any (r := T6.RL) (q := view T6.RL.prog [48]) (H := T6.hkL) (ob := T6.obL) (M := 20000) (loose := T6.looseL) (d := HandSHeadRun.topDef T6.RL.prog 48) (kwd := []) T6.obL_eq
    (by kernel_rfl) (fun s => by kernel_rfl) T6.runL (by kernel_rfl) (by kernel_rfl) (by kernel_rfl) (by rfl) (by first | assumption | decide +kernel) (by decide +kernel) ⟨rfl, rfl, rfl, rfl, rfl, by decide +kernel⟩ ?hw ?hc
  case hw => w_witness2
  case hc =>
    refine EG.walkG (l := PySem.Challenge.rw_trueagain_k13_bad_steps) (n := 63) (k := 18) (x := "_law_script") rfl (by decide) (by kernel_rfl) ⟨rfl, by decide, by decide⟩ ?F
    intro w mg fa h Y GG hmg0
    obtain ⟨⟨K, KX, c⟩, sys⟩ := Y
    have hmg : mg ("law" : PySem.Str) = some (.ref fa) := by
      have e : (HandSHeadRun.topDef T6.RL.prog 48).name = ("law" : PySem.Str) := by kernel_rfl
      rw [← e]
      exact hmg0
    obtain ⟨fd, hb, hF⟩ := T6.whole (P := PySem.Challenge.rw_trueagain_k13_bad_steps.prog) (w := w) KX GG hmg c
    have no : ∀ p : PySem.Addr × PySem.Addr, p ∉ ([] : List (PySem.Addr × PySem.Addr)) := fun p hp => by cases hp
    exact ⟨K, [], fd, T6.spLaw K, KX, fun p hp => absurd hp (no p), fun p hp => absurd hp (no p), fun p hp => absurd hp (no p), sys, hb, fun H a ns hl _ _ hS => ⟨a, ns, rfl, hl, hS, fun _ => rfl⟩, fun base b1 b2 _ b4 => hF base b1 b2 b4⟩
