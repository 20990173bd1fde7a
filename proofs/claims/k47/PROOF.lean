import PyProof.Rows.All
import Wide.All
import OpenK.AllK
import Wide.FinOn
import HandS.ForMost
import HandS.Wide
import HandS.Codes
import HandS.Conv
import HandS.Deep
import PySem.Challenge.RW_trueagain_k47_patterns_matched
import HandS.StrMore
import HandS.Walk
import HandS.IsInst
import HandS.SetKeys
import HandS.DictTup
import PyProof.DictMoreH
import HandS.Exc
import HandS.TryOnly
import HandS.WordsExc
import HandS.ExcInit
import HandS.ExcField
import HandS.ExcOwn
import HandS.Iter
import KE.GoesMore
import KE.GoesZip
import HandS.More
import HandS.TupSets
import HandS.SetFor
import HandS.Strs
import PyProof.EqAt
import HandS.Base
import HandS.Call
import HandS.Lambda
import PyProof.ReprRoads
import HandS.EndTab
import HandS.Head0
import HandS.Head1
import HandS.Head2
import HandS.HeadEnd
import HandS.HeadHook1
import HandS.HeadHook2
import HandS.HeadHook3
import HandS.HeadHook4
import HandS.Defaults
set_option Elab.async false
set_option linter.all false
set_option maxRecDepth 100000
set_option maxHeartbeats 3900000
namespace Z
open PySem PySem.Spec PyProof.Rows L2
open C8 (pss_cut tCut pe_gc)
def top (i : Nat) : Stmt := PySem.Challenge.pw_trueagain_k47_patterns_matched.main.body.getD i (.Pass ⟨0, 0, 0, 0⟩)
abbrev sDraw : Stmt := top 24
abbrev sPick : Stmt := top 25
abbrev sFresh : Stmt := top 27
abbrev sPool : Stmt := top 28
abbrev sPath : Stmt := top 29
/-! the stream: its list of what is left, the number that is being used up, the count of draws, the mixed number -/
def SV (H : Hp) (st l : Addr) (ns : List Int) (a c m : Int) : Prop := H st = some (.lst [.ref l, .int a, .int c, .int m]) ∧ H l = some (.lst (ns.map V.int))
theorem SV.ne {H : Hp} {st l : Addr} {ns : List Int} {a c m : Int} (S : SV H st l ns a c m) : st ≠ l := by
  refine ne_of S.1 S.2 fun z => ?_
  have z2 : [V.ref l, V.int a, V.int c, V.int m] = ns.map V.int := HO.lst.inj z
  cases ns with
  | nil => cases z2
  | cons n r =>
    rw [List.map_cons] at z2
    have := (List.cons.inj z2).1
    cases this
def Good (H : Hp) (st l : Addr) (c : Int) : Prop := ∃ (ns : List Int) (a m : Int), SV H st l ns a c m ∧ ns.length ≤ 63 ∧ 0 ≤ a ∧ 0 ≤ m ∧ m < 2147483647
structure Strm (H : Hp) (st l : Addr) (c : Nat) : Prop where
  ex : Good H st l (c : Int)
theorem Strm.ne {H : Hp} {st l : Addr} {c : Nat} (S : Strm H st l c) : st ≠ l := by
  obtain ⟨ns, a, m, h, _⟩ := S.ex
  exact h.ne
/-- all but the stream is as it was -/
def But (st l : Addr) (H H' : Hp) : Prop := ∀ b o, H b = some o → b ≠ st → b ≠ l → H' b = some o
theorem But.refl {st l : Addr} {H : Hp} : But st l H H := fun _ _ e _ _ => e
theorem But.st {st l : Addr} {H H' : Hp} {o : HO} (B : But st l H H') : But st l H (upd H' st o) := fun b u e h1 h2 => by
  rw [upd_ne h1]
  exact B b u e h1 h2
theorem But.li {st l : Addr} {H H' : Hp} {o : HO} (B : But st l H H') : But st l H (upd H' l o) := fun b u e h1 h2 => by
  rw [upd_ne h2]
  exact B b u e h1 h2
theorem But.new {st l p : Addr} {H H' : Hp} {o : HO} (B : But st l H H') (h : H' p = none) : But st l H (upd H' p o) := fun b u e h1 h2 => by
  have q := B b u e h1 h2
  rw [upd_ne (ne_of_none q h)]
  exact q
theorem SV.st {H : Hp} {st l : Addr} {ns : List Int} {a c m a' c' m' : Int} {xs : List V} (S : SV H st l ns a c m) (e : xs = [.ref l, .int a', .int c', .int m']) : SV (upd H st (.lst xs)) st l ns a' c' m' := by
  subst e
  refine ⟨upd_same, ?_⟩
  rw [upd_ne S.ne.symm]
  exact S.2
theorem SV.new {H : Hp} {st l p : Addr} {ns : List Int} {a c m : Int} {o : HO} (S : SV H st l ns a c m) (h : H p = none) : SV (upd H p o) st l ns a c m := by
  refine ⟨?_, ?_⟩
  · rw [upd_ne (ne_of_none S.1 h)]
    exact S.1
  · rw [upd_ne (ne_of_none S.2 h)]
    exact S.2
theorem SV.li {H : Hp} {st l : Addr} {ns ns' : List Int} {a c m : Int} {xs : List V} (S : SV H st l ns a c m) (e : xs = ns'.map V.int) : SV (upd H l (.lst xs)) st l ns' a c m := by
  subst e
  refine ⟨?_, upd_same⟩
  rw [upd_ne S.ne]
  exact S.1
def spDraw : Sp := fun vs H Q _ => ∃ (st l : Addr) (c : Nat) (many : Int), vs = [.ref st, .int many] ∧ Strm H st l c ∧ c ≤ 1000000 ∧ 0 < many ∧ many < 1000000 ∧
  ∀ (d : Int) (H' : Hp), 0 ≤ d → d < many → But st l H H' → Strm H' st l (c + 1) → Q (.int d) H'
structure TDraw (mg : Str → Option Value) : Prop where
  int : mg "int" = none
section
variable {P : Program} {w : World} {K : PySem.W.Frag} {mg : Str → Option Value} {base : Heap}
theorem dp_ints {H : Hp} : ∀ ns : List Int, DpAll K H (ns.map V.int) (ns.map PyData.int)
  | [] => .nil
  | n :: r => .cons (.int n) (dp_ints r)
theorem scD : FnScope ["_law_stream", "_law_many", "_law_digit", "_law_mixed"] ["_law_stream", "_law_many"] (defScope sDraw) := ⟨rfl, rfl, rfl, by decide +kernel, rfl, by decide +kernel, by decide +kernel⟩
theorem ok_draw {f : Addr} {fd : FuncData} (F : Fun K "_law_draw" "_law_draw" sDraw f fd) (T : TDraw mg) : FnOk P w K mg base CX0 1 f fd ["_law_stream", "_law_many"] spDraw := by
  refine F.ok scD (fun vs H Q E h => ?_) (fun cdv A outer s H vs Q E hr h => ?_)
  · obtain ⟨st, l, c, many, rfl, _⟩ := h
    rfl
  · obtain ⟨st, l, c, many, rfl, S, hc, hm0, hm1, k⟩ := h
    have hu := hr.units
    refine ⟨_, pss_cut (ps_asg (pe_op op_add (pe_ix ix_list (pv 0) pe_int (fun _ _ => rfl)) pe_int) (pg_sub (pv 0) pe_int set_list))
      (pss_cut (ps_if (PW.pt (pw_and (pt_cmpR op_eq (pe_ix ix_list (pv 0) pe_int (fun _ _ => rfl)) pe_int (nomark _)) (pw_and1 (pt_cmpR (op_neD hu) (pe_ix ix_list (pv 0) pe_int (fun _ _ => rfl)) (pe_lst pa_nil) (nomark _)))))
        (pss_cut (ps_asg (pe_bm PySem.F.plainAttrs_list PySem.F.slot_list_pop PySem.F.type_list_pop mt_popAt (pe_ix ix_list (pv 0) pe_int (fun _ _ => rfl)) (pa_cons pe_int pa_nil)) (pg_sub (pv 0) pe_int set_list))
          (pss_one (ps_if (pt_cmpR op_lt (pe_ix ix_list (pv 0) pe_int (fun _ _ => rfl)) (pe_op op_pow pe_int pe_int) (nomark _))
            (pss_cut (ps_asg (pe_op op_mod (pe_callTy call_int1 (by rfl) T.int (by decide +kernel) (pa_cons (pe_op op_add (pe_op op_add (pe_op op_mul (pe_ix ix_list (pv 0) pe_int (fun _ _ => rfl)) pe_int) (pe_ix ix_list (pv 0) pe_int (fun _ _ => rfl))) pe_int) pa_nil)) pe_int) (pg_sub (pv 0) pe_int set_list))
              (pss_one (ps_asg pe_int (pg_sub (pv 0) pe_int set_list)))) pss_nil)))
        pss_nil)
      (pss_cut (ps_if (pt_cmpR op_gt (pe_ix ix_list (pv 0) pe_int (fun _ _ => rfl)) pe_int (nomark _))
        (pss_cons (ps_set (i := 2) scD.nd rfl (Or.inl rfl) (pe_op op_mod (pe_callTy call_int1 (by rfl) T.int (by decide +kernel) (pa_cons (pe_ix ix_list (pv 0) pe_int (fun _ _ => rfl)) pa_nil)) (pv 1)))
          (pss_cons (ps_asg (pe_op op_fdivW (pe_ix ix_list (pv 0) pe_int (fun _ _ => rfl)) (pv 1)) (pg_sub (pv 0) pe_int set_list))
            (pss_one (ps_ret (pv 2))))) pss_nil)
      (pss_cons (ps_set (i := 3) scD.nd rfl (Or.inl rfl) (pe_op op_mod (pe_op op_pow (pe_op op_add (pe_op op_add (pe_ix ix_list (pv 0) pe_int (fun _ _ => rfl)) (pe_op op_mul pe_int (pe_ix ix_list (pv 0) pe_int (fun _ _ => rfl)))) pe_int) pe_int) pe_int))
        (pss_one (ps_ret (pe_op op_mod (pe_op op_mod (pe_op op_pow (pe_op op_add (pe_op op_add (pe_op op_mul (pv 3) pe_int)
            (pe_op op_mul (pe_op op_mul pe_int (pe_ix ix_list (pv 0) pe_int (fun _ _ => rfl))) (pe_ix ix_list (pv 0) pe_int (fun _ _ => rfl)))) pe_int) pe_int) pe_int) (pv 1))))))), ?_⟩
    obtain ⟨ns, a, m, hS, hns, ha, hm, hm2⟩ := S.ex
    -- stream[2] = stream[2] + 1
    refine ⟨fun σ H' => σ = [some (.ref st), some (.int many), none, none] ∧ But st l H H' ∧ SV H' st l ns a ((c + 1 : Nat) : Int) m,
      ⟨_, rfl, st, _, _, _, rfl, rfl, SqL.of hS.1, rfl, _, _, rfl, rfl, _, rfl, st, _, 2, 2, rfl, rfl, hS.1, rfl, rfl, But.refl.st, hS.st rfl⟩, ?_⟩
    rintro _ H1 ⟨rfl, B1, S1⟩
    -- if stream[1] == 0 and stream[0] != []: ..
    refine ⟨fun σ H' => σ = [some (.ref st), some (.int many), none, none] ∧ But st l H H' ∧ Good H' st l ((c + 1 : Nat) : Int),
      ⟨_, rfl, st, _, _, _, rfl, rfl, SqL.of S1.1, rfl, rfl, _, rfl, ?_⟩, ?_⟩
    · refine ite2 (fun ea => ?_) (fun _ => iteF ⟨rfl, B1, ns, a, m, S1, hns, ha, hm, hm2⟩)
      refine ⟨_, rfl, st, _, _, _, rfl, rfl, SqL.of S1.1, rfl, Nat.zero_le _, fun p hp => ?_⟩
      have S2 := S1.new (o := .lst []) hp
      have B2 := B1.new (o := .lst []) hp
      refine ⟨.list (ns.map .int), .list [], .lst (SqL.of S2.2) ?_, .lst (SqL.of upd_same) .nil, ?_, rfl, _, rfl, ?_⟩
      · exact dp_ints ns
      · exact PySem.W.shaped_ints ns
      · cases ns with
        | nil => exact iteF ⟨rfl, B2, [], a, m, S2, hns, ha, hm, hm2⟩
        | cons n r =>
          refine iteT ?_
          have hns' : r.length ≤ 63 := by
            rw [List.length_cons] at hns
            omega
          have e0 : seqIndex? 0 (((n :: r).map V.int).length) = some 0 := by
            rw [List.length_map, List.length_cons]
            simp [seqIndex?]
          -- stream[1] = stream[0].pop(0)
          refine ⟨fun σ H' => σ = [some (.ref st), some (.int many), none, none] ∧ But st l H H' ∧ SV H' st l r n ((c + 1 : Nat) : Int) m,
            ⟨_, rfl, st, _, _, _, rfl, rfl, SqL.of S2.1, rfl, .inl ⟨rfl, _, SqL.of S2.2⟩, l, _, 0, 0, _, rfl, rfl, S2.2, by decide, by decide, e0, rfl, _, rfl, st, _, 1, 1, rfl, rfl, (S2.li (ns' := r) rfl).1, rfl, rfl, B2.li.st, (S2.li (ns' := r) rfl).st rfl⟩, ?_⟩
          rintro _ H3 ⟨rfl, B3, S3⟩
          -- if stream[1] < 10 ** 18: ..
          refine ⟨_, rfl, st, _, _, _, rfl, rfl, SqL.of S3.1, rfl, _, _, rfl, rfl, ⟨by decide, by decide, by decide⟩, _, _, rfl, rfl, _, rfl, ?_⟩
          refine ite2 (fun lt => ?_) (fun ge => ?_)
          · refine ⟨fun σ H' => σ = [some (.ref st), some (.int many), none, none] ∧ But st l H H' ∧ ∃ m' : Int, SV H' st l r n ((c + 1 : Nat) : Int) m' ∧ 0 ≤ m' ∧ m' < 2147483647,
              ⟨_, rfl, st, _, _, _, rfl, rfl, SqL.of S3.1, rfl, _, _, rfl, rfl, .inr ⟨by decide, by decide⟩, _, rfl, st, _, _, _, rfl, rfl, SqL.of S3.1, rfl, _, _, rfl, rfl, _, _, rfl, rfl, .inl ⟨_, rfl, _, _, rfl, rfl, (by show (0 : Int) < 2147483647; decide),
                _, rfl, st, _, 3, 3, rfl, rfl, S3.1, rfl, rfl, B3.st, _, S3.st rfl, Int.emod_nonneg _ (by decide), Int.emod_lt_of_pos _ (by decide)⟩⟩, ?_⟩
            rintro _ H4 ⟨rfl, B4, m', S4, h1, h2⟩
            exact ⟨_, rfl, st, _, 1, 1, rfl, rfl, S4.1, rfl, rfl, B4.st, r, 0, m', S4.st rfl, hns', by decide, h1, h2⟩
          · have ge' : ¬ n < (10 : Int) ^ (18 : Int).toNat := fun z => ge (decide_eq_true z)
            have e : (10 : Int) ^ (18 : Int).toNat = 1000000000000000000 := by decide
            rw [e] at ge'
            exact ⟨rfl, B3, r, n, m, S3, hns', by omega, hm, hm2⟩
    · rintro _ H3 ⟨rfl, B3, ns3, a3, m3, S3, hns3, ha3, hm3, hm33⟩
      have ml : many.natAbs.log2 < 9000 := by
        have := PySem.Flt.log2_lt_of (k := 20) (by decide) (show many.natAbs < 2 ^ 20 by omega)
        omega
      -- if stream[1] > 0: ..
      refine ⟨fun σ H' => σ = [some (.ref st), some (.int many), none, none] ∧ But st l H H' ∧ Good H' st l ((c + 1 : Nat) : Int),
        ⟨_, rfl, st, _, _, _, rfl, rfl, SqL.of S3.1, rfl, _, _, rfl, rfl, _, rfl, ?_⟩, ?_⟩
      · refine ite2 (fun _ => ?_) (fun _ => ⟨rfl, B3, ns3, a3, m3, S3, hns3, ha3, hm3, hm33⟩)
        refine ⟨_, rfl, st, _, _, _, rfl, rfl, SqL.of S3.1, rfl, .inl ⟨_, rfl, _, rfl, _, _, rfl, rfl, hm0, ?_⟩⟩
        refine ⟨_, rfl, st, _, _, _, rfl, rfl, SqL.of S3.1, rfl, _, rfl, _, _, rfl, rfl, ⟨hm0, ml⟩, _, rfl, st, _, 1, 1, rfl, rfl, S3.1, rfl, _, rfl, ?_⟩
        exact k _ _ (Int.emod_nonneg _ (by omega)) (Int.emod_lt_of_pos _ hm0) B3.st ⟨ns3, a3 / many, m3, S3.st rfl, hns3, Int.ediv_nonneg ha3 (by omega), hm3, hm33⟩
      · rintro _ H4 ⟨rfl, B4, ns4, a4, m4, S4, hns4, ha4, hm4, hm44⟩
        refine ⟨_, rfl, st, _, _, _, rfl, rfl, SqL.of S4.1, rfl, _, rfl, st, _, _, _, rfl, rfl, SqL.of S4.1, rfl, _, _, rfl, rfl, .inl ⟨by decide, by decide⟩, _, _, rfl, rfl, _, _, rfl, rfl, _, _, rfl, rfl, ⟨by decide, by decide, by omega⟩, _, _, rfl, rfl, (by show (0 : Int) < 2147483629; decide), ?_⟩
        generalize hx : (m4 + 104729 * ((c + 1 : Nat) : Int) + 17) ^ (5 : Int).toNat % 2147483629 = x
        have x0 : 0 ≤ x := by
          rw [← hx]
          exact Int.emod_nonneg _ (by decide)
        have x1 : x < 2147483629 := by
          rw [← hx]
          exact Int.emod_lt_of_pos _ (by decide)
        have cc : 40503 * ((c + 1 : Nat) : Int) * ((c + 1 : Nat) : Int) ≤ 40503 * 1000001 * 1000001 := Int.mul_le_mul (by omega) (by omega) (by omega) (by decide)
        have c0 : 0 ≤ 40503 * ((c + 1 : Nat) : Int) * ((c + 1 : Nat) : Int) := Int.mul_nonneg (by omega) (by omega)
        refine ⟨_, rfl, _, _, rfl, rfl, .inr ⟨by decide, by decide⟩, _, rfl, st, _, _, _, rfl, rfl, SqL.of S4.1, rfl, _, _, rfl, rfl, .inl ⟨by decide, by decide⟩, _, rfl, st, _, _, _, rfl, rfl, SqL.of S4.1, rfl, _, _, rfl, rfl, .inr ⟨by omega, by omega⟩,
          _, _, rfl, rfl, _, _, rfl, rfl, _, _, rfl, rfl, ⟨by decide, by decide, by omega⟩, _, _, rfl, rfl, (by show (0 : Int) < 1000000007; decide), _, rfl, _, _, rfl, rfl, hm0, ?_⟩
        exact k _ _ (Int.emod_nonneg _ (by omega)) (Int.emod_lt_of_pos _ hm0) B4 ⟨ns4, a4, m4, S4, hns4, ha4, hm4, hm44⟩
end
theorem at_int {α : Type} {xs : List α} {d : Int} (d0 : 0 ≤ d) (d1 : d < xs.length) : ∃ (i : Nat) (x : α), xs[i]? = some x ∧ atI xs d = some x := by
  obtain ⟨n, rfl⟩ := Int.eq_ofNat_of_zero_le d0
  have hlt : n < xs.length := by omega
  exact ⟨n, xs[n], List.getElem?_eq_getElem hlt, atI_nat (List.getElem?_eq_getElem hlt)⟩
theorem But.trans {st l : Addr} {H H1 H2 : Hp} (a : But st l H H1) (b : But st l H1 H2) : But st l H H2 := fun c o h n1 n2 => b c o (a c o h n1 n2) n1 n2
theorem But.same {st l : Addr} {H H1 : Hp} (a : Same H H1) : But st l H H1 := fun c o h _ _ => a c o h
theorem Strm.up {H H' : Hp} {st l : Addr} {c : Nat} (S : Strm H st l c) (e : Same H H') : Strm H' st l c := by
  obtain ⟨ns, a, m, ⟨h1, h2⟩, r⟩ := S.ex
  exact ⟨ns, a, m, ⟨e _ _ h1, e _ _ h2⟩, r⟩
theorem same_new {H : Hp} {p : Addr} {o : HO} (h : H p = none) : Same H (upd H p o) := fun a u e => by
  rw [upd_ne (ne_of_none e h)]
  exact e
theorem Strm.ne_new {H : Hp} {st l p : Addr} {c : Nat} (S : Strm H st l c) (h : H p = none) : p ≠ st ∧ p ≠ l := by
  obtain ⟨ns, a, m, ⟨h1, h2⟩, r⟩ := S.ex
  exact ⟨(ne_of_none h1 h).symm, (ne_of_none h2 h).symm⟩
theorem But.put {st l p : Addr} {H H' : Hp} {o : HO} (a : But st l H H') (h : H p = none) : But st l H (upd H' p o) := fun c u e n1 n2 => by
  rw [upd_ne (ne_of_none e h)]
  exact a c u e n1 n2
theorem Strm.put {H : Hp} {st l p : Addr} {c : Nat} {o : HO} (S : Strm H st l c) (n : p ≠ st ∧ p ≠ l) : Strm (upd H p o) st l c := by
  obtain ⟨ns, a, m, ⟨h1, h2⟩, r⟩ := S.ex
  exact ⟨ns, a, m, ⟨by rw [upd_ne n.1.symm]; exact h1, by rw [upd_ne n.2.symm]; exact h2⟩, r⟩
def spPickL : Sp := fun vs H Q _ => ∃ (st l : Addr) (c : Nat) (p : Addr) (xs : List V), vs = [.ref st, .ref p] ∧ Strm H st l c ∧ c ≤ 1000000 ∧ H p = some (.lst xs) ∧ p ≠ st ∧ p ≠ l ∧ 0 < xs.length ∧ xs.length < 1000 ∧
  ∀ (i : Nat) (x : V) (H' : Hp), xs[i]? = some x → But st l H H' → Strm H' st l (c + 1) → Q x H'
def spPickS : Sp := fun vs H Q _ => ∃ (st l : Addr) (c : Nat) (z : Str), vs = [.ref st, .str z] ∧ Strm H st l c ∧ c ≤ 1000000 ∧ 0 < z.length ∧ z.length < 1000 ∧
  ∀ (ch : Nat) (H' : Hp), ch ∈ z.cps.toList → But st l H H' → Strm H' st l (c + 1) → Q (.str ⟨#[ch]⟩) H'
def spPick : Sp := fun vs H Q E => spPickL vs H Q E ∨ spPickS vs H Q E
/-- what the small defs lean on -/
structure TG1 (K : PySem.W.Frag) (mg : Str → Option Value) (fD : Addr) (fdD : FuncData) : Prop where
  int : mg "int" = none
  len : mg "len" = none
  range : mg "range" = none
  list : mg "list" = none
  mD : mg "_law_draw" = some (.ref fD)
  kD : PySem.W.keepIn K (.ref fD) = true
  bD : L2.Binds K fdD ["_law_stream", "_law_many"] []
section
variable {P : Program} {w : World} {K : PySem.W.Frag} {mg : Str → Option Value} {base : Heap} {fD : Addr} {fdD : FuncData}
theorem scP : FnScope ["_law_stream", "_law_things"] ["_law_stream", "_law_things"] (defScope sPick) := ⟨rfl, rfl, rfl, by decide +kernel, rfl, by decide +kernel, by decide +kernel⟩
theorem ok_pick {f : Addr} {fd : FuncData} (F : Fun K "_law_pick" "_law_pick" sPick f fd) (T : TG1 K mg fD fdD) (GD : FnOk P w K mg base CX0 1 fD fdD ["_law_stream", "_law_many"] spDraw) : FnOk P w K mg base CX0 2 f fd ["_law_stream", "_law_things"] spPick := by
  refine F.ok scP (fun vs H Q E h => ?_) (fun cdv A outer s H vs Q E hr h => ?_)
  · rcases h with ⟨st, l, c, p, xs, rfl, _⟩ | ⟨st, l, c, z, rfl, _⟩
    · rfl
    · rfl
  · rcases h with ⟨st, l, c, p, xs, rfl, S, hc, hp, n1, n2, h0, h1, k⟩ | ⟨st, l, c, z, rfl, S, hc, h0, h1, k⟩
    · refine ⟨_, pss_one (ps_ret (pe_ix ix_list (pv 1) (pe_call GD hr rfl T.mD T.kD T.bD .nil pass0 (pa_cons (pv 0) (pa_cons (pe_callB call_len_seq (by rfl) T.len PySem.boot_len (pa_cons (pv 1) pa_nil)) pa_nil))) (fun _ _ => rfl))), ?_⟩
      refine ⟨_, rfl, _, rfl, _, rfl, p, xs, rfl, .inl (SqL.of hp), st, l, c, _, rfl, S, hc, by omega, by omega, fun d H' d0 d1 B S' => ?_⟩
      have hp' := B _ _ hp n1 n2
      obtain ⟨i, x, hx, ha⟩ := at_int d0 d1
      exact ⟨p, xs, d, x, rfl, rfl, SqL.of hp', ha, k _ _ _ hx B S'⟩
    · refine ⟨_, pss_one (ps_ret (pe_ix ix_str (pv 1) (pe_call GD hr rfl T.mD T.kD T.bD .nil pass0 (pa_cons (pv 0) (pa_cons (pe_callB call_len_str (by rfl) T.len PySem.boot_len (pa_cons (pv 1) pa_nil)) pa_nil))) (fun _ _ => rfl))), ?_⟩
      have hzs : z.length ≤ sizeLine := Nat.le_of_lt (Nat.lt_of_lt_of_le h1 (by decide))
      refine ⟨_, rfl, _, rfl, _, rfl, z, rfl, hzs, st, l, c, _, rfl, S, hc, by omega, by omega, fun d H' d0 d1 B S' => ?_⟩
      have el : z.cps.toList.length = z.length := by simp [Str.length]
      obtain ⟨i, x, hx, ha⟩ := at_int (xs := z.cps.toList) d0 (by rw [el]; exact d1)
      exact ⟨z, d, x, rfl, rfl, hzs, ha, k _ _ (List.mem_of_getElem? hx) B S'⟩
end
end Z

set_option maxHeartbeats 3900000
namespace Z
open PySem PySem.Spec PyProof.Rows L2 TL
open C8 (pss_cut tCut pe_gc)
/-! names, lists of texts -/
def IsNm (z : Str) : Prop := 1 ≤ z.length ∧ z.length ≤ 8 ∧ ∀ c ∈ tl z, 97 ≤ c ∧ c ≤ 122
instance (z : Str) : Decidable (IsNm z) := by unfold IsNm; infer_instance
abbrev letters : Str := "abcdefghijklmnopqrstuvwxyz"
theorem letter_at : ∀ i, i < 26 → (letters.cps.toList)[i]? = some (97 + i) := by decide +kernel
theorem letters_all : ∀ c ∈ letters.cps.toList, 97 ≤ c ∧ c ≤ 122 := by decide +kernel
theorem join_one : ∀ cs : List Nat, tl (Txt.join "" (cs.map fun c => (⟨#[c]⟩ : Str))) = cs
  | [] => by
    rw [join_eq]
    rfl
  | [c] => by
    rw [join_eq]
    rfl
  | c :: d :: r => by
    have ih := join_one (d :: r)
    rw [join_eq] at ih ⊢
    have e : Str.join "" ((c :: d :: r).map fun c => (⟨#[c]⟩ : Str)) = (⟨#[c]⟩ : Str) ++ "" ++ Str.join "" ((d :: r).map fun c => (⟨#[c]⟩ : Str)) := rfl
    rw [e, tl_append, tl_append, ih]
    rfl
theorem len_tl (z : Str) : z.length = (tl z).length := by simp [Str.length, tl]
theorem name_of_letters {cs : List Nat} (h1 : 1 ≤ cs.length) (h8 : cs.length ≤ 8) (h : ∀ c ∈ cs, 97 ≤ c ∧ c ≤ 122) : IsNm (Txt.join "" (cs.map fun c => (⟨#[c]⟩ : Str))) := by
  refine ⟨?_, ?_, ?_⟩
  · rw [len_tl, join_one]
    exact h1
  · rw [len_tl, join_one]
    exact h8
  · rw [join_one]
    exact h
/-- the spare names -/
def spare (i : Nat) : Str := "q" ++ (⟨#[97 + i / 26]⟩ : Str) ++ (⟨#[97 + i % 26]⟩ : Str)
theorem spare_tl (i : Nat) : tl (spare i) = [113, 97 + i / 26, 97 + i % 26] := by
  unfold spare
  rw [tl_append, tl_append]
  rfl
theorem spare_nm {i : Nat} (h : i < 676) : IsNm (spare i) := by
  refine ⟨?_, ?_, ?_⟩
  · rw [len_tl, spare_tl]
    exact Nat.succ_le_succ (Nat.zero_le 2)
  · rw [len_tl, spare_tl]
    exact Nat.le_of_ble_eq_true rfl
  · rw [spare_tl]
    intro c hc
    simp only [List.mem_cons, List.not_mem_nil, or_false] at hc
    omega
theorem spare_inj {i j : Nat} (h : spare i = spare j) : i = j := by
  have e := congrArg tl h
  rw [spare_tl, spare_tl] at e
  simp only [List.cons.injEq, and_true, true_and] at e
  omega
theorem pigeon {α : Type} [DecidableEq α] : ∀ (l m : List α), l.Nodup → (∀ x ∈ l, x ∈ m) → l.length ≤ m.length
  | [], _, _, _ => Nat.zero_le _
  | x :: r, m, nd, h => by
    have hx := h x List.mem_cons_self
    have nd2 := List.nodup_cons.mp nd
    have ih := pigeon r (m.erase x) nd2.2 fun y hy => (List.mem_erase_of_ne fun z => nd2.1 (by rw [← z]; exact hy)).mpr (h y (List.mem_cons_of_mem _ hy))
    rw [List.length_erase_of_mem hx] at ih
    have := List.length_pos_of_mem hx
    rw [List.length_cons]
    omega
theorem spares_many {taken : List Str} (h : ∀ i, i < 676 → spare i ∈ taken) : 100 ≤ taken.length := by
  have q := pigeon ((List.range 100).map spare) taken ?_ ?_
  · rw [List.length_map, List.length_range] at q
    exact q
  · exact List.Pairwise.map spare (fun a b h e => h (spare_inj e)) List.nodup_range
  · intro x hx
    obtain ⟨i, hi, rfl⟩ := List.mem_map.mp hx
    exact h i (by have := List.mem_range.mp hi; omega)
theorem inV_strs (z : Str) : ∀ zs : List Str, inV (.str z) (zs.map V.str) = decide (z ∈ zs)
  | [] => rfl
  | y :: r => by
    have ih := inV_strs z r
    show (eqV (.str y) (.str z) || inV (.str z) (r.map V.str)) = decide (z ∈ y :: r)
    rw [ih]
    show ((y == z) || decide (z ∈ r)) = decide (z ∈ y :: r)
    by_cases e : y = z
    · subst e
      simp
    · have e2 : z ≠ y := fun q => e q.symm
      simp [e, e2]
theorem flat_strs : ∀ zs : List Str, (zs.map V.str).all flatV = true
  | [] => rfl
  | _ :: r => flat_strs r
/-- a list of texts is none of the stream's lists -/
theorem strs_but {H H' : Hp} {st l p : Addr} {c : Nat} {z : Str} {zs : List V} (S : Strm H st l c) (B : But st l H H') (h : H p = some (.lst (.str z :: zs))) : H' p = some (.lst (.str z :: zs)) := by
  obtain ⟨ns, a, m, ⟨h1, h2⟩, _⟩ := S.ex
  refine B _ _ h (ne_of h h1 fun q => ?_) (ne_of h h2 fun q => ?_)
  · have := HO.lst.inj q
    have := (List.cons.inj this).1
    cases this
  · have e : V.str z :: zs = ns.map V.int := HO.lst.inj q
    cases ns with
    | nil => cases e
    | cons n r =>
      rw [List.map_cons] at e
      have := (List.cons.inj e).1
      cases this
end Z

set_option maxHeartbeats 3900000
namespace Z
open PySem PySem.Spec PyProof.Rows L2 TL
open C8 (pss_cut tCut pe_gc)
theorem at_map {α β : Type} {f : α → β} {xs : List α} {d : Int} {x : α} (h : atI xs d = some x) : atI (xs.map f) d = some (f x) := by
  unfold atI at h ⊢
  rw [List.length_map]
  cases e : ixN xs.length d with
  | none =>
    rw [e] at h
    cases h
  | some j =>
    rw [e] at h
    have h2 : xs[j]? = some x := h
    show (xs.map f)[j]? = some (f x)
    rw [List.getElem?_map, h2]
    rfl
/-- a def as others call it -/
structure At (K : PySem.W.Frag) (mg : Str → Option Value) (x : Str) (f : Addr) (fd : FuncData) (ps : List Str) : Prop where
  m : mg x = some (.ref f)
  k : PySem.W.keepIn K (.ref f) = true
  b : L2.Binds K fd ps []
structure TB (mg : Str → Option Value) : Prop where
  int : mg "int" = none
  len : mg "len" = none
  range : mg "range" = none
  list : mg "list" = none
  tuple : mg "tuple" = none
  any : mg "any" = none
  all : mg "all" = none
  sorted : mg "sorted" = none
  isinstance : mg "isinstance" = none
  enumerate : mg "enumerate" = none
  zip : mg "zip" = none
  str : mg "str" = none
abbrev aD' (K : PySem.W.Frag) (mg : Str → Option Value) (f : Addr) (fd : FuncData) := At K mg "_law_draw" f fd ["_law_stream", "_law_many"]
def texts : List Str := ["", "x", "y", "x y", "no", "yes", "a/b", "-", "xa", "xb", "X"]
def spText : Sp := fun vs H Q _ => ∃ (st l : Addr) (c : Nat), vs = [.ref st] ∧ Strm H st l c ∧ c ≤ 1000000 ∧
  ∀ (z : Str) (H' : Hp), z ∈ texts → But st l H H' → Strm H' st l (c + 1) → Q (.str z) H'
/-- a list of names, where the stream is none of it -/
structure Pool (H : Hp) (st l p : Addr) (zs : List Str) : Prop where
  h : H p = some (.lst (zs.map V.str))
  n1 : p ≠ st
  n2 : p ≠ l
theorem Pool.but {H H' : Hp} {st l p : Addr} {zs : List Str} (h : Pool H st l p zs) (B : But st l H H') : Pool H' st l p zs := ⟨B _ _ h.h h.n1 h.n2, h.n1, h.n2⟩
def spPath : Sp := fun vs H Q _ => ∃ (st l p : Addr) (c : Nat) (zs : List Str) (most : Int), vs = [.ref st, .ref p, .int most] ∧ Strm H st l c ∧ c ≤ 900000 ∧ Pool H st l p zs ∧ 0 < zs.length ∧ zs.length < 1000 ∧ (∀ z ∈ zs, IsNm z) ∧ 0 < most ∧ most < 1000 ∧
  ∀ (ys : List Str) (H' : Hp) (c' : Nat), 1 ≤ ys.length → (ys.length : Int) ≤ most → (∀ y ∈ ys, y ∈ zs) → But st l H H' → Strm H' st l c' → c' ≤ c + 1 + most.toNat → Q (.str (Txt.join "/" ys)) H'
def spFresh : Sp := fun vs H Q _ => ∃ (st l p : Addr) (c : Nat) (zs : List Str), vs = [.ref st, .ref p] ∧ Strm H st l c ∧ c ≤ 900000 ∧ Pool H st l p zs ∧ zs.length < 100 ∧
  ∀ (z : Str) (H' : Hp) (c' : Nat), IsNm z → z ∉ zs → But st l H H' → Strm H' st l c' → c' ≤ c + 11 → Q (.str z) H'
section
variable {P : Program} {w : World} {K : PySem.W.Frag} {mg : Str → Option Value} {base : Heap} {fD fP fPa fFr : Addr} {fdD fdP fdPa fdFr : FuncData}
theorem scPa : FnScope ["_law_stream", "_law_pool_here", "_law_most", "_law_k"] ["_law_stream", "_law_pool_here", "_law_most"] (defScope sPath) := ⟨rfl, rfl, rfl, by decide +kernel, rfl, by decide +kernel, by decide +kernel⟩
theorem names_len {ys : List Str} (h : ∀ y ∈ ys, y.length ≤ 8) : (ys.map (·.length)).sum ≤ ys.length * 8 := by
  induction ys with
  | nil => exact Nat.le_refl _
  | cons y r ih =>
    have := ih fun z hz => h z (List.mem_cons_of_mem _ hz)
    have := h y List.mem_cons_self
    simp only [List.map_cons, List.sum_cons, List.length_cons]
    omega
theorem ok_path {f : Addr} {fd : FuncData} (F : Fun K "_law_path" "_law_path" sPath f fd) (T : TB mg) (aD : aD' K mg fD fdD) (aP : At K mg "_law_pick" fP fdP ["_law_stream", "_law_things"]) (GD : FnOk P w K mg base CX0 1 fD fdD ["_law_stream", "_law_many"] spDraw)
    (GP : FnOk P w K mg base CX0 2 fP fdP ["_law_stream", "_law_things"] spPick) : FnOk P w K mg base CX0 3 f fd ["_law_stream", "_law_pool_here", "_law_most"] spPath := by
  refine F.ok scPa (fun vs H Q E h => ?_) (fun cdv A outer s H vs Q E hr h => ?_)
  · obtain ⟨st, l, p, c, zs, most, rfl, _⟩ := h
    rfl
  · obtain ⟨st, l, p, c, zs, most, rfl, S, hc, L, z0, z1, nm, m0, m1, k⟩ := h
    refine ⟨_, pss_one (ps_ret (pe_join pe_str (pe_lc (own := [("_law_k", 3)]) (g := gName 3) (tt := tYes) rfl scPa.nd (pi_range1 rfl T.range (pa_cons (pe_op op_add pe_int (pe_call GD (hr.mono (by decide)) rfl aD.m aD.k aD.b .nil pass0 (pa_cons (pv 0) (pa_cons (pv 2) pa_nil)))) pa_nil)) (blkOk_by (own := [("_law_k", 3)]) (N := ["_law_stream", "_law_pool_here", "_law_most", "_law_k"]) (sc := defScope sPath) (by decide +kernel)) (fun _ _ _ _ _ => (pg_name (i := 3) scPa.nd rfl (Or.inl rfl))) (fun _ _ _ _ _ => pts_nil) (fun _ _ _ _ _ => (pe_call GP (hr.mono (by decide)) rfl aP.m aP.k aP.b .nil pass0 (pa_cons (pv 0) (pa_cons (pv 1) pa_nil))))))), ?_⟩
    refine ⟨⟨_, rfl⟩, _, rfl, _, rfl, st, l, c, _, rfl, S, by omega, m0, by omega, fun d H1 d0 d1 B1 S1 => ?_⟩
    obtain ⟨n, hn⟩ : ∃ n : Nat, 1 + d = (n : Int) := ⟨(1 + d).toNat, by omega⟩
    refine ⟨_, _, rfl, rfl, 1 + d, rfl, by omega, by omega, fun D hD => ?_⟩
    rw [show (1 + d).toNat = n by omega]
    refine lc_range (lo := 0) (n := n) (fun i H' => But st l H1 H' ∧ Strm H' st l (c + 1 + i) ∧ ∃ ys : List Str, ys.length = i ∧ H' D = some (.lst (ys.map V.str)) ∧ ∀ y ∈ ys, y ∈ zs)
      ⟨But.same (same_new hD), S1.up (same_new hD), [], rfl, upd_same, by simp⟩ ?_ ?_
    · rintro i H' hi ⟨B', S', ys, hy, hD', hs⟩
      have nD := S1.ne_new hD
      have L' := L.but (B1.trans B')
      refine ⟨rfl, _, rfl, _, rfl, .inl ⟨st, l, c + 1 + i, p, zs.map V.str, rfl, S', by omega, L'.h, L'.n1, L'.n2, by rw [List.length_map]; exact z0, by rw [List.length_map]; exact z1, fun j x H'' hx B'' S'' => ?_⟩⟩
      obtain ⟨z, hz, rfl⟩ := List.mem_map.mp (List.mem_of_getElem? hx)
      refine ⟨_, B'' _ _ hD' nD.1 nD.2, ?_, (B'.trans B'').put hD, S''.put nD, ys ++ [z], ?_, ?_, fun y hy' => ?_⟩
      · rw [List.length_map, hy]
        exact Nat.lt_of_lt_of_le (show i < 1001 by omega) (by decide)
      · rw [List.length_append, hy]
        rfl
      · rw [upd_same, List.map_append]
        rfl
      · rcases List.mem_append.mp hy' with q | q
        · exact hs y q
        · rw [List.mem_singleton.mp q]
          exact hz
    · rintro H' ⟨B', S', ys, hy, hD', hs⟩
      refine ⟨_, D, ys, rfl, rfl, .inl (SqL.of hD'), ?_, k ys H' (c + 1 + n) (by omega) (by omega) hs (B1.trans B') S' (by omega)⟩
      have := names_len fun y q => (nm y (hs y q)).2.1
      have e : (("/" : Str).length) = 1 := by decide
      rw [e]
      omega
def fwords : List Str := ["read", "list", "setting", "tool", "end", "main", "none"]
theorem fwords_nm : ∀ z ∈ fwords, IsNm z := by decide +kernel
def nums : List Int := [1, 1, 1, 2, 3, 8]
theorem nums_ok : ∀ n ∈ nums, 1 ≤ n ∧ n ≤ 8 := by decide
theorem scFr : FnScope ["_law_stream", "_law_taken", "_law_letters", "_law_words", "_law_k", "_law_name", "_law_spare"] ["_law_stream", "_law_taken"] (defScope sFresh) := ⟨rfl, rfl, rfl, by decide +kernel, rfl, by decide +kernel, by decide +kernel⟩
theorem ok_fresh {f : Addr} {fd : FuncData} (F : Fun K "_law_fresh" "_law_fresh" sFresh f fd) (T : TB mg) (aD : aD' K mg fD fdD) (aP : At K mg "_law_pick" fP fdP ["_law_stream", "_law_things"]) (GD : FnOk P w K mg base CX0 1 fD fdD ["_law_stream", "_law_many"] spDraw)
    (GP : FnOk P w K mg base CX0 2 fP fdP ["_law_stream", "_law_things"] spPick) : FnOk P w K mg base CX0 3 f fd ["_law_stream", "_law_taken"] spFresh := by
  refine F.ok scFr (fun vs H Q E h => ?_) (fun cdv A outer s H vs Q E hr h => ?_)
  · obtain ⟨st, l, p, c, zs, rfl, _⟩ := h
    rfl
  · obtain ⟨st, l, p, c, zs, rfl, S, hc, L, z1, k⟩ := h
    refine ⟨_, pss_cut (ps_asg (pe_tup (pa_cons pe_str (pa_cons (pe_lst (pa_cons pe_str (pa_cons pe_str (pa_cons pe_str (pa_cons pe_str (pa_cons pe_str (pa_cons pe_str (pa_cons pe_str pa_nil)))))))) pa_nil))) (pg_tup rfl (pgs_cons (pg_name (i := 2) scFr.nd rfl (Or.inr rfl)) (pgs_cons (pg_name (i := 3) scFr.nd rfl (Or.inl rfl)) pgs_nil))))
        (pss_cut (ps_set (i := 5) scFr.nd rfl (Or.inl rfl) (pe_join pe_str (pe_lc (own := [("_law_k", 4)]) (g := gName 4) (tt := tYes) rfl scFr.nd (pi_range1 rfl T.range (pa_cons (pe_ix ix_list (pe_lst (pa_cons pe_int (pa_cons pe_int (pa_cons pe_int (pa_cons pe_int (pa_cons pe_int (pa_cons pe_int pa_nil))))))) (pe_call GD (hr.mono (by decide)) rfl aD.m aD.k aD.b .nil pass0 (pa_cons (pv 0) (pa_cons pe_int pa_nil))) (fun _ _ => rfl)) pa_nil)) (blkOk_by (own := [("_law_k", 4)]) (N := ["_law_stream", "_law_taken", "_law_letters", "_law_words", "_law_k", "_law_name", "_law_spare"]) (sc := defScope sFresh) (by decide +kernel)) (fun _ _ _ _ _ => (pg_name (i := 4) scFr.nd rfl (Or.inl rfl))) (fun _ _ _ _ _ => pts_nil) (fun _ _ _ _ _ => (pe_ix ix_str (pv 2) (pe_call GD (hr.mono (by decide)) rfl aD.m aD.k aD.b .nil pass0 (pa_cons (pv 0) (pa_cons pe_int pa_nil))) (fun _ _ => rfl))))))
        (pss_cut (ps_set (i := 5) scFr.nd rfl (Or.inl rfl) (pe_ifExp (pt_cmpR op_eq (pe_call GD (hr.mono (by decide)) rfl aD.m aD.k aD.b .nil pass0 (pa_cons (pv 0) (pa_cons pe_int pa_nil))) pe_int (nomark _)) (pe_call GP (hr.mono (by decide)) rfl aP.m aP.k aP.b .nil pass0 (pa_cons (pv 0) (pa_cons (pv 3) pa_nil))) (pv 5)))
        (pss_cut (ps_for PassesOwn.never rfl (pi_range1 rfl T.range (pa_cons (pe_op op_mul pe_int (pe_callTy call_int1 (by rfl) T.int (by decide +kernel) (pa_cons (pe_cmpR op_in_seq (pv 5) (pv 1) (by rfl)) pa_nil))) pa_nil)) (pg_name (i := 4) scFr.nd rfl (Or.inl rfl)) (pss_cut (ps_set (i := 6) scFr.nd rfl (Or.inl rfl) (pe_op op_add_str (pe_op op_add_str pe_str (pe_ix ix_str (pv 2) (pe_op op_fdiv (pv 4) pe_int) (fun _ _ => rfl))) (pe_ix ix_str (pv 2) (pe_op op_mod (pv 4) pe_int) (fun _ _ => rfl))))
        (pss_one (ps_if (pt_cmpR op_notIn_seq (pv 6) (pv 1) (by rfl)) (pss_one (ps_ret (pv 6))) (pss_nil)))))
        (pss_one (ps_ret (pv 5)))))), ?_⟩
    -- letters, words
    refine ⟨fun σ H' => ∃ q, σ = [some (.ref st), some (.ref p), some (.str letters), some (.ref q), none, none, none] ∧ But st l H H' ∧ Strm H' st l c ∧ Pool H' st l q fwords, ?_, ?_⟩
    · refine ⟨by show 7 ≤ sizeLine; decide, fun q hq => ⟨by show 2 ≤ sizeLine; decide, fun t ht => ?_⟩⟩
      have nq := S.ne_new hq
      have nt : q ≠ t := ne_of_none upd_same ht
      have s1 : Same H (upd (upd H q (.lst (fwords.map V.str))) t (.tup [.str letters, .ref q])) := (same_new hq).trans (same_new ht)
      exact ⟨t, _, rfl, SqT.of upd_same, rfl, _, _, rfl, _, _, rfl, rfl, q, rfl, But.same s1, S.up s1, ⟨by rw [upd_ne nt]; exact upd_same, nq.1, nq.2⟩⟩
    rintro _ H1 ⟨q, rfl, B1, S1, Lq⟩
    -- name = ''.join(..)
    refine ⟨fun σ H' => ∃ z x4 c', σ = [some (.ref st), some (.ref p), some (.str letters), some (.ref q), x4, some (.str z), none] ∧ IsNm z ∧ But st l H H' ∧ Strm H' st l c' ∧ c' ≤ c + 9 ∧ Pool H' st l q fwords, ?_, ?_⟩
    · refine ⟨⟨_, rfl⟩, by show 6 ≤ sizeLine; decide, fun u hu => ⟨_, rfl, st, l, c, _, rfl, S1.up (same_new hu), by omega, by decide, by decide, fun d H2 d0 d1 B2 S2 => ?_⟩⟩
      have nu := S1.ne_new hu
      have hu' := B2 _ _ upd_same nu.1 nu.2
      obtain ⟨i, x, hx, ha⟩ := at_int (xs := nums) d0 (by exact d1)
      obtain ⟨x0, x8⟩ := nums_ok x (List.mem_of_getElem? hx)
      obtain ⟨n, rfl⟩ := Int.eq_ofNat_of_zero_le (show 0 ≤ x by omega)
      have ha2 : atI (nums.map V.int) d = some (.int (n : Int)) := at_map ha
      refine ⟨u, _, d, _, rfl, rfl, SqL.of hu', ha2, (n : Int), rfl, by omega, by omega, fun D hD => ?_⟩
      have B02 : But st l H1 H2 := (But.same (same_new hu)).trans B2
      have nD := S2.ne_new hD
      refine lc_range (lo := 0) (n := n) (fun i H' => But st l H2 H' ∧ Strm H' st l (c + 1 + i) ∧ ∃ ys : List Nat, ys.length = i ∧ H' D = some (.lst ((ys.map fun c => (⟨#[c]⟩ : Str)).map V.str)) ∧ ∀ y ∈ ys, 97 ≤ y ∧ y ≤ 122)
        ⟨But.same (same_new hD), S2.up (same_new hD), [], rfl, upd_same, by simp⟩ ?_ ?_
      · rintro i H' hi ⟨B', S', ys, hy, hD', hs⟩
        refine ⟨rfl, _, rfl, _, rfl, st, l, c + 1 + i, _, rfl, S', by omega, by decide, by decide, fun e H'' e0 e1 B'' S'' => ?_⟩
        obtain ⟨j, y, hj, hat⟩ := at_int (xs := letters.cps.toList) e0 (by exact e1)
        refine ⟨letters, e, y, rfl, rfl, by decide, hat, _, B'' _ _ hD' nD.1 nD.2, ?_, (B'.trans B'').put hD, S''.put nD, ys ++ [y], ?_, ?_, fun v hv => ?_⟩
        · rw [List.length_map, List.length_map, hy]
          exact Nat.lt_of_lt_of_le (show i < 1001 by omega) (by decide)
        · rw [List.length_append, hy]
          rfl
        · rw [upd_same, List.map_append, List.map_append]
          rfl
        · rcases List.mem_append.mp hv with g | g
          · exact hs v g
          · rw [List.mem_singleton.mp g]
            exact letters_all y (List.mem_of_getElem? hj)
      · rintro H' ⟨B', S', ys, hy, hD', hs⟩
        refine ⟨_, D, ys.map fun c => ⟨#[c]⟩, rfl, rfl, .inl (SqL.of hD'), ?_, _, none, c + 1 + n, rfl, name_of_letters (by omega) (by omega) hs, B1.trans (B02.trans B'), S', by omega, (Lq.but B02).but B'⟩
        have := names_len (ys := ys.map fun c => (⟨#[c]⟩ : Str)) fun y q => by
          obtain ⟨c, _, rfl⟩ := List.mem_map.mp q
          exact (by decide : 1 ≤ 8)
        have e : (("" : Str).length) = 0 := by decide
        rw [e]
        rw [List.length_map] at this ⊢
        omega
    rintro _ H2 ⟨z, x4, c2, rfl, nz, B2, S2, hc2, Lq2⟩
    -- name = pick(words) if draw(9) == 0 else name
    refine ⟨fun σ H' => ∃ z x4 c', σ = [some (.ref st), some (.ref p), some (.str letters), some (.ref q), x4, some (.str z), none] ∧ IsNm z ∧ But st l H H' ∧ Strm H' st l c' ∧ c' ≤ c + 11, ?_, ?_⟩
    · refine ⟨_, rfl, st, l, c2, _, rfl, S2, by omega, by decide, by decide, fun d H3 d0 d1 B3 S3 => ⟨rfl, _, rfl, ?_⟩⟩
      refine ite2 (fun _ => ?_) (fun _ => ?_)
      · have Lq3 := Lq2.but B3
        refine ⟨_, rfl, _, rfl, .inl ⟨st, l, c2 + 1, q, _, rfl, S3, by omega, Lq3.h, Lq3.n1, Lq3.n2, by decide, by decide, fun j x H4 hx B4 S4 => ?_⟩⟩
        obtain ⟨y, hy, rfl⟩ := List.mem_map.mp (List.mem_of_getElem? hx)
        exact ⟨y, x4, c2 + 1 + 1, rfl, fwords_nm y hy, (B2.trans B3).trans B4, S4, by omega⟩
      · exact ⟨_, rfl, z, x4, c2 + 1, rfl, nz, B2.trans B3, S3, by omega⟩
    rintro _ H3 ⟨z, x4, c3, rfl, nz, B3, S3, hc3⟩
    have L3 := L.but B3
    -- the spare names
    refine ⟨fun σ H' => ∃ x4 x6, σ = [some (.ref st), some (.ref p), some (.str letters), some (.ref q), x4, some (.str z), x6] ∧ H' = H3 ∧ z ∉ zs, ?_, ?_⟩
    · refine ⟨_, rfl, _, rfl, p, _, rfl, .inl (SqL.of L3.h), rfl, flat_strs zs, .inr ⟨_, rfl, _, _, rfl, rfl, .inl ⟨by decide, by decide⟩, ?_⟩⟩
      have fz : (if false = true then !inV (.str z) (zs.map V.str) else inV (.str z) (zs.map V.str)) = decide (z ∈ zs) := inV_strs z zs
      rw [fz]
      by_cases hz : z ∈ zs
      · rw [decide_eq_true hz]
        refine ⟨676, rfl, by decide, by decide, for_range (lo := 0) (n := 676) (fun i σ H' => ∃ x4 x6, σ = [some (.ref st), some (.ref p), some (.str letters), some (.ref q), x4, some (.str z), x6] ∧ H' = H3 ∧ ∀ j, j < i → spare j ∈ zs)
          ⟨x4, none, rfl, rfl, fun j hj => absurd hj (Nat.not_lt_zero j)⟩ ?_ ?_⟩
        · rintro i _ H4 hi ⟨y4, y6, rfl, rfl, hs⟩
          have q1 : (0 + (i : Int)) / 26 = ((i / 26 : Nat) : Int) := by omega
          have q2 : (0 + (i : Int)) % 26 = ((i % 26 : Nat) : Int) := by omega
          refine ⟨fun σ H' => σ = [some (.ref st), some (.ref p), some (.str letters), some (.ref q), some (.int (0 + i)), some (.str z), some (.str (spare i))] ∧ H' = H4, ?_, ?_⟩
          · refine ⟨_, rfl, _, rfl, _, _, rfl, rfl, ⟨by decide, by decide⟩, letters, _, 97 + i / 26, rfl, rfl, by decide, ?_, _, _, rfl, rfl, (show 2 ≤ sizeLine by decide), _, rfl, _, rfl, _, _, rfl, rfl, (by show (0 : Int) < 26; decide), letters, _, 97 + i % 26, rfl, rfl, by decide, ?_, _, _, rfl, rfl, (show 3 ≤ sizeLine by decide), rfl, rfl⟩
            · rw [q1]
              exact atI_nat (letter_at _ (by omega))
            · rw [q2]
              exact atI_nat (letter_at _ (by omega))
          rintro _ _ ⟨rfl, rfl⟩
          refine ⟨_, rfl, _, rfl, p, _, rfl, .inl (SqL.of L3.h), rfl, flat_strs zs, ?_⟩
          have fs : (if true = true then !inV (.str (spare i)) (zs.map V.str) else inV (.str (spare i)) (zs.map V.str)) = !decide (spare i ∈ zs) := congrArg (! ·) (inV_strs (spare i) zs)
          rw [fs]
          by_cases hsp : spare i ∈ zs
          · rw [decide_eq_true hsp]
            refine ⟨_, rfl, iteF ⟨_, _, rfl, rfl, fun j hj => ?_⟩⟩
            rcases Nat.lt_succ_iff_lt_or_eq.mp hj with g | g
            · exact hs j g
            · rw [g]
              exact hsp
          · rw [decide_eq_false hsp]
            exact ⟨_, rfl, iteT ⟨_, rfl, k _ _ c3 (spare_nm hi) hsp B3 S3 hc3⟩⟩
        · rintro _ _ ⟨y4, y6, rfl, rfl, hs⟩
          have := spares_many hs
          omega
      · rw [decide_eq_false hz]
        refine ⟨0, rfl, by decide, by decide, for_range (lo := 0) (n := 0) (fun i σ H' => ∃ x4 x6, σ = [some (.ref st), some (.ref p), some (.str letters), some (.ref q), x4, some (.str z), x6] ∧ H' = H3) ⟨x4, none, rfl, rfl⟩ (fun i _ _ hi => absurd hi (Nat.not_lt_zero i)) ?_⟩
        rintro _ _ ⟨y4, y6, rfl, rfl⟩
        exact ⟨y4, y6, rfl, rfl, hz⟩
    rintro _ _ ⟨x4, x6, rfl, rfl, nin⟩
    exact ⟨_, rfl, k z _ c3 nz nin B3 S3 hc3⟩
end
end Z

set_option maxHeartbeats 3900000
namespace Z
open PySem PySem.Spec PyProof.Rows L2 TL
open C8 (pss_cut tCut pe_gc)
def spPool : Sp := fun vs H Q _ => ∃ (st l : Addr) (c : Nat) (many : Int), vs = [.ref st, .int many] ∧ Strm H st l c ∧ c ≤ 800000 ∧ 0 ≤ many ∧ many ≤ 50 ∧
  ∀ (p : Addr) (zs : List Str) (H' : Hp) (c' : Nat), (zs.length : Int) = many → zs.Nodup → (∀ z ∈ zs, IsNm z) → H p = none → Pool H' st l p zs → But st l H H' → Strm H' st l c' → c' ≤ c + 11 * many.toNat → Q (.ref p) H'
/-- a look: a file's, a folder's (no name: the root), a setting's, the tool's -/
inductive Lk
  | rd (p : List Str)
  | ls (p : List Str)
  | se (n : Str)
  | tl
deriving DecidableEq
abbrev js (p : List Str) : Str := Txt.join "/" p
def lkV : Lk → List V
  | .rd p => [.str "read", .str (js p)]
  | .ls p => [.str "list", .str (js p)]
  | .se n => [.str "setting", .str n]
  | .tl => [.str "tool"]
/-- a look over some names, with at most so many on a way -/
def LkOn (zs : List Str) (m : Nat) : Lk → Prop
  | .rd p => p ≠ [] ∧ p.length ≤ m ∧ ∀ y ∈ p, y ∈ zs
  | .ls p => p.length ≤ m ∧ ∀ y ∈ p, y ∈ zs
  | .se n => n ∈ zs
  | .tl => True
def spLook : Sp := fun vs H Q _ => ∃ (st l p : Addr) (c : Nat) (zs : List Str), vs = [.ref st, .ref p] ∧ Strm H st l c ∧ c ≤ 800000 ∧ Pool H st l p zs ∧ 0 < zs.length ∧ zs.length < 1000 ∧ (∀ z ∈ zs, IsNm z) ∧
  ∀ (t : Addr) (k : Lk) (H' : Hp) (c' : Nat), LkOn zs 3 k → H t = none → H' t = some (.tup (lkV k)) → But st l H H' → Strm H' st l c' → c' ≤ c + 6 → Q (.ref t) H'
section
variable {P : Program} {w : World} {K : PySem.W.Frag} {mg : Str → Option Value} {base : Heap} {fD fP fPa fFr : Addr} {fdD fdP fdPa fdFr : FuncData}
theorem scPo : FnScope ["_law_stream", "_law_many", "_law_found", "_law_k"] ["_law_stream", "_law_many"] (defScope sPool) := ⟨rfl, rfl, rfl, by decide +kernel, rfl, by decide +kernel, by decide +kernel⟩
theorem But.none {st l p : Addr} {H H' : Hp} (B : But st l H H') (h : H' p = Option.none) (n : p ≠ st ∧ p ≠ l) : H p = Option.none := by
  cases e : H p with
  | none => rfl
  | some o =>
    rw [B p o e n.1 n.2] at h
    cases h
theorem ok_pool {f : Addr} {fd : FuncData} (F : Fun K "_law_pool" "_law_pool" sPool f fd) (T : TB mg) (aFr : At K mg "_law_fresh" fFr fdFr ["_law_stream", "_law_taken"]) (GFr : FnOk P w K mg base CX0 3 fFr fdFr ["_law_stream", "_law_taken"] spFresh) : FnOk P w K mg base CX0 4 f fd ["_law_stream", "_law_many"] spPool := by
  refine F.ok scPo (fun vs H Q E h => ?_) (fun cdv A outer s H vs Q E hr h => ?_)
  · obtain ⟨st, l, c, many, rfl, _⟩ := h
    rfl
  · obtain ⟨st, l, c, many, rfl, S, hc, m0, m1, k⟩ := h
    obtain ⟨n, rfl⟩ := Int.eq_ofNat_of_zero_le m0
    refine ⟨_, pss_cut (ps_set (i := 2) scPo.nd rfl (Or.inl rfl) (pe_lst pa_nil))
        (pss_cut (ps_for PassesOwn.never rfl (pi_range1 rfl T.range (pa_cons (pv 1) pa_nil)) (pg_name (i := 3) scPo.nd rfl (Or.inl rfl)) (pss_one (ps_expr (pe_bm PySem.F.plainAttrs_list PySem.F.slot_list_append PySem.F.type_list_append mt_append (pv 2) (pa_cons (pe_call GFr (hr.mono (by decide)) rfl aFr.m aFr.k aFr.b .nil pass0 (pa_cons (pv 0) (pa_cons (pv 2) pa_nil))) pa_nil)))))
        (pss_one (ps_ret (pv 2)))), ?_⟩
    refine ⟨fun σ H' => ∃ p, σ = [some (.ref st), some (.int n), some (.ref p), none] ∧ H p = none ∧ H' = upd H p (.lst []), ⟨Nat.zero_le _, fun p hp => ⟨p, rfl, hp, rfl⟩⟩, ?_⟩
    rintro _ _ ⟨p, rfl, hp, rfl⟩
    have np := S.ne_new hp
    refine ⟨fun σ H' => ∃ x3 zs, σ = [some (.ref st), some (.int n), some (.ref p), x3] ∧ zs.length = n ∧ zs.Nodup ∧ (∀ z ∈ zs, IsNm z) ∧ Pool H' st l p zs ∧ But st l H H' ∧ ∃ c', Strm H' st l c' ∧ c' ≤ c + 11 * n, ?_, ?_⟩
    · refine ⟨_, rfl, n, rfl, by omega, by omega, for_range (lo := 0) (n := n) (fun i σ H' => ∃ x3 zs, σ = [some (.ref st), some (.int n), some (.ref p), x3] ∧ zs.length = i ∧ zs.Nodup ∧ (∀ z ∈ zs, IsNm z) ∧ Pool H' st l p zs ∧ But st l H H' ∧ ∃ c', Strm H' st l c' ∧ c' ≤ c + 11 * i)
        ⟨none, [], rfl, rfl, List.nodup_nil, by simp, ⟨upd_same, np.1, np.2⟩, But.same (same_new hp), c, S.up (same_new hp), by omega⟩ ?_ fun _ _ h => h⟩
      rintro i _ H1 hi ⟨x3, zs, rfl, hz, nd, nm, L, B, c1, S1, hc1⟩
      refine ⟨_, rfl, .inl ⟨rfl, _, SqL.of L.h⟩, _, rfl, _, rfl, st, l, p, c1, zs, rfl, S1, by omega, L, by omega, fun z H2 c2 nz nin B2 S2 hc2 => ?_⟩
      have L2 := L.but B2
      refine ⟨p, _, _, rfl, rfl, L2.h, ?_, _, zs ++ [z], rfl, by rw [List.length_append, hz]; rfl, List.nodup_append.mpr ⟨nd, List.nodup_cons.mpr ⟨by simp, List.nodup_nil⟩, ?_⟩, ?_, ⟨?_, L2.n1, L2.n2⟩, (B.trans B2).put hp, c2, S2.put np, by omega⟩
      · rw [List.length_map, hz]
        exact Nat.lt_of_lt_of_le (show i < 1001 by omega) (by decide)
      · intro a ha b hb e
        rw [e, List.mem_singleton.mp hb] at ha
        exact nin ha
      · intro y hy
        rcases List.mem_append.mp hy with q | q
        · exact nm y q
        · rw [List.mem_singleton.mp q]
          exact nz
      · rw [upd_same, List.map_append]
        rfl
    rintro _ H2 ⟨x3, zs, rfl, hz, nd, nm, L, B, c', S', hc'⟩
    exact ⟨_, rfl, k p zs H2 c' (by omega) nd nm hp L B S' (by omega)⟩
end
end Z

set_option maxHeartbeats 3900000
namespace Z
open PySem PySem.Spec PyProof.Rows L2 TL
/-! paths as lists of names, against texts -/
theorem tl_sl : tl ("/" : Str) = [47] := by decide +kernel
def Nms (p : List Str) : Prop := ∀ y ∈ p, IsNm y
instance (p : List Str) : Decidable (Nms p) := by unfold Nms; infer_instance
abbrev jl (p : List Str) : List Nat := joinL [47] (p.map tl)
theorem tl_js (p : List Str) : tl (js p) = jl p := by
  show tl (Txt.join "/" p) = jl p
  rw [join_eq, tl_join, tl_sl]
theorem nm_free {y : Str} (h : IsNm y) : 47 ∉ tl y := fun m => by
  have := h.2.2 47 m
  omega
theorem nm_ne {y : Str} (h : IsNm y) : tl y ≠ [] := fun e => by
  have h1 := h.1
  rw [len_tl, e] at h1
  exact absurd h1 (by decide)
theorem Nms.tail {y : Str} {p : List Str} (h : Nms (y :: p)) : Nms p := fun z hz => h z (List.mem_cons_of_mem _ hz)
theorem Nms.app {p q : List Str} (hp : Nms p) (hq : Nms q) : Nms (p ++ q) := fun z hz => (List.mem_append.mp hz).elim (hp z) (hq z)
theorem Nms.left {p q : List Str} (h : Nms (p ++ q)) : Nms p := fun z hz => h z (List.mem_append_left _ hz)
theorem Nms.right {p q : List Str} (h : Nms (p ++ q)) : Nms q := fun z hz => h z (List.mem_append_right _ hz)
theorem jl_app : ∀ {q r : List Str}, q ≠ [] → r ≠ [] → jl (q ++ r) = jl q ++ 47 :: jl r
  | [], _, h, _ => absurd rfl h
  | [y], [], _, h => absurd rfl h
  | [y], z :: r, _, _ => rfl
  | y :: z :: q, r, _, hr => by
    have ih := jl_app (q := z :: q) (r := r) (by simp) hr
    show tl y ++ ([47] ++ jl (z :: q ++ r)) = (tl y ++ ([47] ++ jl (z :: q))) ++ 47 :: jl r
    rw [ih]
    simp
theorem jl_ne {p : List Str} (hp : Nms p) (h : p ≠ []) : jl p ≠ [] := by
  match p, h with
  | y :: r, _ =>
    intro e
    have hy := nm_ne (hp y List.mem_cons_self)
    cases r with
    | nil => exact hy e
    | cons z r =>
      have e2 : tl y ++ ([47] ++ jl (z :: r)) = [] := e
      exact hy (List.append_eq_nil_iff.mp e2).1
theorem split_js {p : List Str} (hp : Nms p) (h : p ≠ []) : Txt.split (js p) "/" = p :=
  split_join (s := 47) (S := []) tl_sl (by decide +kernel) h fun y hy => nm_free (hp y hy)
theorem js_nil : js [] = "" := rfl
theorem js_one (y : Str) : js [y] = y := ext_tl (by rw [tl_js]; rfl)
theorem js_ne {p : List Str} (hp : Nms p) (h : p ≠ []) : js p ≠ "" := fun e => by
  have e2 := congrArg tl e
  rw [tl_js] at e2
  exact jl_ne hp h e2
theorem js_inj {p q : List Str} (hp : Nms p) (hq : Nms q) (e : js p = js q) : p = q := by
  by_cases h1 : p = []
  · by_cases h2 : q = []
    · rw [h1, h2]
    · rw [h1] at e
      exact absurd e.symm (js_ne hq h2)
  · by_cases h2 : q = []
    · rw [h2] at e
      exact absurd e (js_ne hp h1)
    · rw [← split_js hp h1, e, split_js hq h2]
theorem js_eq {p q : List Str} (hp : Nms p) (hq : Nms q) : decide (js p = js q) = decide (p = q) := by
  by_cases h : p = q
  · rw [h]
    simp
  · rw [decide_eq_false h, decide_eq_false fun e => h (js_inj hp hq e)]
/-- strictly beneath -/
def ben (p q : List Str) : Bool := q.isPrefixOf p && decide (q.length < p.length)
theorem ben_iff {p q : List Str} : ben p q = true ↔ ∃ r, r ≠ [] ∧ p = q ++ r := by
  unfold ben
  rw [Bool.and_eq_true, List.isPrefixOf_iff_prefix, decide_eq_true_iff]
  constructor
  · rintro ⟨⟨r, rfl⟩, h⟩
    refine ⟨r, ?_, rfl⟩
    rintro rfl
    simp at h
  · rintro ⟨r, hr, rfl⟩
    refine ⟨⟨r, rfl⟩, ?_⟩
    have := List.length_pos_iff.mpr hr
    rw [List.length_append]
    omega
theorem spl_ne (S : List Nat) : ∀ (k : Nat) (acc l : List Nat), spl S k acc l ≠ []
  | k, acc, [] => by
    rw [spl_nil]
    simp
  | 0, acc, c :: r => by
    unfold spl
    by_cases h : pre S (c :: r) = true
    · rw [if_pos h]
      simp
    · rw [if_neg h]
      exact spl_ne S 0 _ r
  | k + 1, acc, _ :: r => spl_ne S k acc r
theorem spl_pre : ∀ {q : List Str} {t : List Nat}, q ≠ [] → Nms q → spl [47] 0 [] (jl q ++ 47 :: t) = q.map tl ++ spl [47] 0 [] t
  | [], _, h, _ => absurd rfl h
  | [y], t, _, hq => by
    have e := spl_part1 (s := 47) (S := []) (acc := []) (p := tl y) (rest := t) (nm_free (hq y List.mem_cons_self))
    exact e
  | y :: z :: r, t, _, hq => by
    have e := spl_part1 (s := 47) (S := []) (acc := []) (p := tl y) (rest := jl (z :: r) ++ 47 :: t) (nm_free (hq y List.mem_cons_self))
    have ih := spl_pre (q := z :: r) (t := t) (by simp) hq.tail
    have e2 : jl (y :: z :: r) ++ 47 :: t = tl y ++ ([47] ++ (jl (z :: r) ++ 47 :: t)) := by
      show tl y ++ ([47] ++ jl (z :: r)) ++ 47 :: t = _
      simp
    rw [e2]
    refine e.trans ?_
    rw [ih]
    rfl
theorem spl_js {p : List Str} (hp : Nms p) (h : p ≠ []) : spl [47] 0 [] (jl p) = p.map tl :=
  spl_join (s := 47) (S := []) (by simpa using h) fun z hz => by
    obtain ⟨y, hy, rfl⟩ := List.mem_map.mp hz
    exact nm_free (hp y hy)
theorem under {p q : List Str} (hp : Nms p) (hq : Nms q) (h : q ≠ []) : (jl q ++ [47]) <+: jl p ↔ ben p q = true := by
  rw [ben_iff]
  constructor
  · rintro ⟨t, e⟩
    have e1 : jl p = jl q ++ 47 :: t := by
      rw [← e]
      simp
    have hp0 : p ≠ [] := by
      rintro rfl
      have : ([] : List Nat) = jl q ++ 47 :: t := e1
      simp at this
    have e2 := spl_js hp hp0
    rw [e1, spl_pre h hq] at e2
    have e3 : (p.take q.length).map tl = q.map tl := by
      rw [List.map_take, ← e2]
      rw [show q.length = (q.map tl).length by rw [List.length_map], List.take_left']
      rfl
    have e4 := map_tl_inj e3
    refine ⟨p.drop q.length, ?_, ?_⟩
    · intro z
      have z2 : p.length ≤ q.length := List.drop_eq_nil_iff.mp z
      have z3 := congrArg List.length e2
      rw [List.length_append, List.length_map, List.length_map] at z3
      have z4 := List.length_pos_iff.mpr (spl_ne [47] 0 [] t)
      omega
    · conv => lhs; rw [← List.take_append_drop q.length p]
      rw [e4]
  · rintro ⟨r, hr, rfl⟩
    rw [jl_app h hr]
    exact ⟨jl r, by simp⟩
theorem sw_pre (x y : Str) : Txt.startswith x y = (tl y).isPrefixOf (tl x) := by
  show (decide (0 + y.length ≤ x.length) && Builtin.Str.subAt x y 0) = _
  rw [PySem.StrLaws.subAt_eq]
  apply Bool.eq_iff_iff.mpr
  rw [Bool.and_eq_true, List.isPrefixOf_iff_prefix, decide_eq_true_iff, List.drop_zero, beq_iff_eq, List.prefix_iff_eq_take]
  constructor
  · rintro ⟨_, h⟩
    rw [len_tl] at h
    exact h.symm
  · intro h
    refine ⟨?_, by rw [len_tl]; exact h.symm⟩
    have := congrArg List.length h
    rw [List.length_take] at this
    rw [len_tl, len_tl]
    omega
theorem sw_js {p q : List Str} (hp : Nms p) (hq : Nms q) (h : q ≠ []) : Txt.startswith (js p) (js q ++ "/") = ben p q := by
  rw [sw_pre, tl_append, tl_js, tl_js, tl_sl]
  apply Bool.eq_iff_iff.mpr
  rw [List.isPrefixOf_iff_prefix]
  exact under hp hq h
/-! slices -/
theorem tl_cutS (z : Str) (lo hi : Option Int) : tl (cutS z lo hi) = ((tl z).drop (HT.sIx z.length 0 lo)).take (HT.sIx z.length z.length hi - HT.sIx z.length 0 lo) := rfl
end Z

set_option maxHeartbeats 3900000
namespace CB
open PySem PySem.Spec PyProof.Rows L2
/-! comprehensions whose turns add to the heap alone: one rule for all walks -/
theorem same_mk {H : Hp} {p : Addr} {o : HO} (h : H p = none) : Same H (upd H p o) := fun a u e => by
  rw [upd_ne (ne_of_none e h)]
  exact e
theorem same_ch {H H' : Hp} {p : Addr} {o : HO} (a : Same H H') (h : H p = none) : Same H (upd H' p o) := fun c u e => by
  rw [upd_ne (ne_of_none e h)]
  exact a c u e
section
variable {J : It} {n : Nat} {G : Hp → Prop} {Y : Nat → Hp → V → Hp → Prop} {j : Nat} {te : TE} {σ : L2.St} {H1 : Hp} {D : Addr} {Qd : Hp → Prop}
theorem wipe1 (x : V) : wipe ((wipe σ [j]).set j (some x)) [j] = wipe σ [j] := by
  show ((σ.set j none).set j (some x)).set j none = σ.set j none
  simp
theorem lcW (w : Walk J n G Y) (ys : List V) (hn : ys.length = n) (hs : n < 1000000) (hD : H1 D = none) (hG : ∀ H', Same H1 H' → G H')
    (turn : ∀ (i : Nat) (x y : V) (H2 H3 : Hp), ys[i]? = some y → Same H1 H2 → Y i H2 x H3 → ∀ Q1 : VK, (∀ H4, Same H2 H4 → Q1 y H4) → te ((wipe σ [j]).set j (some x)) H3 Q1)
    (hd : ∀ H', Same H1 H' → H' D = some (.lst ys) → Qd H') :
    ∃ W : Nat → Nat → Hp → Prop, (∃ m, W 0 m (upd H1 D (.lst []))) ∧ ∀ i m H, W i m H →
      (J.stop i H ∧ Qd H) ∨ (J.go i H ∧ ∃ Nx : Hp → Prop, (∀ H', Nx H' → ∃ m', m' < m ∧ W (i + 1) m' H') ∧ ∀ x H', J.yld i H x H' → gName j x (wipe σ [j]) H' fun σ2 H2 => wipe σ2 [j] = wipe σ [j] ∧ tYes σ2 H2 fun b H3 =>
        if b = true then te σ2 H3 fun y H4 => ∃ acc, H4 D = some (.lst acc) ∧ acc.length < sizeLine ∧ Nx (upd H4 D (.lst (acc ++ [y]))) else Nx H3) := by
  subst hn
  refine lc_it w (fun i H' => Same H1 H' ∧ H' D = some (.lst (ys.take i))) ⟨same_mk hD, upd_same⟩ (fun i H' _ q => hG H' q.1) ?_ ?_
  · rintro i x H2 H3 hi ⟨s2, hd2⟩ y
    have hy : ys[i]? = some ys[i] := List.getElem?_eq_getElem hi
    refine ⟨wipe1 x, ?_⟩
    refine turn i x ys[i] H2 H3 hy s2 y _ fun H4 s4 => ⟨_, s4 _ _ hd2, ?_, same_ch (s2.trans s4) hD, ?_⟩
    · rw [List.length_take]
      exact Nat.lt_of_lt_of_le (show min i ys.length < 1000000 by omega) (by decide)
    · rw [upd_same, List.take_succ, hy]
      rfl
  · rintro H' ⟨s, h⟩
    rw [List.take_length] at h
    exact hd H' s h
end
section
variable {K : PySem.W.Frag} {α : Type} {j : Nat} {te : TE} {σ : L2.St} {H1 : Hp} {D a : Addr} {Qd : Hp → Prop}
theorem map_two {α : Type} {zs : List α} {u g : α → V} {i : Nat} {x y : V} (hx : (zs.map u)[i]? = some x) (hy : (zs.map g)[i]? = some y) : ∃ z ∈ zs, x = u z ∧ y = g z := by
  rw [List.getElem?_map] at hx hy
  match e : zs[i]? with
  | none =>
    rw [e] at hx
    cases hx
  | some z =>
    rw [e] at hx hy
    cases hx
    cases hy
    exact ⟨z, List.mem_of_getElem? e, rfl, rfl⟩
theorem lc_mapL (zs : List α) (u g : α → V) (hs : zs.length < 1000000) (hD : H1 D = none) (ha : SqL K H1 a (zs.map u))
    (turn : ∀ z ∈ zs, ∀ H2, Same H1 H2 → ∀ Q1 : VK, (∀ H4, Same H2 H4 → Q1 (g z) H4) → te ((wipe σ [j]).set j (some (u z))) H2 Q1) (hd : ∀ H', Same H1 H' → H' D = some (.lst (zs.map g)) → Qd H') :
    ∃ W : Nat → Nat → Hp → Prop, (∃ m, W 0 m (upd H1 D (.lst []))) ∧ ∀ i m H, W i m H →
      ((Itl K a).stop i H ∧ Qd H) ∨ ((Itl K a).go i H ∧ ∃ Nx : Hp → Prop, (∀ H', Nx H' → ∃ m', m' < m ∧ W (i + 1) m' H') ∧ ∀ x H', (Itl K a).yld i H x H' → gName j x (wipe σ [j]) H' fun σ2 H2 => wipe σ2 [j] = wipe σ [j] ∧ tYes σ2 H2 fun b H3 =>
        if b = true then te σ2 H3 fun y H4 => ∃ acc, H4 D = some (.lst acc) ∧ acc.length < sizeLine ∧ Nx (upd H4 D (.lst (acc ++ [y]))) else Nx H3) := by
  refine lcW (walk_list (K := K) (a := a) (xs := zs.map u)) (zs.map g) (by rw [List.length_map, List.length_map]) (by rw [List.length_map]; exact hs) hD (fun H' s => s.seq ha) ?_ hd
  rintro i x y H2 H3 hy s ⟨rfl, hx⟩ Q1 k
  obtain ⟨z, hz, rfl, rfl⟩ := map_two hx hy
  exact turn z hz _ s Q1 k
theorem sameT {H H' : Hp} {xs : List V} (e : Same H H') (h : SqT K H a xs) : SqT K H' a xs := by
  rcases h with (h | ⟨o, h⟩) | h
  · exact .inl (.inl (e _ _ h))
  · exact .inl (.inr ⟨o, e _ _ h⟩)
  · exact .inr h
theorem lc_mapT (zs : List α) (u g : α → V) (hs : zs.length < 1000000) (hD : H1 D = none) (ha : SqT K H1 a (zs.map u))
    (turn : ∀ z ∈ zs, ∀ H2, Same H1 H2 → ∀ Q1 : VK, (∀ H4, Same H2 H4 → Q1 (g z) H4) → te ((wipe σ [j]).set j (some (u z))) H2 Q1) (hd : ∀ H', Same H1 H' → H' D = some (.lst (zs.map g)) → Qd H') :
    ∃ W : Nat → Nat → Hp → Prop, (∃ m, W 0 m (upd H1 D (.lst []))) ∧ ∀ i m H, W i m H →
      ((Itt K a).stop i H ∧ Qd H) ∨ ((Itt K a).go i H ∧ ∃ Nx : Hp → Prop, (∀ H', Nx H' → ∃ m', m' < m ∧ W (i + 1) m' H') ∧ ∀ x H', (Itt K a).yld i H x H' → gName j x (wipe σ [j]) H' fun σ2 H2 => wipe σ2 [j] = wipe σ [j] ∧ tYes σ2 H2 fun b H3 =>
        if b = true then te σ2 H3 fun y H4 => ∃ acc, H4 D = some (.lst acc) ∧ acc.length < sizeLine ∧ Nx (upd H4 D (.lst (acc ++ [y]))) else Nx H3) := by
  refine lcW (walk_tup (K := K) (a := a) (xs := zs.map u)) (zs.map g) (by rw [List.length_map, List.length_map]) (by rw [List.length_map]; exact hs) hD (fun H' s => sameT s ha) ?_ hd
  rintro i x y H2 H3 hy s ⟨rfl, hx⟩ Q1 k
  obtain ⟨z, hz, rfl, rfl⟩ := map_two hx hy
  exact turn z hz _ s Q1 k
theorem lc_mapS (z : Str) (g : Nat → V) (hs : z.length < 1000000) (hD : H1 D = none)
    (turn : ∀ c ∈ z.cps.toList, ∀ H2, Same H1 H2 → ∀ Q1 : VK, (∀ H4, Same H2 H4 → Q1 (g c) H4) → te ((wipe σ [j]).set j (some (.str ⟨#[c]⟩))) H2 Q1) (hd : ∀ H', Same H1 H' → H' D = some (.lst (z.cps.toList.map g)) → Qd H') :
    ∃ W : Nat → Nat → Hp → Prop, (∃ m, W 0 m (upd H1 D (.lst []))) ∧ ∀ i m H, W i m H →
      ((Its z).stop i H ∧ Qd H) ∨ ((Its z).go i H ∧ ∃ Nx : Hp → Prop, (∀ H', Nx H' → ∃ m', m' < m ∧ W (i + 1) m' H') ∧ ∀ x H', (Its z).yld i H x H' → gName j x (wipe σ [j]) H' fun σ2 H2 => wipe σ2 [j] = wipe σ [j] ∧ tYes σ2 H2 fun b H3 =>
        if b = true then te σ2 H3 fun y H4 => ∃ acc, H4 D = some (.lst acc) ∧ acc.length < sizeLine ∧ Nx (upd H4 D (.lst (acc ++ [y]))) else Nx H3) := by
  refine lcW (walk_str (z := z)) (z.cps.toList.map g) (by rw [List.length_map, Array.length_toList]) hs hD (fun _ _ => trivial) ?_ hd
  rintro i x y H2 H3 hy s ⟨rfl, c, hc, rfl⟩ Q1 k
  rw [List.getElem?_map, Array.getElem?_toList, hc] at hy
  cases hy
  exact turn c (by rw [Array.mem_toList_iff]; exact Array.mem_of_getElem? hc) _ s Q1 k
/-- all and any over such a list -/
theorem all_of {H : Hp} {Q : VK} (zs : List α) (f : α → Bool) (h : H D = some (.lst (zs.map fun z => .bl (f z)))) (q : Q (.bl (zs.all f)) H) : rAll K [.ref D] H Q :=
  ⟨D, zs.map f, rfl, SqL.of (by rw [h, List.map_map]; rfl), by rw [List.all_map]; exact q⟩
theorem any_of {H : Hp} {Q : VK} (zs : List α) (f : α → Bool) (h : H D = some (.lst (zs.map fun z => .bl (f z)))) (q : Q (.bl (zs.any f)) H) : rAny K [.ref D] H Q :=
  ⟨D, zs.map f, rfl, SqL.of (by rw [h, List.map_map]; rfl), by rw [List.any_map]; exact q⟩
end
/-! methods of built-in types beneath a comprehension's binder: the written part given by hand -/
section
variable {X : Cx} {o e : Expr} {es : List Expr} {to : TE} {t : TA} {name : Str} {apos cpos : Pos} {T id : String} {r : V → List V → Hp → VK → Prop}
theorem pe_bmK (K0 : PySem.W.Frag) (hK : X.K = K0) (pa : PlainAttrs T) (slot : Slot T name id) (hty : typeOf (.builtin id) = pure (.type "method_descriptor")) (hm : MtR X id r) (ho : PE X o to) (ha : PA X (e :: es) t)
    (hb : attributeBase o name X.env (eval o X.env) = eval o X.env := by rfl)
    (hf : ((backTo cpos (starEach (e :: es) X.env)).all (fun x => !x.1) && (backToKw cpos (keywordEach [] X.env)).all (fun x => x.1.isSome) && decide ((e :: es).length + ([] : List Keyword).length + (if ([] : List Keyword).isEmpty then 0 else 1) < 30)) = true := by rfl)
    (hl : (apos.endLine == cpos.line) = true := by rfl) (hs : starEach (e :: es) X.env = (false, eval e X.env) :: starEach es X.env := by rfl) (hp : (backTo cpos (starEach es X.env)).any (·.1) = false := by rfl) :
    PE X (.Call (.Attribute o name apos) (e :: es) [] cpos) (tBM K0 T r to t) := by
  subst hK
  exact pe_bm pa slot hty hm ho ha hb hf hl hs hp
theorem pe_bm0K (K0 : PySem.W.Frag) (hK : X.K = K0) (pa : PlainAttrs T) (slot : Slot T name id) (hty : typeOf (.builtin id) = pure (.type "method_descriptor")) (hm : MtR X id r) (ho : PE X o to)
    (hb : attributeBase o name X.env (eval o X.env) = eval o X.env := by rfl) (hl : (apos.endLine == cpos.line) = true := by rfl) : PE X (.Call (.Attribute o name apos) [] [] cpos) (tBM0 K0 T r to) := by
  subst hK
  exact pe_bm0 pa slot hty hm ho hb hl
end
section
variable {X : Cx} {K0 : PySem.W.Frag}
theorem pg_tupK {es : List Expr} {k : Nat} {t : TGs} {n : Nat} {pos : Pos} (hK : X.K = K0) (hc : X.calm = true) (h : PGs X es t) (hn : (assignEach es X.env).length = n := by rfl) (hs : (assignEach es X.env).findIdx? (·.1) = none := by rfl) : PG X (.Tuple es k pos) (gTup K0 n t) := by
  subst hK
  exact pg_tup hc h hn hs
theorem ix_listK (hK : X.K = K0) : IxR X (rIxL K0) := by
  subst hK
  exact ix_list
theorem ix_tupK (hK : X.K = K0) : IxR X (rIxT K0) := by
  subst hK
  exact ix_tup
theorem in_seqK (hK : X.K = K0) : OpR X (compareOp .In) (rIn K0 false) := by
  subst hK
  exact op_in_seq
theorem notIn_seqK (hK : X.K = K0) : OpR X (compareOp .NotIn) (rIn K0 true) := by
  subst hK
  exact op_notIn_seq
theorem eqDK (hK : X.K = K0) (hu : X.A.units + 64 < cLine) : OpR X (compareOp .Eq) (rEqD K0) := by
  subst hK
  exact op_eqD hu
theorem neDK (hK : X.K = K0) (hu : X.A.units + 64 < cLine) : OpR X (compareOp .NotEq) (rNeD K0) := by
  subst hK
  exact op_neD hu
end
/-! a row: a tuple or a list -/
def RowAt (H : Hp) (v : V) (xs : List V) : Prop := ∃ a, v = .ref a ∧ (H a = some (.tup xs) ∨ H a = some (.lst xs))
theorem RowAt.up {H H' : Hp} {v : V} {xs : List V} (h : RowAt H v xs) (s : Same H H') : RowAt H' v xs := by
  obtain ⟨a, e, h | h⟩ := h
  · exact ⟨a, e, .inl (s _ _ h)⟩
  · exact ⟨a, e, .inr (s _ _ h)⟩
def rIxRow : R2 := fun x y H Q => ∃ xs i v, RowAt H x xs ∧ y = .int i ∧ atI xs i = some v ∧ Q v H
def rLenRow : List V → Hp → VK → Prop := fun vs H Q => ∃ x xs, vs = [x] ∧ RowAt H x xs ∧ Q (.int (xs.length : Int)) H
/-- isinstance(x, (list, tuple)) -/
def LT (H : Hp) (v : V) (b : Bool) : Prop := (b = true ∧ ∃ xs, RowAt H v xs) ∨ (b = false ∧ (v = .non ∨ (∃ z, v = .str z) ∨ (∃ i, v = .int i) ∨ ∃ c, v = .bl c))
def rLT : List V → Hp → VK → Prop := fun vs H Q => ∃ v tp b, vs = [v, .ref tp] ∧ H tp = some (.tup [.ty "list", .ty "tuple"]) ∧ LT H v b ∧ Q (.bl b) H
def rTupRow : List V → Hp → VK → Prop := fun vs H Q => ∃ v xs, vs = [v] ∧ RowAt H v xs ∧ ∀ a H', Same H H' → H' a = some (.tup xs) → Q (.ref a) H'
section
variable {X : Cx}
theorem ix_row : IxR X rIxRow := by
  intro value slice pins s σ H x y v u Q I rx ry h hs
  obtain ⟨xs, i, w, ⟨a, rfl, h1 | h1⟩, rfl, ha, q⟩ := h
  · exact ix_tup (X := X) value slice pins s σ H _ _ v u Q I rx ry ⟨a, xs, i, w, rfl, rfl, SqT.of h1, ha, q⟩ hs
  · exact ix_list (X := X) value slice pins s σ H _ _ v u Q I rx ry ⟨a, xs, i, w, rfl, rfl, SqL.of h1, ha, q⟩ hs
theorem call_len_row : CallR X (.builtin "len") rLenRow := by
  intro pins s σ H xs us Q I r h
  obtain ⟨x, ys, rfl, ⟨a, rfl, h1 | h1⟩, q⟩ := h
  · exact call_len_seq (X := X) pins s σ H _ us Q I r ⟨a, ys, rfl, .inr (SqT.of h1), q⟩
  · exact call_len_seq (X := X) pins s σ H _ us Q I r ⟨a, ys, rfl, .inl (SqL.of h1), q⟩
theorem kitLT {K : PySem.W.Frag} {n : String} {b c : Bool} (h1 : kitB n "list" = some b) (h2 : kitB n "tuple" = some c) : PySem.W.kitAny K (.type n) [.type "list", .type "tuple"] = some (b || c) :=
  kitAny_cons (kit_ty h1) (fun e => by
    subst e
    exact kitAny_cons (kit_ty h2) (fun e2 => by
      subst e2
      exact kitAny_nil) (fun e2 => by
      subst e2
      rfl)) (fun e => by
    subst e
    rfl)
theorem isi_LT : CallR X (.builtin "isinstance") rLT := by
  intro pins s σ H xs us Q I r h
  obtain ⟨v, tp, b, rfl, ht, hl, q⟩ := h
  have go : ∀ (n : String) (c : Bool), TyX X.K H v (.type n) → PySem.W.kitAny X.K (.type n) [.type "list", .type "tuple"] = some c → Q (.bl c) H → wpAny (model X.prog X.w) X.A (call (.builtin "isinstance") us) (EP X pins σ Q) X.xe s := fun n c t k q =>
    call_isiT (X := X) pins s σ H _ us Q I r ⟨v, tp, _, .type n, [.type "list", .type "tuple"], c, rfl, ht, .cons (.ty "list") (.cons (.ty "tuple") .nil), t, k, q⟩
  rcases hl with ⟨rfl, ys, a, rfl, h1 | h1⟩ | ⟨rfl, rfl | ⟨z, rfl⟩ | ⟨i, rfl⟩ | ⟨c, rfl⟩⟩
  · exact go "tuple" true (.base (.tup h1)) (kitLT (b := false) (c := true) (by decide +kernel) (by decide +kernel)) q
  · exact go "list" true (.base (.lst h1)) (kitLT (b := true) (c := false) (by decide +kernel) (by decide +kernel)) q
  · exact go "NoneType" false (.base .non) (kitLT (b := false) (c := false) (by decide +kernel) (by decide +kernel)) q
  · exact go "str" false (.base (.str z)) (kitLT (b := false) (c := false) (by decide +kernel) (by decide +kernel)) q
  · exact go "int" false (.base (.int i)) (kitLT (b := false) (c := false) (by decide +kernel) (by decide +kernel)) q
  · exact go "bool" false (.base (.bl c)) (kitLT (b := false) (c := false) (by decide +kernel) (by decide +kernel)) q
theorem call_tup_row : CallR X (.type "tuple") rTupRow := by
  intro pins s σ H xs us Q I r h
  obtain ⟨v, ys, rfl, ⟨a, rfl, h1 | h1⟩, q⟩ := h
  · exact call_tuple_of (X := X) pins s σ H _ us Q I r ⟨a, ys, rfl, .inr ⟨SqT.of h1, q a H (Same.refl H) h1⟩⟩
  · exact call_tuple_of (X := X) pins s σ H _ us Q I r ⟨a, ys, rfl, .inl ⟨SqL.of h1, fun l hl => q l _ (same_mk hl) upd_same⟩⟩
/-- a walk over a name that holds a tuple or a list -/
def iSeqV (K : PySem.W.Frag) (i : Nat) : TI := fun σ H R => ∃ a, σ[i]? = some (some (.ref a)) ∧ ((∃ xs, SqT K H a xs ∧ R (Itt K a) H) ∨ ∃ xs, SqL K H a xs ∧ R (Itl K a) H)
theorem pi_seqv {tg l : Expr} {i : Nat} (hl : PE X l (tVar i)) : PI X tg l (iSeqV X.K i) := by
  refine ⟨fun pins s σ H R I h => ?_⟩
  obtain ⟨a, ha, ⟨xs, q, r⟩ | ⟨xs, q, r⟩⟩ := h
  · exact (pi_tup hl).run pins s σ H R I ⟨_, ha, a, rfl, ⟨xs, q⟩, r⟩
  · exact (pi_list hl).run pins s σ H R I ⟨_, ha, a, rfl, ⟨xs, q⟩, r⟩
end
section
variable {K : PySem.W.Frag} {α : Type} {i j : Nat} {te : TE} {σ : L2.St} {H : Hp} {v : V} {Q : VK}
theorem lc_row (zs : List α) (u g : α → V) (hi : σ[i]? = some (some v)) (h : RowAt H v (zs.map u)) (hs : zs.length < 1000000)
    (turn : ∀ z ∈ zs, ∀ H2, Same H H2 → ∀ Q1 : VK, (∀ H4, Same H2 H4 → Q1 (g z) H4) → te ((wipe σ [j]).set j (some (u z))) H2 Q1) (hd : ∀ D H', Same H H' → H D = none → H' D = some (.lst (zs.map g)) → Q (.ref D) H') :
    tLc (iSeqV K i) (gName j) tYes te [j] σ H Q := by
  obtain ⟨a, rfl, h1 | h1⟩ := h
  · exact ⟨a, hi, .inl ⟨_, SqT.of h1, fun D hD => lc_mapT zs u g hs hD (SqT.of h1) turn fun H' s h2 => hd D H' s hD h2⟩⟩
  · exact ⟨a, hi, .inr ⟨_, SqL.of h1, fun D hD => lc_mapL zs u g hs hD (SqL.of h1) turn fun H' s h2 => hd D H' s hD h2⟩⟩
theorem all_row (zs : List α) (u : α → V) (f : α → Bool) (hi : σ[i]? = some (some v)) (h : RowAt H v (zs.map u)) (hs : zs.length < 1000000)
    (turn : ∀ z ∈ zs, ∀ H2, Same H H2 → ∀ Q1 : VK, (∀ H4, Same H2 H4 → Q1 (.bl (f z)) H4) → te ((wipe σ [j]).set j (some (u z))) H2 Q1) (hd : ∀ H', Same H H' → Q (.bl (zs.all f)) H') :
    tCB (rAll K) (tCons (tLc (iSeqV K i) (gName j) tYes te [j]) tNil) σ H Q := by
  show tLc (iSeqV K i) (gName j) tYes te [j] σ H fun v H1 => rAll K [v] H1 Q
  exact lc_row zs u (fun z => .bl (f z)) hi h hs turn fun D H' s _ hD => all_of zs f hD (hd H' s)
theorem any_row (zs : List α) (u : α → V) (f : α → Bool) (hi : σ[i]? = some (some v)) (h : RowAt H v (zs.map u)) (hs : zs.length < 1000000)
    (turn : ∀ z ∈ zs, ∀ H2, Same H H2 → ∀ Q1 : VK, (∀ H4, Same H2 H4 → Q1 (.bl (f z)) H4) → te ((wipe σ [j]).set j (some (u z))) H2 Q1) (hd : ∀ H', Same H H' → Q (.bl (zs.any f)) H') :
    tCB (rAny K) (tCons (tLc (iSeqV K i) (gName j) tYes te [j]) tNil) σ H Q := by
  show tLc (iSeqV K i) (gName j) tYes te [j] σ H fun v H1 => rAny K [v] H1 Q
  exact lc_row zs u (fun z => .bl (f z)) hi h hs turn fun D H' s _ hD => any_of zs f hD (hd H' s)
theorem set_row {y : Nat} {D0 : Ends} (zs : List α) (u g : α → V) (hi : σ[i]? = some (some v)) (h : RowAt H v (zs.map u)) (hs : zs.length < 1000000)
    (turn : ∀ z ∈ zs, ∀ H2, Same H H2 → ∀ Q1 : VK, (∀ H4, Same H2 H4 → Q1 (g z) H4) → te ((wipe σ [j]).set j (some (u z))) H2 Q1) (hd : ∀ D H', Same H H' → H D = none → H' D = some (.lst (zs.map g)) → D0.nx (σ.set y (some (.ref D))) H') :
    tAsg (tLc (iSeqV K i) (gName j) tYes te [j]) (gName y) D0 σ H := by
  show tLc (iSeqV K i) (gName j) tYes te [j] σ H fun x H1 => D0.nx (σ.set y (some x)) H1
  exact lc_row zs u g hi h hs turn hd
theorem iteY {c A B : Prop} [Decidable c] (h : c) (a : A) : if decide c = true then A else B := by
  rw [if_pos (decide_eq_true h)]
  exact a
theorem iteN {c A B : Prop} [Decidable c] (h : ¬ c) (b : B) : if decide c = true then A else B := by
  rw [if_neg (by rw [decide_eq_false h]; exact Bool.false_ne_true)]
  exact b
theorem cut_1 (xs : List V) : cutV xs (some 1) none = xs.drop 1 := by
  show (xs.drop (HT.sIx xs.length 0 (some ((1 : Nat) : Int)))).take (HT.sIx xs.length xs.length none - HT.sIx xs.length 0 (some ((1 : Nat) : Int))) = xs.drop 1
  rw [HT.sIx_nat, HT.sIx_none]
  by_cases h : 1 ≤ xs.length
  · rw [Nat.min_eq_left h, List.take_of_length_le (by rw [List.length_drop]; exact Nat.le_refl _)]
  · rw [List.drop_eq_nil_of_le (by omega), List.drop_eq_nil_of_le (by omega)]
    exact List.take_nil
end
/-! two names for each item: zip, enumerate -/
section
variable {J : It} {n : Nat} {G : Hp → Prop} {fx fy : Nat → Option V} {i j : Nat} {te : TE} {σ : L2.St} {H1 : Hp} {D : Addr} {Qd : Hp → Prop} {K : PySem.W.Frag}
theorem wipe2 (hij : i ≠ j) (x y : V) : wipe (((wipe σ [i, j]).set i (some x)).set j (some y)) [i, j] = wipe σ [i, j] := by
  show (((((σ.set j none).set i none).set i (some x)).set j (some y)).set j none).set i none = (σ.set j none).set i none
  rw [List.set_set, List.set_set, List.set_comm _ _ hij, List.set_set, List.set_set]
theorem lcW2 (w : Walk J n G (YPair fx fy)) (hij : i ≠ j) (ys : List V) (hn : ys.length = n) (hs : n < 1000000) (hD : H1 D = none) (hG : ∀ H', Same H1 H' → G H')
    (turn : ∀ (m : Nat) (x x' y : V) (H2 : Hp), ys[m]? = some y → fx m = some x → fy m = some x' → Same H1 H2 → ∀ Q1 : VK, (∀ H4, Same H2 H4 → Q1 y H4) → te (((wipe σ [i, j]).set i (some x)).set j (some x')) H2 Q1)
    (hd : ∀ H', Same H1 H' → H' D = some (.lst ys) → Qd H') :
    ∃ W : Nat → Nat → Hp → Prop, (∃ m, W 0 m (upd H1 D (.lst []))) ∧ ∀ k m H, W k m H →
      (J.stop k H ∧ Qd H) ∨ (J.go k H ∧ ∃ Nx : Hp → Prop, (∀ H', Nx H' → ∃ m', m' < m ∧ W (k + 1) m' H') ∧ ∀ x H', J.yld k H x H' → gTup K 2 (gCons (gName i) (gCons (gName j) gNil)) x (wipe σ [i, j]) H' fun σ2 H2 => wipe σ2 [i, j] = wipe σ [i, j] ∧ tYes σ2 H2 fun b H3 =>
        if b = true then te σ2 H3 fun y H4 => ∃ acc, H4 D = some (.lst acc) ∧ acc.length < sizeLine ∧ Nx (upd H4 D (.lst (acc ++ [y]))) else Nx H3) := by
  subst hn
  refine lc_it w (fun i H' => Same H1 H' ∧ H' D = some (.lst (ys.take i))) ⟨same_mk hD, upd_same⟩ (fun i H' _ q => hG H' q.1) ?_ ?_
  · rintro m x H2 H3 hi ⟨s2, hd2⟩ ⟨T, x1, x2, rfl, hT, rfl, e1, e2⟩
    have hy : ys[m]? = some ys[m] := List.getElem?_eq_getElem hi
    refine ⟨T, _, rfl, SqT.of upd_same, rfl, x1, _, rfl, x2, _, rfl, rfl, wipe2 hij x1 x2, ?_⟩
    have s3 : Same H2 (upd H2 T (.tup [x1, x2])) := same_mk hT
    refine turn m x1 x2 ys[m] _ hy e1 e2 (s2.trans s3) _ fun H4 s4 => ⟨_, s4 _ _ (s3 _ _ hd2), ?_, same_ch ((s2.trans s3).trans s4) hD, ?_⟩
    · rw [List.length_take]
      exact Nat.lt_of_lt_of_le (show min m ys.length < 1000000 by omega) (by decide)
    · rw [upd_same, List.take_succ, hy]
      rfl
  · rintro H' ⟨s, h⟩
    rw [List.take_length] at h
    exact hd H' s h
end
/-! values told by what is true of them, where only tuples count -/
section
variable {J : It} {n : Nat} {G : Hp → Prop} {Y : Nat → Hp → V → Hp → Prop} {j : Nat} {te : TE} {σ : L2.St} {H1 : Hp} {D : Addr} {Qd : Hp → Prop}
def TupS (H H' : Hp) : Prop := ∀ b xs, H b = some (.tup xs) → H' b = some (.tup xs)
theorem TupS.of {H H' : Hp} (s : Same H H') : TupS H H' := fun b xs h => s b _ h
theorem lcR (w : Walk J n G Y) (R : Nat → V → Hp → Prop) (mono : ∀ i y H H', TupS H H' → R i y H → R i y H') (hs : n < 1000000) (hD : H1 D = none) (hG : ∀ H', Same H1 H' → G H')
    (turn : ∀ (i : Nat) (x : V) (H2 H3 : Hp), i < n → Same H1 H2 → Y i H2 x H3 → ∀ Q1 : VK, (∀ y H4, Same H2 H4 → R i y H4 → Q1 y H4) → te ((wipe σ [j]).set j (some x)) H3 Q1)
    (hd : ∀ ys H', ys.length = n → Same H1 H' → H' D = some (.lst ys) → (∀ i y, ys[i]? = some y → R i y H') → Qd H') :
    ∃ W : Nat → Nat → Hp → Prop, (∃ m, W 0 m (upd H1 D (.lst []))) ∧ ∀ i m H, W i m H →
      (J.stop i H ∧ Qd H) ∨ (J.go i H ∧ ∃ Nx : Hp → Prop, (∀ H', Nx H' → ∃ m', m' < m ∧ W (i + 1) m' H') ∧ ∀ x H', J.yld i H x H' → gName j x (wipe σ [j]) H' fun σ2 H2 => wipe σ2 [j] = wipe σ [j] ∧ tYes σ2 H2 fun b H3 =>
        if b = true then te σ2 H3 fun y H4 => ∃ acc, H4 D = some (.lst acc) ∧ acc.length < sizeLine ∧ Nx (upd H4 D (.lst (acc ++ [y]))) else Nx H3) := by
  refine lc_it w (fun i H' => Same H1 H' ∧ ∃ ys, ys.length = i ∧ H' D = some (.lst ys) ∧ ∀ m y, ys[m]? = some y → R m y H') ⟨same_mk hD, [], rfl, upd_same, fun m y h => by cases h⟩ (fun i H' _ q => hG H' q.1) ?_ ?_
  · rintro i x H2 H3 hi ⟨s2, ys, hl, hd2, hr⟩ y
    refine ⟨wipe1 x, ?_⟩
    refine turn i x H2 H3 hi s2 y _ fun v H4 s4 r => ?_
    have hd4 := s4 _ _ hd2
    have up : TupS H4 (upd H4 D (.lst (ys ++ [v]))) := fun b xs h => by
      rw [upd_ne (ne_of h hd4 (by intro z; cases z))]
      exact h
    refine ⟨_, hd4, Nat.lt_of_lt_of_le (show ys.length < 1000000 by omega) (by decide), same_ch (s2.trans s4) hD, ys ++ [v], by rw [List.length_append, hl]; rfl, upd_same, fun m z hm => ?_⟩
    by_cases e : m < ys.length
    · rw [List.getElem?_append_left e] at hm
      exact mono _ _ _ _ up (mono _ _ _ _ (TupS.of s4) (hr m z hm))
    · rw [List.getElem?_append_right (by omega)] at hm
      have e2 : m = ys.length := by
        have := (List.getElem?_eq_some_iff.mp hm).1
        rw [List.length_singleton] at this
        omega
      subst e2
      rw [Nat.sub_self] at hm
      cases hm
      rw [hl]
      exact mono _ _ _ _ up r
  · rintro H' ⟨s, ys, hl, h, hr⟩
    exact hd ys H' hl s h hr
end
section
variable {K : PySem.W.Frag} {i j : Nat} {te : TE} {σ : L2.St} {H : Hp} {v : V} {Q : VK}
theorem lcR_row (xs : List V) (R : Nat → V → Hp → Prop) (mono : ∀ i y H H', TupS H H' → R i y H → R i y H') (hi : σ[i]? = some (some v)) (h : RowAt H v xs) (hs : xs.length < 1000000)
    (turn : ∀ (m : Nat) (x : V) (H2 : Hp), xs[m]? = some x → Same H H2 → ∀ Q1 : VK, (∀ y H4, Same H2 H4 → R m y H4 → Q1 y H4) → te ((wipe σ [j]).set j (some x)) H2 Q1)
    (hd : ∀ D ys H', ys.length = xs.length → Same H H' → H D = none → H' D = some (.lst ys) → (∀ i y, ys[i]? = some y → R i y H') → Q (.ref D) H') : tLc (iSeqV K i) (gName j) tYes te [j] σ H Q := by
  obtain ⟨a, rfl, h1 | h1⟩ := h
  · refine ⟨a, hi, .inl ⟨_, SqT.of h1, fun D hD => lcR (walk_tup (K := K) (a := a) (xs := xs)) R mono hs hD (fun H' s => sameT s (SqT.of h1)) ?_ fun ys H' l s h2 r => hd D ys H' l s hD h2 r⟩⟩
    rintro m x H2 H3 hm s ⟨rfl, hx⟩ Q1 k
    exact turn m x _ hx s Q1 k
  · refine ⟨a, hi, .inr ⟨_, SqL.of h1, fun D hD => lcR (walk_list (K := K) (a := a) (xs := xs)) R mono hs hD (fun H' s => s.seq (SqL.of h1)) ?_ fun ys H' l s h2 r => hd D ys H' l s hD h2 r⟩⟩
    rintro m x H2 H3 hm s ⟨rfl, hx⟩ Q1 k
    exact turn m x _ hx s Q1 k
theorem setR_row {y : Nat} {D0 : Ends} (xs : List V) (R : Nat → V → Hp → Prop) (mono : ∀ i y H H', TupS H H' → R i y H → R i y H') (hi : σ[i]? = some (some v)) (h : RowAt H v xs) (hs : xs.length < 1000000)
    (turn : ∀ (m : Nat) (x : V) (H2 : Hp), xs[m]? = some x → Same H H2 → ∀ Q1 : VK, (∀ y H4, Same H2 H4 → R m y H4 → Q1 y H4) → te ((wipe σ [j]).set j (some x)) H2 Q1)
    (hd : ∀ D ys H', ys.length = xs.length → Same H H' → H D = none → H' D = some (.lst ys) → (∀ i y, ys[i]? = some y → R i y H') → D0.nx (σ.set y (some (.ref D))) H') : tAsg (tLc (iSeqV K i) (gName j) tYes te [j]) (gName y) D0 σ H := by
  show tLc (iSeqV K i) (gName j) tYes te [j] σ H fun x H1 => D0.nx (σ.set y (some x)) H1
  exact lcR_row xs R mono hi h hs turn hd
end
end CB

set_option maxHeartbeats 3900000
namespace Z
open PySem PySem.Spec PyProof.Rows L2 TL
theorem cut_from (z : Str) (n : Nat) : tl (cutS z (some (n : Int)) none) = (tl z).drop n := by
  rw [tl_cutS, HT.sIx_nat, HT.sIx_none, len_tl]
  rw [List.take_of_length_le (by rw [List.length_drop]; exact Nat.le_refl _)]
  by_cases h : n ≤ (tl z).length
  · rw [Nat.min_eq_left h]
  · rw [Nat.min_eq_right (by omega), List.drop_eq_nil_of_le (Nat.le_refl _), List.drop_eq_nil_of_le (by omega)]
theorem cut_to (z : Str) (n : Nat) : tl (cutS z none (some (n : Int))) = (tl z).take n := by
  rw [tl_cutS, HT.sIx_nat, HT.sIx_none, List.drop_zero, Nat.sub_zero, len_tl]
  by_cases h : n ≤ (tl z).length
  · rw [Nat.min_eq_left h]
  · rw [Nat.min_eq_right (by omega), List.take_of_length_le (Nat.le_refl _), List.take_of_length_le (by omega)]
theorem cut_last (z : Str) : tl (cutS z (some (-1)) none) = (tl z).drop ((tl z).length - 1) := by
  rw [tl_cutS, HT.sIx_none, len_tl]
  have e : HT.sIx (tl z).length 0 (some (-1)) = (tl z).length - 1 := by
    show (if (-1 : Int) < 0 then ((-1 : Int) + ((tl z).length : Int)).toNat else min (-1 : Int).toNat (tl z).length) = _
    rw [if_pos (by decide)]
    omega
  rw [e]
  rw [List.take_of_length_le (by rw [List.length_drop]; exact Nat.le_refl _)]
/-- what all beneath begins with -/
def bg (p : List Str) : Str := if p = [] then "" else js p ++ "/"
theorem bg_str (p : List Str) (hp : Nms p) : (if decide (js p = "") = true then ("" : Str) else js p ++ "/") = bg p := by
  unfold bg
  by_cases h : p = []
  · rw [if_pos h, h]
    rfl
  · rw [if_neg h, decide_eq_false (js_ne hp h)]
    rfl
theorem sw_bg {p q : List Str} (hp : Nms p) (hq : Nms q) : (decide (p ≠ q) && Txt.startswith (js p) (bg q)) = ben p q := by
  unfold bg
  by_cases h : q = []
  · rw [if_pos h, h, sw_pre]
    have e : tl ("" : Str) = [] := rfl
    rw [e]
    unfold ben
    cases p with
    | nil => rfl
    | cons y r => simp
  · rw [if_neg h, sw_js hp hq h]
    by_cases e : p = q
    · rw [e]
      simp [ben]
    · rw [decide_eq_true e, Bool.true_and]
theorem jl_drop {q r : List Str} (hq : q ≠ []) (hr : r ≠ []) : (jl (q ++ r)).drop ((jl q).length + 1) = jl r := by
  rw [jl_app hq hr]
  rw [show jl q ++ 47 :: jl r = (jl q ++ [47]) ++ jl r by simp]
  rw [show (jl q).length + 1 = (jl q ++ [47]).length by simp, List.drop_left']
  rfl
theorem bg_len (q : List Str) : (bg q).length = if q = [] then 0 else (jl q).length + 1 := by
  unfold bg
  by_cases h : q = []
  · rw [if_pos h, if_pos h]
    rfl
  · rw [if_neg h, if_neg h, len_tl, tl_append, tl_js, tl_sl]
    simp
theorem rest_bg (q : List Str) {r : List Str} (hr : r ≠ []) : cutS (js (q ++ r)) (some ((bg q).length : Int)) none = js r := by
  refine ext_tl ?_
  rw [cut_from, tl_js, tl_js, bg_len]
  by_cases h : q = []
  · rw [if_pos h, h]
    rfl
  · rw [if_neg h, jl_drop h hr]
theorem head_bg {p q : List Str} (hp : Nms p) (hq : Nms q) (h : q ≠ []) : decide (cutS (js p) none (some (((js q).length + 1 : Nat) : Int)) = js q ++ "/") = ben p q := by
  have e9 : (jl q ++ [47]).length = (jl q).length + 1 := by simp
  have e : (cutS (js p) none (some (((js q).length + 1 : Nat) : Int)) = js q ++ "/") ↔ (jl q ++ [47]) <+: jl p := by
    rw [List.prefix_iff_eq_take]
    constructor
    · intro z
      have z2 := congrArg tl z
      rw [cut_to, tl_append, tl_js, tl_js, tl_sl, len_tl, tl_js] at z2
      rw [e9]
      exact z2.symm
    · intro z
      refine ext_tl ?_
      rw [cut_to, tl_append, tl_js, tl_js, tl_sl, len_tl, tl_js]
      rw [e9] at z
      exact z.symm
  rw [decide_eq_decide.mpr e]
  apply Bool.eq_iff_iff.mpr
  rw [decide_eq_true_iff]
  exact under hp hq h
theorem js_cons (y : Str) {r : List Str} (h : r ≠ []) : js (y :: r) = y ++ "/" ++ js r := by
  refine ext_tl ?_
  rw [tl_js, tl_append, tl_append, tl_js, tl_sl]
  show jl ([y] ++ r) = _
  rw [jl_app (by simp) h]
  show tl y ++ 47 :: jl r = _
  simp
theorem js_app {q r : List Str} (hq : q ≠ []) (hr : r ≠ []) : js (q ++ r) = js q ++ "/" ++ js r := by
  refine ext_tl ?_
  rw [tl_js, tl_append, tl_append, tl_js, tl_js, tl_sl, jl_app hq hr]
  simp
theorem bg_app (q : List Str) {r : List Str} (hr : r ≠ []) : bg q ++ js r = js (q ++ r) := by
  unfold bg
  by_cases h : q = []
  · rw [if_pos h, h]
    exact ext_tl (by rw [tl_append]; rfl)
  · rw [if_neg h, js_app h hr]
theorem part_js {y : Str} {r : List Str} (hy : IsNm y) : Txt.partition (js (y :: r)) "/" = if r = [] then (y, ("" : Str), ("" : Str)) else (y, ("/" : Str), js r) := by
  by_cases h : r = []
  · rw [if_pos h, h, js_one]
    exact partition_none tl_sl (nm_free hy)
  · rw [if_neg h, js_cons y h]
    exact partition_app tl_sl (nm_free hy)
/-! entries -/
def ent (n : Str) (b : Bool) : Str := if b = true then n ++ "/" else n
theorem tl_ent (n : Str) (b : Bool) : tl (ent n b) = tl n ++ if b = true then [47] else [] := by
  unfold ent
  cases b
  · simp
  · rw [if_pos rfl, tl_append, tl_sl, if_pos rfl]
theorem ent_inj {n m : Str} {b c : Bool} (hn : IsNm n) (hm : IsNm m) (e : ent n b = ent m c) : n = m ∧ b = c := by
  have h := congrArg tl e
  rw [tl_ent, tl_ent] at h
  cases b <;> cases c
  · simp only [Bool.false_eq_true, if_false, List.append_nil] at h
    exact ⟨ext_tl h, rfl⟩
  · simp only [Bool.false_eq_true, if_false, List.append_nil, if_true] at h
    exact absurd (by rw [h]; simp) (nm_free hn)
  · simp only [Bool.false_eq_true, if_false, List.append_nil, if_true] at h
    exact absurd (by rw [← h]; simp) (nm_free hm)
  · simp only [if_true] at h
    exact ⟨ext_tl (List.append_cancel_right h), rfl⟩
theorem ent_eq {n m : Str} {b c : Bool} (hn : IsNm n) (hm : IsNm m) : decide (ent n b = ent m c) = decide ((n, b) = (m, c)) := by
  by_cases e : ent n b = ent m c
  · obtain ⟨e1, e2⟩ := ent_inj hn hm e
    subst e1
    subst e2
    simp
  · rw [decide_eq_false e, decide_eq_false]
    intro z
    cases z
    exact e rfl
theorem ew (x y : Str) : Txt.endswith x y = (decide ((tl y).length ≤ (tl x).length) && decide ((tl x).drop ((tl x).length - (tl y).length) = tl y)) := by
  show (decide (0 + y.length ≤ x.length) && Builtin.Str.subAt x y (x.length - y.length)) = _
  rw [PySem.StrLaws.subAt_eq, len_tl, len_tl, Nat.zero_add]
  by_cases h : (tl y).length ≤ (tl x).length
  · rw [decide_eq_true h, Bool.true_and, Bool.true_and]
    have e : (((tl x).drop ((tl x).length - (tl y).length)).take (tl y).length) = (tl x).drop ((tl x).length - (tl y).length) := List.take_of_length_le (by rw [List.length_drop]; omega)
    have e5 : (((tl x).drop ((tl x).length - (tl y).length)).take (tl y).length == tl y) = ((tl x).drop ((tl x).length - (tl y).length) == tl y) := by rw [e]
    refine e5.trans ?_
    apply Bool.eq_iff_iff.mpr
    rw [beq_iff_eq, decide_eq_true_iff]
  · rw [decide_eq_false h]
    rfl
theorem last_drop (u : List Nat) (c : Nat) : (u ++ [c]).drop ((u ++ [c]).length - 1) = [c] := by
  rw [show (u ++ [c]).length - 1 = u.length by simp, List.drop_left']
  rfl
theorem last_free {u : List Nat} (h : 47 ∉ u) : u.drop (u.length - 1) ≠ [47] := fun e => h (by
  have : 47 ∈ u.drop (u.length - 1) := by
    rw [e]
    simp
  exact List.mem_of_mem_drop this)
theorem ew_ent {n : Str} (hn : IsNm n) (b : Bool) : Txt.endswith (ent n b) "/" = b := by
  rw [ew, tl_sl, tl_ent]
  cases b
  · simp only [Bool.false_eq_true, if_false, List.append_nil]
    rw [decide_eq_false (p := (tl n).drop ((tl n).length - [47].length) = [47]) (last_free (nm_free hn)), Bool.and_false]
  · simp only [if_true]
    rw [decide_eq_true (by simp), Bool.true_and]
    exact decide_eq_true (last_drop _ _)
theorem cut_ent {n : Str} (hn : IsNm n) (b : Bool) : decide (cutS (ent n b) (some (-1)) none = "/") = b := by
  cases b
  · refine decide_eq_false fun e => ?_
    have e2 := congrArg tl e
    rw [cut_last, tl_ent, tl_sl] at e2
    simp only [Bool.false_eq_true, if_false, List.append_nil] at e2
    exact last_free (nm_free hn) e2
  · refine decide_eq_true (ext_tl ?_)
    rw [cut_last, tl_ent, tl_sl]
    simp only [if_true]
    exact last_drop _ _
theorem tl_sub (x : Str) (i j : Nat) : tl (Builtin.Str.strSub x i j) = ((tl x).drop i).take (j - i) := tl_strSub x i j
theorem rms {x y : Str} (h : Txt.endswith x y = true) : tl (Txt.removesuffix x y) = (tl x).take ((tl x).length - (tl y).length) := by
  have h2 : (decide (y.length ≤ x.length) && Builtin.Str.subAt x y (x.length - y.length)) = true := by
    rw [← h]
    show _ = (decide (0 + y.length ≤ x.length) && Builtin.Str.subAt x y (x.length - y.length))
    rw [Nat.zero_add]
  show tl (Txt.affix x (if (decide (y.length ≤ x.length) && Builtin.Str.subAt x y (x.length - y.length)) = true then some (0, x.length - y.length) else none)) = _
  rw [if_pos h2]
  show tl (if x.length - y.length - 0 == x.length then x else Builtin.Str.strSub x 0 (x.length - y.length)) = _
  rw [len_tl, len_tl]
  by_cases e : ((tl x).length - (tl y).length - 0 == (tl x).length) = true
  · rw [if_pos e]
    rw [beq_iff_eq] at e
    rw [List.take_of_length_le (by omega)]
  · rw [if_neg e, tl_sub, List.drop_zero]
    rfl
theorem rms_no {x y : Str} (h : Txt.endswith x y = false) : Txt.removesuffix x y = x := by
  have h2 : (decide (y.length ≤ x.length) && Builtin.Str.subAt x y (x.length - y.length)) = false := by
    rw [← h]
    show _ = (decide (0 + y.length ≤ x.length) && Builtin.Str.subAt x y (x.length - y.length))
    rw [Nat.zero_add]
  show Txt.affix x (if (decide (y.length ≤ x.length) && Builtin.Str.subAt x y (x.length - y.length)) = true then some (0, x.length - y.length) else none) = _
  rw [if_neg (by rw [h2]; simp)]
  rfl
theorem rms_ent {n : Str} (hn : IsNm n) (b : Bool) : Txt.removesuffix (ent n b) "/" = n := by
  cases b
  · exact rms_no (ew_ent hn false)
  · refine ext_tl ?_
    rw [rms (ew_ent hn true), tl_ent, tl_sl]
    simp
/-! strip -/
theorem tw_free {u r : List Nat} (h0 : u.head? ≠ some 47) (h : u ≠ []) : (u ++ r).takeWhile (fun c => c == 47) = [] := by
  match u, h with
  | c :: u, _ =>
    rw [List.cons_append, List.takeWhile_cons_of_neg]
    intro z
    exact h0 (by rw [List.head?_cons, beq_iff_eq.mp z])
theorem tw_rep (k : Nat) (r : List Nat) (h : r.head? ≠ some 47) : (List.replicate k 47 ++ r).takeWhile (fun c => c == 47) = List.replicate k 47 := by
  induction k with
  | zero =>
    rw [List.replicate_zero, List.nil_append]
    by_cases e : r = []
    · rw [e]
      rfl
    · have := tw_free (r := []) h e
      rw [List.append_nil] at this
      exact this
  | succ k ih => rw [List.replicate_succ, List.cons_append, List.takeWhile_cons_of_pos rfl, ih]
theorem strip_core {x : Str} {u : List Nat} {k : Nat} (h0 : u.head? ≠ some 47) (h1 : u.getLast? ≠ some 47) (hx : tl x = u ++ List.replicate k 47) : tl (Txt.stripChars x "/") = u := by
  have g : (("/" : Str).cps.contains : Nat → Bool) = fun c => c == 47 := by
    funext c
    have e : ("/" : Str).cps = #[47] := by decide +kernel
    rw [e]
    apply Bool.eq_iff_iff.mpr
    rw [Array.contains_iff_mem, beq_iff_eq]
    simp
  show tl (Txt.stripBy ("/" : Str).cps.contains true true x) = u
  rw [stripBy_eq, tl_sub, g]
  show ((tl x).drop ((tl x).takeWhile fun c => c == 47).length).take ((x.length - (((tl x).drop ((tl x).takeWhile fun c => c == 47).length).reverse.takeWhile fun c => c == 47).length) - ((tl x).takeWhile fun c => c == 47).length) = u
  rw [len_tl, hx]
  by_cases e : u = []
  · rw [e, List.nil_append]
    have t := tw_rep k [] (by simp)
    rw [List.append_nil] at t
    rw [t, List.length_replicate, List.drop_eq_nil_of_le (by rw [List.length_replicate]; exact Nat.le_refl _)]
    exact List.take_nil
  · rw [tw_free h0 e]
    show ((u ++ List.replicate k 47).drop 0).take (((u ++ List.replicate k 47).length - (((u ++ List.replicate k 47).drop 0).reverse.takeWhile fun c => c == 47).length) - 0) = u
    rw [List.drop_zero, List.reverse_append, List.reverse_replicate, tw_rep k u.reverse (by rw [List.head?_reverse]; exact h1), List.length_replicate, List.length_append, List.length_replicate, Nat.add_sub_cancel, Nat.sub_zero, List.take_left']
    rfl
theorem jl_head : ∀ {p : List Str}, Nms p → (jl p).head? ≠ some 47
  | [], _ => by intro q; cases q
  | y :: r, h => by
    have hy := h y List.mem_cons_self
    have e : ∃ t, jl (y :: r) = tl y ++ t := by
      cases r with
      | nil => exact ⟨[], (List.append_nil _).symm⟩
      | cons z r => exact ⟨_, rfl⟩
    obtain ⟨t, e⟩ := e
    rw [e]
    intro q
    match h2 : tl y with
    | [] => exact nm_ne hy h2
    | c :: u =>
      rw [h2, List.cons_append, List.head?_cons] at q
      refine nm_free hy ?_
      rw [h2, Option.some.inj q]
      exact List.mem_cons_self
theorem jl_last : ∀ {p : List Str}, Nms p → (jl p).getLast? ≠ some 47
  | [], _ => by intro q; cases q
  | [y], h => fun q => nm_free (h y List.mem_cons_self) (List.mem_of_getLast? q)
  | y :: z :: r, h => by
    have ih := jl_last (p := z :: r) h.tail
    show (tl y ++ ([47] ++ jl (z :: r))).getLast? ≠ some 47
    rw [List.getLast?_append, List.getLast?_append]
    intro q
    match e : (jl (z :: r)).getLast? with
    | none => exact jl_ne h.tail (by simp) (List.getLast?_eq_none_iff.mp e)
    | some c =>
      rw [e] at q
      exact ih (by rw [e]; exact q)
theorem strip_ent {n : Str} (hn : IsNm n) (b : Bool) : Txt.stripChars (ent n b) "/" = n := by
  refine ext_tl (strip_core (k := if b = true then 1 else 0) ?_ ?_ ?_)
  · have := jl_head (p := [n]) (by simpa [Nms] using hn)
    exact this
  · have := jl_last (p := [n]) (by simpa [Nms] using hn)
    exact this
  · rw [tl_ent]
    cases b <;> rfl
/-- a front: a path with a stroke behind it, or nothing -/
theorem strip_front {q p : List Str} (hq : Nms q) (hp : Nms p) : Txt.stripChars (bg q ++ js p) "/" = js (q ++ p) := by
  by_cases h : p = []
  · subst h
    rw [List.append_nil]
    refine ext_tl ?_
    rw [tl_js]
    refine strip_core (k := if q = [] then 0 else 1) (jl_head hq) (jl_last hq) ?_
    unfold bg
    by_cases e : q = []
    · rw [if_pos e, if_pos e, e]
      rfl
    · rw [if_neg e, if_neg e, tl_append, tl_append, tl_js, tl_sl]
      show jl q ++ [47] ++ [] = jl q ++ [47]
      rw [List.append_nil]
  · rw [bg_app q h]
    refine ext_tl ?_
    rw [tl_js]
    refine strip_core (k := 0) (jl_head (hq.app hp)) (jl_last (hq.app hp)) ?_
    rw [tl_js]
    simp
end Z

set_option maxHeartbeats 3900000
namespace Z
open PySem PySem.Spec PyProof.Rows L2 TL
open C8 (pss_cut tCut pe_gc)
open CB
abbrev sIsName : Stmt := top 8
abbrev sIsPath : Stmt := top 9
def Sh (z : Str) : Prop := z.length ≤ 1000
theorem Sh.line {z : Str} (h : Sh z) : z.length ≤ sizeLine := Nat.le_trans h (by decide)
theorem js_len : ∀ {p : List Str}, Nms p → (js p).length ≤ 9 * p.length
  | [], _ => Nat.le_of_eq rfl
  | [y], h => by
    rw [js_one]
    have := (h y List.mem_cons_self).2.1
    show y.length ≤ 9
    omega
  | y :: z :: r, h => by
    have ih := js_len (p := z :: r) h.tail
    have := (h y List.mem_cons_self).2.1
    rw [js_cons y (by simp), len_tl, tl_append, tl_append, List.length_append, List.length_append, tl_sl, ← len_tl, ← len_tl]
    show y.length + 1 + (js (z :: r)).length ≤ _
    rw [List.length_cons (a := y)]
    omega
theorem js_sh {p : List Str} (h : Nms p) (hl : p.length ≤ 100) : Sh (js p) := by
  have := js_len h
  unfold Sh
  omega
theorem nm_sh {y : Str} (h : IsNm y) : Sh y := by
  have := h.2.1
  unfold Sh
  omega
/-- the package's constants and what it reads of the built-in names -/
structure TPk (mg : Str → Option Value) : Prop where
  b : TB mg
  STROKE : ∃ t, mg "STROKE" = some (.str "/" t)
  LETTERS : ∃ t, mg "LETTERS" = some (.str letters t)
  LONGEST : ∃ t, mg "LONGEST" = some (.int 8 t)
def spS1 (C : Str → Prop) (g : Str → V) : Sp := fun vs H Q _ => ∃ z, vs = [.str z] ∧ C z ∧ ∀ H', Same H H' → Q (g z) H'
def spS2 (C : Str → Str → Prop) (g : Str → Str → V) : Sp := fun vs H Q _ => ∃ x y, vs = [.str x, .str y] ∧ C x y ∧ ∀ H', Same H H' → Q (g x y) H'
def begS (z : Str) : Str := if decide (z = "") = true then "" else z ++ "/"
theorem begS_js {p : List Str} (h : Nms p) : begS (js p) = bg p := bg_str p h
def benS (x y : Str) : Bool := (!decide (x = y)) && Txt.startswith x (begS y)
theorem benS_js {p q : List Str} (hp : Nms p) (hq : Nms q) : benS (js p) (js q) = ben p q := by
  unfold benS
  rw [begS_js hq, js_eq hp hq, ← sw_bg hp hq]
  by_cases e : p = q <;> simp [e]
abbrev spIsName : Sp := spS1 Sh fun z => .bl (decide (IsNm z))
def spIsPath : Sp := fun vs H Q _ => ∃ p, vs = [.str (js p)] ∧ Nms p ∧ p.length ≤ 100 ∧ ∀ H', Same H H' → Q (.bl (decide (p ≠ []))) H'
def spIsPlace : Sp := fun vs H Q _ => ∃ p, vs = [.str (js p)] ∧ Nms p ∧ p.length ≤ 100 ∧ ∀ H', Same H H' → Q (.bl true) H'
abbrev spBeg : Sp := spS1 Sh fun z => .str (begS z)
abbrev spBen : Sp := spS2 (fun x y => Sh x ∧ Sh y) fun x y => .bl (benS x y)
abbrev spAt : Sp := spS2 (fun x y => Sh x ∧ Sh y) fun x y => .bl (decide (x = y) || benS x y)
abbrev spRest : Sp := spS2 (fun x y => Sh x ∧ Sh y) fun x y => .str (cutS x (some ((begS y).length : Int)) none)
theorem isNm_eq (z : Str) : decide (IsNm z) = (decide (1 ≤ z.length) && decide (z.length ≤ 8) && (tl z).all fun c => decide (c ∈ letters.cps.toList)) := by
  apply Bool.eq_iff_iff.mpr
  rw [decide_eq_true_iff, Bool.and_eq_true, Bool.and_eq_true, decide_eq_true_iff, decide_eq_true_iff, List.all_eq_true]
  constructor
  · rintro ⟨h1, h2, h3⟩
    refine ⟨⟨h1, h2⟩, fun c hc => decide_eq_true ?_⟩
    obtain ⟨a, b⟩ := h3 c hc
    have := letter_at (c - 97) (by omega)
    rw [show 97 + (c - 97) = c by omega] at this
    exact List.mem_of_getElem? this
  · rintro ⟨⟨h1, h2⟩, h3⟩
    exact ⟨h1, h2, fun c hc => letters_all c (of_decide_eq_true (h3 c hc))⟩
section
variable {P : Program} {w : World} {K : PySem.W.Frag} {mg : Str → Option Value} {base : Heap}
theorem scIsName : FnScope ["thing", "letter"] ["thing"] (defScope sIsName) := ⟨rfl, rfl, rfl, by decide +kernel, rfl, by decide +kernel, by decide +kernel⟩
theorem ok_isName {f : Addr} {fd : FuncData} (F : Fun K "is_name" "is_name" sIsName f fd) (T0 : TPk mg) : FnOk P w K mg base CX0 1 f fd ["thing"] spIsName := by
  have T := T0.b
  obtain ⟨t1, mLETTERS⟩ := T0.LETTERS
  obtain ⟨t2, mLONGEST⟩ := T0.LONGEST
  refine F.ok scIsName (fun vs H Q E h => ?_) (fun cdv A outer s H vs Q E hr h => ?_)
  · obtain ⟨z, rfl, _⟩ := h
    rfl
  · obtain ⟨z, rfl, hz, k⟩ := h
    refine ⟨_, pss_cons (ps_if (PW.pt (pw_or (pt_not (pt_val (pe_callB call_isi (by rfl) T.isinstance (by decide +kernel) (pa_cons (pv 0) (pa_cons (pe_bltn (v := .ty "str") (by rfl) T.str (by decide +kernel) rfl) pa_nil))))) (pw_or1 (pt_not (pt_chain op_le op_le pe_int (pe_callB call_len_str (by rfl) T.len PySem.boot_len (pa_cons (pv 0) pa_nil)) (pe_glob (v := .int 8) rfl mLONGEST ⟨_, rfl⟩)))))) (pss_one (ps_ret pe_bl)) (pss_nil))
        (pss_one (ps_ret (pe_callB (cr_all rfl) (by rfl) T.all boot_all (pa_cons (pe_lc (own := [("letter", 1)]) (g := gName 1) (tt := tYes) rfl scIsName.nd (pi_str (pv 0)) (blkOk_by (own := [("letter", 1)]) (N := ["thing", "letter"]) (sc := defScope sIsName) (by decide +kernel)) (fun _ _ _ _ _ => (pg_name (i := 1) scIsName.nd rfl (Or.inl rfl))) (fun _ _ _ _ _ => pts_nil) (fun _ _ _ _ _ => (pe_cmpR op_in_sign (pv 1) (pe_glob (v := .str letters) rfl mLETTERS ⟨_, rfl⟩) (by rfl)))) pa_nil)))), ?_⟩
    refine ⟨_, rfl, _, _, .type "str", .type "str", true, rfl, .ty "str", .base (.str _), kit_ty (by decide +kernel), _, rfl, iteF ⟨_, rfl, _, rfl, hz.line, _, _, rfl, rfl, _, rfl, ?_⟩⟩
    have k : ∀ H', Same H H' → Q (.bl (decide (IsNm z))) H' := k
    rw [isNm_eq] at k
    by_cases h1 : 1 ≤ z.length
    · rw [decide_eq_true (show (1 : Int) ≤ (z.length : Int) by omega)]
      rw [decide_eq_true h1, Bool.true_and] at k
      refine iteT ⟨_, _, rfl, rfl, _, rfl, ?_⟩
      by_cases h8 : z.length ≤ 8
      · rw [decide_eq_true (show ((z.length : Nat) : Int) ≤ (8 : Int) by omega)]
        rw [decide_eq_true h8, Bool.true_and] at k
        refine iteF ⟨_, rfl, z, rfl, fun D hD => ?_⟩
        refine lc_mapS z (fun c => .bl (decide (c ∈ letters.cps.toList))) (by omega) hD ?_ ?_
        · intro c hc H2 s2 Q1 k1
          exact ⟨_, rfl, c, letters, rfl, rfl, k1 H2 (Same.refl H2)⟩
        · intro H' s' hD'
          exact all_of _ _ hD' (k H' s')
      · rw [decide_eq_false (show ¬ ((z.length : Nat) : Int) ≤ (8 : Int) by omega)]
        rw [decide_eq_false h8, Bool.false_and] at k
        exact iteT (k H (Same.refl H))
    · rw [decide_eq_false (show ¬ (1 : Int) ≤ (z.length : Int) by omega)]
      rw [decide_eq_false h1, Bool.false_and, Bool.false_and] at k
      exact iteF ⟨_, rfl, iteT (k H (Same.refl H))⟩
theorem scIsPath : FnScope ["thing", "part"] ["thing"] (defScope sIsPath) := ⟨rfl, rfl, rfl, by decide +kernel, rfl, by decide +kernel, by decide +kernel⟩
theorem ok_isPath {f fN : Addr} {fd fdN : FuncData} (F : Fun K "is_path" "is_path" sIsPath f fd) (T0 : TPk mg) (aIsName : At K mg "is_name" fN fdN ["thing"]) (GIsName : FnOk P w K mg base CX0 1 fN fdN ["thing"] spIsName) : FnOk P w K mg base CX0 2 f fd ["thing"] spIsPath := by
  have T := T0.b
  obtain ⟨t1, mSTROKE⟩ := T0.STROKE
  refine F.ok scIsPath (fun vs H Q E h => ?_) (fun cdv A outer s H vs Q E hr h => ?_)
  · obtain ⟨z, rfl, _⟩ := h
    rfl
  · obtain ⟨p, rfl, hp, hl, k⟩ := h
    refine ⟨_, pss_one (ps_ret (pe_and (pe_callB call_isi (by rfl) T.isinstance (by decide +kernel) (pa_cons (pv 0) (pa_cons (pe_bltn (v := .ty "str") (by rfl) T.str (by decide +kernel) rfl) pa_nil))) (pe_one (pe_callB (cr_all rfl) (by rfl) T.all boot_all (pa_cons (pe_lc (own := [("part", 1)]) (g := gName 1) (tt := tYes) rfl scIsPath.nd (pi_list (pe_bm PySem.F.plainAttrs_str PySem.F.slot_str_split PySem.F.type_str_split mt_split (pv 0) (pa_cons (pe_glob (v := .str "/") rfl mSTROKE ⟨_, rfl⟩) pa_nil))) (blkOk_by (own := [("part", 1)]) (N := ["thing", "part"]) (sc := defScope sIsPath) (by decide +kernel)) (fun _ _ _ _ _ => (pg_name (i := 1) scIsPath.nd rfl (Or.inl rfl))) (fun _ _ _ _ _ => pts_nil) (fun _ _ _ _ _ => (pe_call GIsName (hr.mono (by decide)) rfl aIsName.m aIsName.k aIsName.b .nil pass0 (pa_cons (pv 1) pa_nil)))) pa_nil))))), ?_⟩
    have hs := js_sh hp hl
    obtain ⟨ys, e1, e2, e3⟩ : ∃ ys, Txt.split (js p) "/" = ys ∧ (∀ y ∈ ys, Sh y) ∧ (ys.length < 1000000 ∧ ys.all (fun y => decide (IsNm y)) = decide (p ≠ [])) := by
      by_cases h : p = []
      · subst h
        refine ⟨[""], by decide +kernel, ?_, by decide, by decide +kernel⟩
        intro y hy
        rw [List.mem_singleton.mp hy]
        exact Nat.zero_le _
      · refine ⟨p, split_js hp h, fun y hy => nm_sh (hp y hy), by omega, ?_⟩
        rw [decide_eq_true h, List.all_eq_true]
        exact fun y hy => decide_eq_true (hp y hy)
    refine ⟨_, rfl, _, _, .type "str", .type "str", true, rfl, .ty "str", .base (.str _), kit_ty (by decide +kernel), true, rfl, iteT ⟨_, rfl, rfl, js p, "/", rfl, rfl, rfl, ?_, fun l hl' => ⟨l, rfl, ⟨_, SqL.of upd_same⟩, fun D hD => ?_⟩⟩⟩
    · have := hs
      unfold Sh at this
      exact Nat.le_trans (show (js p).length + 2 ≤ 1002 by omega) (by decide)
    · rw [e1] at hD ⊢
      have s1 : Same H (upd H l (.lst (ys.map V.str))) := same_mk hl'
      refine lc_mapL ys V.str (fun y => .bl (decide (IsNm y))) e3.1 hD (SqL.of upd_same) ?_ ?_
      · intro y hy H2 s2 Q1 k1
        exact ⟨_, rfl, y, rfl, e2 y hy, k1⟩
      · intro H' s' hD'
        refine all_of _ _ hD' ?_
        rw [e3.2]
        exact k H' (s1.trans s')
theorem begS_sh {z : Str} (h : Sh z) : (begS z).length ≤ sizeLine := by
  have := h
  unfold Sh at this
  refine Nat.le_trans (show (begS z).length ≤ 1001 from ?_) (by decide)
  unfold begS
  by_cases e : z = ""
  · rw [if_pos (decide_eq_true e)]
    exact Nat.zero_le _
  · rw [if_neg (by rw [decide_eq_false e]; simp), len_tl, tl_append, List.length_append, tl_sl, ← len_tl]
    show z.length + 1 ≤ 1001
    omega
end
end Z

set_option maxHeartbeats 3900000
namespace CB
open PySem PySem.Spec PyProof.Rows L2 PyProof.V
/-! two rules that were lacking: a text times 0 or 1; setdefault by a tuple -/
def rMulS : R2 := fun x y H Q => ∃ (z : Str) (b : Bool), x = .str z ∧ y = .int (b2i b) ∧ z.length ≤ sizeLine ∧ Q (.str (if b = true then z else "")) H
section
variable {X : Cx}
theorem op_mulS : OpR X (binaryOp .Mult) rMulS := by
  intro pins s σ H x y v u Q I rx ry h
  obtain ⟨z, b, rfl, rfl, hz, q⟩ := h
  obtain ⟨t, rfl⟩ := rx
  obtain ⟨t', rfl⟩ := ry
  cases b with
  | false => exact P.mul_str_none (by decide) (by decide) ⟨.str "", H, I.tok _, ⟨_, rfl⟩, q⟩
  | true =>
    refine P.mul_str (by decide) (fun _ h => by cases h) (fun _ h => by cases h) ?_
    show (Made.val (.str z t)).post _ s
    exact ⟨.str z, H, I, ⟨_, rfl⟩, q⟩
/-- d.setdefault(k, x), k a tuple of texts and ints -/
def rSetdT : V → List V → Hp → VK → Prop := fun x xs H Q => ∃ (a : Addr) (kvs : List (List L2.Key × V)) (k : List L2.Key) (b : Addr) (d : V), x = .ref a ∧ xs = [.ref b, d] ∧ H a = some (.dT kvs) ∧ H b = some (.tup (k.map kV)) ∧ kvs.length < sizeLine ∧
  (∀ v, valV kvs k = some v → Q v H) ∧ (valV kvs k = none → Q d (upd H a (.dT (putK kvs k d))))
theorem mt_setdT (hu : X.A.units + 1 < cLine) : MtR X "dict.setdefault" rSetdT := by
  intro pins s σ H x xs v us Q I rx rxs h
  obtain ⟨a, kvs, k, b, d, rfl, rfl, ha, hb, hl, q1, q2⟩ := h
  cases rx
  obtain ⟨u1, u2, rfl, r1, r2⟩ := vals2 rxs
  cases r1
  obtain ⟨z, hd, xs', rel, dd⟩ := dt_of I.hok ha
  have hz : xs'.length ≤ sizeLine := by
    rw [← Paired.length rel]
    exact z
  refine call_setdefault_heap (knd := tupleKind (mixKind X.prog X.w)) (k := k) (tupleKind_room_in1 hu) (key_of I.hok hb) hd dd (fun p hp => ?_) (fun hn h' dd' hs => ?_) hz
  · have r := rel.val k
    rw [hp] at r
    obtain ⟨v0, ev, rv⟩ : ∃ v0, valV kvs k = some v0 ∧ RelV v0 p.2 := by
      cases ev : valV kvs k with
      | none =>
        rw [ev] at r
        exact (show False from r).elim
      | some v0 =>
        rw [ev] at r
        exact ⟨v0, rfl, r⟩
    exact ⟨v0, H, I.tok _, rv, q1 v0 ev⟩
  · have r := rel.val k
    rw [hn] at r
    have e : valV kvs k = none := by
      cases ev : valV kvs k with
      | none => rfl
      | some v0 =>
        rw [ev] at r
        exact (show False from r).elim
    obtain ⟨o, es, ep, hq, h2, h3, h4, _, h5⟩ := dd'
    have hl2 : (putK kvs k d).length ≤ sizeLine := by
      have := length_putK kvs k d
      omega
    refine ⟨d, _, d_write (ob := .dT (putK kvs k d)) I (by rw [ha]; exact True.intro) hs ⟨o, hq⟩ ⟨hl2, hd, _, (rel.put k hb r2).keeps fun c ys ec => ?_, o, es, ep, hq, h2, h3, h4, h5⟩, r2, q2 e⟩
    rw [upd_ne (ne_of ec ha (fun z => nomatch z))]
    exact ec
variable {K0 : PySem.W.Frag}
theorem len_seqK (hK : X.K = K0) : CallR X (.builtin "len") (fun xs H Q => ∃ p ys, xs = [V.ref p] ∧ (SqL K0 H p ys ∨ SqT K0 H p ys) ∧ Q (V.int (ys.length : Int)) H) := by
  subst hK
  exact call_len_seq
theorem sl_listK (hK : X.K = K0) : SlR X (rSlL K0) := by
  subst hK
  exact sl_list
def tJoinK (K0 : PySem.W.Frag) (to te : TE) : TE := tM1 (fun x xs H Q => ∃ a p, ∃ ys : List Str, x = .str a ∧ xs = [.ref p] ∧ (SqL K0 H p (ys.map V.str) ∨ SqT K0 H p (ys.map V.str)) ∧ (ys.map (·.length)).sum + ys.length * a.length ≤ 16777216 ∧ Q (.str (Txt.join a ys)) H) to te
theorem pe_joinK {o e : Expr} {to te : TE} {apos pos : Pos} (hK : X.K = K0) (ho : PE X o to) (he : PE X e te) (h1 : starEach [e] X.env = [(false, eval e X.env)] := by rfl) (h2 : attributeBase o "join" X.env (eval o X.env) = eval o X.env := by rfl)
    (h3 : (apos.endLine == pos.line) = true := by rfl) : PE X (.Call (.Attribute o "join" apos) [e] [] pos) (tJoinK K0 to te) := by
  subst hK
  exact pe_join ho he h1 h2 h3
end
end CB

set_option maxHeartbeats 3900000
/-! own errors of one field, whatever its name -/
namespace XW
open PySem PySem.Spec PyProof.Rows L2
open CB
/-- the error's class: its name in the module, its field, its address, that of its __init__ -/
structure ECl (K : PySem.W.Frag) (mg : Str → Option Value) (nm fl : Str) (C f : Addr) : Prop where
  mg : mg nm = some (.ref C)
  ox : OexC K C
  iC : PySem.W.findIn K (.ref C) "__init__" = some (some (.ref f))
  tI : PySem.W.typeIn K (.ref f) = some (.type "function")
  no : PySem.W.findIn K (.ref C) fl = some none
  xf : XfC K C
  te : PySem.W.exmOne K (.ref C) (.ref C) = some true
def spEIni (fl : Str) (C : Addr) : Sp := fun vs H Q _ => ∃ a x, vs = [.ref a, x] ∧ H a = some (exo a C none) ∧ ∀ dx, H dx = none → dx ≠ a → Q .non (upd (upd H dx (exd dx [(fl, x)])) a (exo a C (some dx)))
/-- what is wanted of the error -/
def EWant (H : Hp) (fl : Str) (C : Addr) (x : V) (E : XK) : Prop := ∀ d H', Same H H' → H d = none → H' d = some (.xd [(fl, x)]) → E (.ref C) (some d) H'
theorem EWant.up {H H' : Hp} {fl : Str} {C : Addr} {x : V} {E : XK} (h : EWant H fl C x E) (s : Same H H') : EWant H' fl C x E := fun d H2 s2 hd he => h d H2 (s.trans s2) (s.free hd) he
theorem del_no {H : Hp} {a b : Addr} (h : b ≠ a) : del H a b = H b := if_neg h
theorem eraise_at {H H1 : Hp} {fl : Str} {C a dx : Addr} {x : V} {E : XK} (s1 : Same H H1) (ha : H1 a = none) (hdx : upd H1 a (exo a C none) dx = none) (hne : dx ≠ a) (k : EWant H fl C x E) :
    ∃ (d : Addr) (fs : List (Str × V)), upd (upd (upd H1 a (exo a C none)) dx (exd dx [(fl, x)])) a (exo a C (some dx)) a = some (exo a C (some d)) ∧ upd (upd (upd H1 a (exo a C none)) dx (exd dx [(fl, x)])) a (exo a C (some dx)) d = some (exd d fs) ∧ H1 d = none ∧
      E (.ref C) (some d) (upd (del (upd (upd (upd H1 a (exo a C none)) dx (exd dx [(fl, x)])) a (exo a C (some dx))) a) d (.xd fs)) := by
  have hn : H1 dx = none := by
    rw [upd_ne hne] at hdx
    exact hdx
  refine ⟨dx, [(fl, x)], upd_same, by rw [upd_ne hne, upd_same], hn, k dx _ (fun b u hb => ?_) (s1.free hn) upd_same⟩
  have hb1 := s1 _ _ hb
  have n1 : b ≠ a := fun e => by rw [e, ha] at hb1; cases hb1
  have n2 : b ≠ dx := fun e => by rw [e, hn] at hb1; cases hb1
  rw [upd_ne n2, del_no n1, upd_ne n1, upd_ne n2, upd_ne n1]
  exact hb1
/-- things that are no texts -/
inductive NoText (H : Hp) : V → Prop
  | non : NoText H .non
  | int (i : Int) : NoText H (.int i)
  | bl (b : Bool) : NoText H (.bl b)
  | lst {a : Addr} {xs : List V} (h : H a = some (.lst xs)) : NoText H (.ref a)
  | tup {a : Addr} {xs : List V} (h : H a = some (.tup xs)) : NoText H (.ref a)
  | dct {a : Addr} {kvs : List (L2.Key × V)} (h : H a = some (.dK kvs)) : NoText H (.ref a)
theorem NoText.ty {K : PySem.W.Frag} {H : Hp} {v : V} (h : NoText H v) : ∃ t : String, TyX K H v (.type t) ∧ PySem.W.kitOne K (.type t) (.type "str") = some false := by
  cases h with
  | non => exact ⟨"NoneType", .base .non, kit_ty (by decide +kernel)⟩
  | int i => exact ⟨"int", .base (.int i), kit_ty (by decide +kernel)⟩
  | bl b => exact ⟨"bool", .base (.bl b), kit_ty (by decide +kernel)⟩
  | lst h => exact ⟨"list", .base (.lst h), kit_ty (by decide +kernel)⟩
  | tup h => exact ⟨"tuple", .base (.tup h), kit_ty (by decide +kernel)⟩
  | dct h => exact ⟨"dict", .base (.dK h), kit_ty (by decide +kernel)⟩
theorem NoText.up {H H' : Hp} {x : V} (h : NoText H x) (s : Same H H') : NoText H' x := by
  cases h with
  | non => exact .non
  | int i => exact .int i
  | bl b => exact .bl b
  | lst h => exact .lst (s _ _ h)
  | tup h => exact .tup (s _ _ h)
  | dct h => exact .dct (s _ _ h)
end XW

set_option maxHeartbeats 3900000
/-! zip of a list and a tuple -/
namespace ZL
open PySem PySem.Spec PyProof.Rows L2
theorem nd {x y : Nat} (h : x < y ∨ y < x) : x ≠ y := by omega
/-- the pairs of the list at a and the tuple at b -/
def Izt (K : PySem.W.Frag) (a b : Addr) (xs ys : List V) : It where
  go i H := (SqL K H a xs ∧ SqT K H b ys) ∧ i < xs.length ∧ i < ys.length
  yld i H v H' := ∃ T x y, v = .ref T ∧ H T = none ∧ H' = upd H T (.tup [x, y]) ∧ xs[i]? = some x ∧ ys[i]? = some y
  stop i H := (SqL K H a xs ∧ SqT K H b ys) ∧ (xs.length ≤ i ∨ ys.length ≤ i)
structure Zst (z tI tO p q a b n m i : Nat) (h : Heap) : Prop where
  z : IsZip h z tI tO .none
  tI : IsTupOf2 h tI (.ref p) (.ref q)
  tO : ∃ u v, IsTupOf2 h tO u v
  p : h.IsListIter p a i
  q : h.IsTupleIter q b i
  n : i ≤ n
  m : i ≤ m
theorem turn_zipLT {P : Program} {w : World} {K : PySem.W.Frag} {elts : List Expr} {kk : Nat} {tpos : Pos} {g a b : Nat} (xs ys : List V) (ha : a < g) (hb : b < g) :
    Turn P w K (.Tuple elts kk tpos) (Izt K a b xs ys) [g + 4, g + 2, g + 3, g, g + 1] (g + 4) (fun i h => Zst (g + 4) (g + 2) (g + 3) g (g + 1) a b xs.length ys.length i h) where
  mem := by simp
  obj := fun i h st c hc => by
    have cs : c = g + 4 ∨ c = g + 2 ∨ c = g + 3 ∨ c = g ∨ c = g + 1 := by simpa using hc
    obtain ⟨u, v, hO⟩ := st.tO
    obtain ⟨o1, e1, _, d1⟩ := st.p
    obtain ⟨o2, e2, _, d2⟩ := st.q
    rcases cs with rfl | rfl | rfl | rfl | rfl
    · exact ⟨_, st.z, fun v x => nomatch x⟩
    · exact ⟨_, st.tI, fun v x => nomatch x⟩
    · exact ⟨_, hO, fun v x => nomatch x⟩
    · exact ⟨o1, e1, fun v x => by rw [d1] at x; cases x⟩
    · exact ⟨o2, e2, fun v x => by rw [d2] at x; cases x⟩
  keep := fun i h h' st k => by
    obtain ⟨u, v, hO⟩ := st.tO
    exact ⟨k _ (by simp) _ st.z, k _ (by simp) _ st.tI, ⟨u, v, k _ (by simp) _ hO⟩, st.p.at fun o => k _ (by simp) o, st.q.at fun o => k _ (by simp) o, st.n, st.m⟩
  item := by
    intro X hP hw hK hc i pins s σ H E I hf st hg
    subst hP hw hK
    obtain ⟨⟨qx, qy⟩, lx, ly⟩ := hg
    obtain ⟨its, rv, pl, _⟩ := I.list qx
    obtain ⟨its2, rv2, pt, _⟩ := I.tuple qy
    have pt : s.heap.IsTuple b its2.toArray := pt
    have hx : xs[i]? = some xs[i] := List.getElem?_eq_getElem lx
    have hy : ys[i]? = some ys[i] := List.getElem?_eq_getElem ly
    generalize xs[i] = x at hx
    generalize ys[i] = y at hy
    obtain ⟨ux, hux, rux⟩ := rv.get hx
    obtain ⟨uy, huy, ruy⟩ := rv2.get hy
    have gl : g + 4 < s.heap.objs.size := Heap.lt_size st.z
    have D1 := Draws.list (prog := X.prog) (w := X.w) (A := X.A.in1) (I.ok.hd hc) g a (Nat.ne_of_lt ha) its.toArray
    have D2 := Draws.tuple (prog := X.prog) (w := X.w) (A := X.A.in1) (I.ok.hd hc) (g + 1) b (nd (by omega)) its2.toArray
    have S : ZipSep2 (g + 4) (g + 2) (g + 3) g (g + 1) [g, a] [g + 1, b] := by
      constructor <;> (try simp only [List.mem_cons, List.not_mem_nil, or_false, not_or, true_or]) <;> first | exact nd (by omega) | exact ⟨nd (by omega), nd (by omega)⟩
    obtain ⟨u0, v0, hO⟩ := st.tO
    have n1 : i < its.toArray.size := by
      have := (List.getElem?_eq_some_iff.mp hux).1
      simpa using this
    have n2 : i < its2.toArray.size := by
      have := (List.getElem?_eq_some_iff.mp huy).1
      simpa using this
    refine wpAny_pyNext_zipD2_item S D1 D2 st.z st.tI hO ⟨st.p, pl.isList⟩ ⟨st.q, pt⟩ n1 n2 fun v1 v2 h' tk hv1 hv2 z' tO' s1' s2' hT hsz hk => ?_
    obtain rfl : v1 = ux := by
      have : its[i]? = some v1 := by simpa using hv1
      exact Option.some.inj (this.symm.trans hux)
    obtain rfl : v2 = uy := by
      have : its2[i]? = some v2 := by simpa using hv2
      exact Option.some.inj (this.symm.trans huy)
    refine ⟨_, rfl, wpAny_letOwnedTupleGo_zip (s := { s with heap := h', toks := tk }) z' fun h'' z'' sb => ?_⟩
    have far : ∀ c, c ∉ [g + 4, g + 2, g + 3, g, g + 1] → c ≠ g + 4 ∧ c ≠ g + 3 ∧ c ≠ g ∧ c ≠ g + 1 := fun c hc => by
      simp only [List.mem_cons, List.not_mem_nil, or_false, not_or] at hc
      exact ⟨hc.1, hc.2.2.1, hc.2.2.2.1, hc.2.2.2.2⟩
    have mk : h''.get? s.heap.objs.size = some { cls := .type "tuple", data := .seq #[v1, v2] } := (sb.2 _ (nd (by omega))).trans hT
    have J : Inv X pins σ (upd H s.heap.objs.size (.tup [x, y])) { s with heap := h'', toks := tk } := by
      refine I.turnedNew (ch := [g + 4, g + 2, g + 3, g, g + 1]) (fun c o hc q => ?_) hf (Nat.le_refl _) ⟨by show 2 ≤ sizeLine; decide, [v1, v2], .cons rux (.cons ruy .nil), ⟨_, mk, rfl, _, rfl⟩⟩
      obtain ⟨c1, c2, c3, c4⟩ := far c hc
      exact (sb.2 c c1).trans (hk c o c1 c2 c3 c4 q)
    refine ⟨.ref s.heap.objs.size, _, J, rfl, ⟨s.heap.objs.size, x, y, rfl, I.hok.fresh (Nat.le_refl _), rfl, hx, hy⟩, ⟨z'', ?_, ⟨v1, v2, ?_⟩, ?_, ?_, lx, ly⟩, fun c hc => ?_⟩
    · exact (sb.2 _ (nd (by omega))).trans (hk _ _ (nd (by omega)) (nd (by omega)) (nd (by omega)) (nd (by omega)) st.tI)
    · exact (sb.2 _ (nd (by omega))).trans tO'
    · exact s1'.1.at fun o q => (sb.2 _ (nd (by omega))).trans q
    · exact s2'.1.at fun o q => (sb.2 _ (nd (by omega))).trans q
    · have : c < s.heap.objs.size := by
        have cs : c = g + 4 ∨ c = g + 2 ∨ c = g + 3 ∨ c = g ∨ c = g + 1 := by simpa using hc
        rcases cs with rfl | rfl | rfl | rfl | rfl <;> exact Nat.lt_of_le_of_lt (by omega) gl
      rw [upd_ne (Nat.ne_of_lt this)]
      exact (hf c hc).1
  done := by
    intro X hP hw hK hc i pins s σ H E I hf st hg
    subst hP hw hK
    obtain ⟨⟨qx, qy⟩, over⟩ := hg
    obtain ⟨its, rv, pl, _⟩ := I.list qx
    obtain ⟨its2, rv2, pt, _⟩ := I.tuple qy
    have pt : s.heap.IsTuple b its2.toArray := pt
    have D1 := Draws.list (prog := X.prog) (w := X.w) (A := X.A.in1) (I.ok.hd hc) g a (Nat.ne_of_lt ha) its.toArray
    have D2 := Draws.tuple (prog := X.prog) (w := X.w) (A := X.A.in1) (I.ok.hd hc) (g + 1) b (nd (by omega)) its2.toArray
    have S : ZipSep2 (g + 4) (g + 2) (g + 3) g (g + 1) [g, a] [g + 1, b] := by
      constructor <;> (try simp only [List.mem_cons, List.not_mem_nil, or_false, not_or, true_or]) <;> first | exact nd (by omega) | exact ⟨nd (by omega), nd (by omega)⟩
    obtain ⟨u0, v0, hO⟩ := st.tO
    have l1 : its.toArray.size = xs.length := by
      rw [rv.length]
      simp
    have l2 : its2.toArray.size = ys.length := by
      rw [rv2.length]
      simp
    have := st.n
    have := st.m
    refine wpAny_pyNext_zipD2_end S D1 D2 st.z st.tI hO ⟨st.p, pl.isList⟩ ⟨st.q, pt⟩ (by omega) (by omega) (by omega) fun h' tk hk => ⟨rfl, ?_⟩
    refine I.turnedL (ch := [g + 4, g + 2, g + 3, g, g + 1]) (fun c o hc q => ?_) hf
    simp only [List.mem_cons, List.not_mem_nil, or_false, not_or] at hc
    exact hk c o hc.1 hc.2.2.1 hc.2.2.2.1 hc.2.2.2.2 q
  self := fun A i s Q E st h => wpAny_pyIter_zip st.z h
/-- for (x, y) in zip(e, e2), e a list, e2 a tuple -/
def iZipLT (K : PySem.W.Frag) (ta : TA) : TI := fun σ H R => ta σ H fun vs H1 => ∃ a b xs ys, vs = [.ref a, .ref b] ∧ (SqL K H1 a xs ∧ SqT K H1 b ys) ∧ R (Izt K a b xs ys) H1
theorem pi_zipLT {X : Cx} {e e2 : Expr} {ta : TA} {p pos tpos : Pos} {elts : List Expr} {kk : Nat} (hg : Gl X "zip") (hm : X.mg "zip" = none) (ha : PA X [e, e2] ta)
    (hs : starEach [e, e2] X.env = (false, eval e X.env) :: starEach [e2] X.env := by rfl) (hpl : (backTo pos (starEach [e2] X.env)).any (·.1) = false := by rfl) :
    PI X (.Tuple elts kk tpos) (.Call (.Name "zip" p) [e, e2] [] pos) (iZipLT X.K ta) := by
  constructor
  intro pins s σ H R I h
  refine Call_ (ld_blt I hg hm boot_zip (PyProof.Rows.callWith_type1 (thn (ha.run pos pins s σ H _ I h) fun us s1 got => ?_) hs hpl))
  obtain ⟨vs, H1, J, rr, a, b, xs, ys, rfl, ⟨qx, qy⟩, k⟩ := got
  obtain rfl : us = [Value.ref a, Value.ref b] := by
    cases rr with
    | cons r1 rr =>
      cases rr with
      | cons r2 rr =>
        cases rr
        cases r1
        cases r2
        rfl
  obtain ⟨its, rv, pl, _⟩ := J.list qx
  obtain ⟨its2, rv2, pt, _⟩ := J.tuple qy
  have pt : s1.heap.IsTuple b its2.toArray := pt
  have la : a < s1.heap.objs.size := pl.lt
  have lb : b < s1.heap.objs.size := by
    obtain ⟨_, q, _⟩ := pt
    exact Heap.lt_size q
  refine zip_begins2 (begins_list a its.toArray) (begins_tuple b its2.toArray) pl.isList pt fun h' hz hI hO h1 h2 hsz hk => wpAny_pyIter_zip hz ?_
  refine ⟨s1.heap.objs.size + 4, _, _, _, H1, rfl, J.kept (t' := s1.toks) hk, turn_zipLT xs ys la lb, ⟨hz, hI, ⟨_, _, hO⟩, ⟨_, h1, rfl, rfl⟩, ⟨_, h2, rfl, rfl⟩, Nat.zero_le _, Nat.zero_le _⟩, fun c hc => ?_, k⟩
  have cs : c = s1.heap.objs.size + 4 ∨ c = s1.heap.objs.size + 2 ∨ c = s1.heap.objs.size + 3 ∨ c = s1.heap.objs.size ∨ c = s1.heap.objs.size + 1 := by simpa using hc
  have : s1.heap.objs.size ≤ c := by rcases cs with rfl | rfl | rfl | rfl | rfl <;> first | exact Nat.le_add_right _ _ | exact Nat.le_refl _
  exact J.fpOk this (J.hok.fresh this)
theorem walk_zipLT {K : PySem.W.Frag} {a b : Addr} {xs ys : List V} {n : Nat} (hn : n = min xs.length ys.length) : Walk (Izt K a b xs ys) n (fun H => SqL K H a xs ∧ SqT K H b ys) (YPair (fun i => xs[i]?) (fun i => ys[i]?)) := by
  refine ⟨fun i _ hi q => ⟨q, by omega, by omega⟩, fun _ q => ⟨q, by subst hn; omega⟩, fun i H v H' _ q y => ?_⟩
  obtain ⟨T, x, y, h1, h2, h3, h4, h5⟩ := y
  exact ⟨T, x, y, h1, h2, h3, h4, h5⟩
end ZL

set_option maxHeartbeats 3900000
/-! comprehensions over pairs whose things are told by what is true of them -/
namespace LR
open PySem PySem.Spec PyProof.Rows L2
open CB ZL
section
variable {J : It} {n : Nat} {G : Hp → Prop} {K : PySem.W.Frag} {fx fy : Nat → Option V} {i j : Nat} {te : TE} {σ : L2.St} {H1 : Hp} {D : Addr} {Qd : Hp → Prop}
theorem lcR2 (w : Walk J n G (YPair fx fy)) (hij : i ≠ j) (R : Nat → V → Hp → Prop) (mono : ∀ i y H H', TupS H H' → R i y H → R i y H') (hs : n < 1000000) (hD : H1 D = none) (hG : ∀ H', Same H1 H' → G H')
    (turn : ∀ (m : Nat) (x x' : V) (H2 : Hp), m < n → fx m = some x → fy m = some x' → Same H1 H2 → ∀ Q1 : VK, (∀ y H4, Same H2 H4 → R m y H4 → Q1 y H4) → te (((wipe σ [i, j]).set i (some x)).set j (some x')) H2 Q1)
    (hd : ∀ ys H', ys.length = n → Same H1 H' → H' D = some (.lst ys) → (∀ i y, ys[i]? = some y → R i y H') → Qd H') :
    ∃ W : Nat → Nat → Hp → Prop, (∃ m, W 0 m (upd H1 D (.lst []))) ∧ ∀ k m H, W k m H →
      (J.stop k H ∧ Qd H) ∨ (J.go k H ∧ ∃ Nx : Hp → Prop, (∀ H', Nx H' → ∃ m', m' < m ∧ W (k + 1) m' H') ∧ ∀ x H', J.yld k H x H' → gTup K 2 (gCons (gName i) (gCons (gName j) gNil)) x (wipe σ [i, j]) H' fun σ2 H2 => wipe σ2 [i, j] = wipe σ [i, j] ∧ tYes σ2 H2 fun b H3 =>
        if b = true then te σ2 H3 fun y H4 => ∃ acc, H4 D = some (.lst acc) ∧ acc.length < sizeLine ∧ Nx (upd H4 D (.lst (acc ++ [y]))) else Nx H3) := by
  refine lc_it w (fun k H' => Same H1 H' ∧ ∃ ys, ys.length = k ∧ H' D = some (.lst ys) ∧ ∀ m y, ys[m]? = some y → R m y H') ⟨same_mk hD, [], rfl, upd_same, fun m y h => by cases h⟩ (fun k H' _ q => hG H' q.1) ?_ ?_
  · rintro m x H2 H3 hm ⟨s2, ys, hl, hd2, hr⟩ ⟨T, x1, x2, rfl, hT, rfl, e1, e2⟩
    refine ⟨T, _, rfl, SqT.of upd_same, rfl, x1, _, rfl, x2, _, rfl, rfl, wipe2 hij x1 x2, ?_⟩
    have s3 : Same H2 (upd H2 T (.tup [x1, x2])) := same_mk hT
    refine turn m x1 x2 _ hm e1 e2 (s2.trans s3) _ fun v H4 s4 r => ?_
    have hd4 := s4 _ _ (s3 _ _ hd2)
    have up : TupS H4 (upd H4 D (.lst (ys ++ [v]))) := fun b xs h => by
      rw [upd_ne (ne_of h hd4 (by intro z; cases z))]
      exact h
    refine ⟨_, hd4, Nat.lt_of_lt_of_le (show ys.length < 1000000 by omega) (by decide), same_ch ((s2.trans s3).trans s4) hD, ys ++ [v], by rw [List.length_append, hl]; rfl, upd_same, fun q z hq => ?_⟩
    by_cases e : q < ys.length
    · rw [List.getElem?_append_left e] at hq
      exact mono _ _ _ _ up (mono _ _ _ _ (TupS.of (s3.trans s4)) (hr q z hq))
    · rw [List.getElem?_append_right (by omega)] at hq
      have lt := (List.getElem?_eq_some_iff.mp hq).1
      rw [List.length_singleton] at lt
      have eq : q = ys.length := by omega
      subst eq
      rw [Nat.sub_self] at hq
      cases hq
      rw [hl]
      exact mono _ _ _ _ up r
  · rintro H' ⟨s, ys, hl, h, hr⟩
    exact hd ys H' hl s h hr
end
section
variable {K : PySem.W.Frag} {i j ia ib : Nat} {te : TE} {σ : L2.St} {H : Hp} {Q : VK} {a b : Addr}
/-- over zip(x, y), x a list, y a tuple -/
theorem lcR_zipLT (xs ys : List V) (hij : i ≠ j) (R : Nat → V → Hp → Prop) (mono : ∀ i y H H', TupS H H' → R i y H → R i y H')
    (ha : σ[ia]? = some (some (.ref a))) (hb : σ[ib]? = some (some (.ref b))) (hx : H a = some (.lst xs)) (hy : H b = some (.tup ys)) (hl : xs.length = ys.length) (hs : xs.length < 1000000)
    (turn : ∀ (m : Nat) (x y : V) (H2 : Hp), xs[m]? = some x → ys[m]? = some y → Same H H2 → ∀ Q1 : VK, (∀ v H4, Same H2 H4 → R m v H4 → Q1 v H4) → te (((wipe σ [i, j]).set i (some x)).set j (some y)) H2 Q1)
    (hd : ∀ D zs H', zs.length = xs.length → Same H H' → H D = none → H' D = some (.lst zs) → (∀ i v, zs[i]? = some v → R i v H') → Q (.ref D) H') :
    tLc (iZipLT K (tCons (tVar ia) (tCons (tVar ib) tNil))) (gTup K 2 (gCons (gName i) (gCons (gName j) gNil))) tYes te [i, j] σ H Q := by
  refine ⟨_, ha, _, hb, a, b, xs, ys, rfl, ⟨SqL.of hx, SqT.of hy⟩, fun D hD => ?_⟩
  refine lcR2 (K := K) (walk_zipLT (K := K) (a := a) (b := b) (n := xs.length) (by omega)) hij R mono hs hD (fun H' s => ⟨s.seq (SqL.of hx), sameT s (SqT.of hy)⟩) ?_ (fun zs H' l s h2 r => hd D zs H' l s hD h2 r)
  intro m x y H2 hm ex ey s Q1 k
  exact turn m x y H2 ex ey s Q1 k
end
/-- all but what stands at D stays -/
def ButD (D : Addr) (H H' : Hp) : Prop := ∀ b o, H b = some o → b ≠ D → H' b = some o
theorem ButD.of {D : Addr} {H H' : Hp} (s : Same H H') : ButD D H H' := fun b o h _ => s b o h
section
variable {J : It} {n : Nat} {G : Hp → Prop} {Y : Nat → Hp → V → Hp → Prop} {j : Nat} {te : TE} {σ : L2.St} {H1 : Hp} {D : Addr} {Qd : Hp → Prop}
/-- as lcR; the things may be lists of their own -/
theorem lcRD (w : Walk J n G Y) (R : Nat → V → Hp → Prop) (mono : ∀ i y H H', ButD D H H' → R i y H → R i y H') (hs : n < 1000000) (hD : H1 D = none) (hG : ∀ H', Same H1 H' → G H')
    (turn : ∀ (i : Nat) (x : V) (H2 H3 : Hp), i < n → Same H1 H2 → (∃ acc, H2 D = some (.lst acc)) → Y i H2 x H3 → ∀ Q1 : VK, (∀ y H4, Same H2 H4 → R i y H4 → Q1 y H4) → te ((wipe σ [j]).set j (some x)) H3 Q1)
    (hd : ∀ ys H', ys.length = n → Same H1 H' → H' D = some (.lst ys) → (∀ i y, ys[i]? = some y → R i y H') → Qd H') :
    ∃ W : Nat → Nat → Hp → Prop, (∃ m, W 0 m (upd H1 D (.lst []))) ∧ ∀ i m H, W i m H →
      (J.stop i H ∧ Qd H) ∨ (J.go i H ∧ ∃ Nx : Hp → Prop, (∀ H', Nx H' → ∃ m', m' < m ∧ W (i + 1) m' H') ∧ ∀ x H', J.yld i H x H' → gName j x (wipe σ [j]) H' fun σ2 H2 => wipe σ2 [j] = wipe σ [j] ∧ tYes σ2 H2 fun b H3 =>
        if b = true then te σ2 H3 fun y H4 => ∃ acc, H4 D = some (.lst acc) ∧ acc.length < sizeLine ∧ Nx (upd H4 D (.lst (acc ++ [y]))) else Nx H3) := by
  refine lc_it w (fun i H' => Same H1 H' ∧ ∃ ys, ys.length = i ∧ H' D = some (.lst ys) ∧ ∀ m y, ys[m]? = some y → R m y H') ⟨same_mk hD, [], rfl, upd_same, fun m y h => by cases h⟩ (fun i H' _ q => hG H' q.1) ?_ ?_
  · rintro i x H2 H3 hi ⟨s2, ys, hl, hd2, hr⟩ y
    refine ⟨wipe1 x, turn i x H2 H3 hi s2 ⟨_, hd2⟩ y _ fun v H4 s4 r => ?_⟩
    have hd4 := s4 _ _ hd2
    have up : ButD D H4 (upd H4 D (.lst (ys ++ [v]))) := fun b o h nb => (upd_ne nb).trans h
    refine ⟨_, hd4, Nat.lt_of_lt_of_le (show ys.length < 1000000 by omega) (by decide), same_ch (s2.trans s4) hD, ys ++ [v], by rw [List.length_append, hl]; rfl, upd_same, fun m z hm => ?_⟩
    by_cases e : m < ys.length
    · rw [List.getElem?_append_left e] at hm
      exact mono _ _ _ _ up (mono _ _ _ _ (ButD.of s4) (hr m z hm))
    · rw [List.getElem?_append_right (by omega)] at hm
      have lt := (List.getElem?_eq_some_iff.mp hm).1
      rw [List.length_singleton] at lt
      have eq : m = ys.length := by omega
      subst eq
      rw [Nat.sub_self] at hm
      cases hm
      rw [hl]
      exact mono _ _ _ _ up r
  · rintro H' ⟨s, ys, hl, h, hr⟩
    exact hd ys H' hl s h hr
end
/-- a loop over a name that holds a tuple or a list -/
theorem for_row {K : PySem.W.Frag} {v : V} {xs : List V} {q : Nat} {g : TG} {tb : TS} {D : Ends} {σ : L2.St} {H : Hp} (hq : σ[q]? = some (some v)) (h : RowAt H v xs) (Pv : Nat → L2.St → Hp → Prop) (h0 : Pv 0 σ H) (keep : ∀ i τ H', Pv i τ H' → ∀ a o, v = .ref a → H a = some o → H' a = some o)
    (turn : ∀ i x τ H', i < xs.length → Pv i τ H' → xs[i]? = some x → g x τ H' fun σ2 H2 => tb { D with nx := Pv (i + 1), ct := Pv (i + 1), bk := D.nx } σ2 H2) (done : ∀ τ H', Pv xs.length τ H' → D.nx τ H') :
    tFor (iSeqV K q) g tb D σ H := by
  obtain ⟨a, rfl, h1 | h1⟩ := h
  · refine ⟨a, hq, .inl ⟨_, SqT.of h1, for_it (walk_tup (K := K) (a := a) (xs := xs)) Pv h0 (fun i τ H' _ p => SqT.of (keep i τ H' p _ _ rfl h1)) ?_ done⟩⟩
    rintro i x τ H' _ hi p ⟨rfl, hx⟩
    exact turn i x τ _ hi p hx
  · refine ⟨a, hq, .inr ⟨_, SqL.of h1, for_it (walk_list (K := K) (a := a) (xs := xs)) Pv h0 (fun i τ H' _ p => SqL.of (keep i τ H' p _ _ rfl h1)) ?_ done⟩⟩
    rintro i x τ H' _ hi p ⟨rfl, hx⟩
    exact turn i x τ _ hi p hx
section
variable {α : Type} {J : It} {n : Nat} {G : Hp → Prop} {Y : Nat → Hp → V → Hp → Prop} {tt : TT} {te : TE} {σ : L2.St} {H1 : Hp} {D : Addr} {Qd : Hp → Prop} {j : Nat}
/-- [g z for z in zs if f z] -/
theorem lcFM (w : Walk J n G Y) (zs : List α) (u g : α → V) (f : α → Bool) (hn : zs.length = n) (hs : n < 1000000) (hY : ∀ i H x H', Y i H x H' → H' = H ∧ (zs.map u)[i]? = some x) (hD : H1 D = none) (hG : ∀ H', Same H1 H' → G H')
    (test : ∀ z ∈ zs, ∀ (H2 : Hp), Same H1 H2 → ∀ Q1 : Bool → Hp → Prop, (∀ H3, Same H2 H3 → Q1 (f z) H3) → tt ((wipe σ [j]).set j (some (u z))) H2 Q1)
    (elt : ∀ z ∈ zs, f z = true → ∀ (H2 : Hp), Same H1 H2 → ∀ Q1 : VK, (∀ H3, Same H2 H3 → Q1 (g z) H3) → te ((wipe σ [j]).set j (some (u z))) H2 Q1)
    (hd : ∀ H', Same H1 H' → H' D = some (.lst ((zs.filter f).map g)) → Qd H') :
    ∃ W : Nat → Nat → Hp → Prop, (∃ m, W 0 m (upd H1 D (.lst []))) ∧ ∀ i m H, W i m H →
      (J.stop i H ∧ Qd H) ∨ (J.go i H ∧ ∃ Nx : Hp → Prop, (∀ H', Nx H' → ∃ m', m' < m ∧ W (i + 1) m' H') ∧ ∀ x H', J.yld i H x H' → gName j x (wipe σ [j]) H' fun σ2 H2 => wipe σ2 [j] = wipe σ [j] ∧ tt σ2 H2 fun b H3 =>
        if b = true then te σ2 H3 fun y H4 => ∃ acc, H4 D = some (.lst acc) ∧ acc.length < sizeLine ∧ Nx (upd H4 D (.lst (acc ++ [y]))) else Nx H3) := by
  subst hn
  refine lc_it w (fun i H' => Same H1 H' ∧ H' D = some (.lst (((zs.take i).filter f).map g))) ⟨same_mk hD, upd_same⟩ (fun i H' _ q => hG H' q.1) ?_ ?_
  · rintro i x H2 H3 hi ⟨s2, hd2⟩ y
    obtain ⟨rfl, hx⟩ := hY i H2 x H3 y
    rw [List.getElem?_map, List.getElem?_eq_getElem hi] at hx
    cases hx
    have hm : zs[i] ∈ zs := List.getElem_mem hi
    have tk : zs.take (i + 1) = zs.take i ++ [zs[i]] := by
      rw [List.take_succ, List.getElem?_eq_getElem hi]
      rfl
    refine ⟨wipe1 _, test zs[i] hm _ s2 _ fun H4 s4 => ?_⟩
    cases hf : f zs[i] with
    | true =>
      refine iteT (elt _ hm hf _ (s2.trans s4) _ fun H5 s5 => ⟨_, s5 _ _ (s4 _ _ hd2), ?_, same_ch ((s2.trans s4).trans s5) hD, ?_⟩)
      · rw [List.length_map]
        have h1 := List.length_filter_le f (zs.take i)
        rw [List.length_take] at h1
        exact Nat.lt_of_lt_of_le (show _ < 1000000 by omega) (by decide)
      · rw [upd_same, tk, List.filter_append, List.filter_cons_of_pos hf, List.filter_nil, List.map_append]
        rfl
    | false =>
      refine iteF ⟨s2.trans s4, ?_⟩
      rw [tk, List.filter_append, List.filter_cons_of_neg (by rw [hf]; decide), List.filter_nil, List.append_nil]
      exact s4 _ _ hd2
  · rintro H' ⟨s, h⟩
    rw [List.take_length] at h
    exact hd H' s h
end
end LR

/-! patterns and paths: two walks, one meaning -/
namespace ZM
variable {S : Type} (o m : S) (row names : List S)
/-- the first i parts stand for the first k names -/
def RM : Nat → Nat → Prop
  | 0, k => k = 0
  | i + 1, k => ∃ p, row[i]? = some p ∧ ((p = m ∧ ∃ e, e ≤ k ∧ RM i e) ∨ (p ≠ m ∧ ∃ e n, k = e + 1 ∧ RM i e ∧ names[e]? = some n ∧ (p = o ∨ p = n)))
/-- the places of the walk behind k names -/
def PP (i k : Nat) : Prop := RM o m row names i k ∨ (row[i]? = some m ∧ RM o m row names (i + 1) k)
/-- places, and those behind them that many names' parts lead to -/
def Cl (T : Nat → Prop) (j : Nat) : Prop := ∃ a, T a ∧ a ≤ j ∧ ∀ i, a ≤ i → i < j → row[i]? = some m
def Tk (n : S) (A : Nat → Prop) (j : Nat) : Prop := ∃ a p, A a ∧ row[a]? = some p ∧ (p = n ∨ p = o ∨ p = m) ∧ ((p = m ∧ j = a) ∨ (p ≠ m ∧ j = a + 1))
variable {o m row names}
theorem RM.many {i k e : Nat} (h : row[i]? = some m) (r : RM o m row names i e) (he : e ≤ k) : RM o m row names (i + 1) k := ⟨m, h, .inl ⟨rfl, e, he, r⟩⟩
theorem RM.of_many {i k : Nat} (h : row[i]? = some m) (r : RM o m row names (i + 1) k) : ∃ e, e ≤ k ∧ RM o m row names i e := by
  obtain ⟨p, hp, ⟨_, r⟩ | ⟨n, _⟩⟩ := r
  · exact r
  · rw [h] at hp
    exact absurd (Option.some.inj hp).symm n
theorem RM.le {i k : Nat} (r : RM o m row names i k) : i ≤ row.length := by
  cases i with
  | zero => exact Nat.zero_le _
  | succ i =>
    obtain ⟨p, hp, _⟩ := r
    exact (List.getElem?_eq_some_iff.mp hp).1
theorem PP.le {i k : Nat} (r : PP o m row names i k) : i ≤ row.length := by
  rcases r with r | ⟨h, _⟩
  · exact r.le
  · exact Nat.le_of_lt (List.getElem?_eq_some_iff.mp h).1
theorem PP.grow {i k : Nat} (h : row[i]? = some m) (r : PP o m row names i k) : RM o m row names (i + 1) k := by
  rcases r with r | ⟨_, r⟩
  · exact RM.many h r (Nat.le_refl _)
  · exact r
theorem Cl.succ {T : Nat → Prop} {j : Nat} (c : Cl m row T j) (h : row[j]? = some m) : Cl m row T (j + 1) := by
  obtain ⟨a, t, le, f⟩ := c
  refine ⟨a, t, Nat.le_succ_of_le le, fun i h1 h2 => ?_⟩
  rcases Nat.lt_succ_iff_lt_or_eq.mp h2 with z | z
  · exact f i h1 z
  · rw [z]
    exact h
theorem Cl.of {T : Nat → Prop} {j : Nat} (t : T j) : Cl m row T j := ⟨j, t, Nat.le_refl _, fun i h1 h2 => absurd h2 (Nat.not_lt.mpr h1)⟩
/-- what is closed under the step holds of the closure -/
theorem Cl.ind {T Z : Nat → Prop} {j : Nat} (c : Cl m row T j) (h0 : ∀ a, T a → Z a) (h1 : ∀ i, Z i → row[i]? = some m → Z (i + 1)) : Z j := by
  obtain ⟨a, t, le, f⟩ := c
  obtain ⟨d, rfl⟩ := Nat.exists_eq_add_of_le le
  clear le
  induction d with
  | zero => exact h0 a t
  | succ d ih => exact h1 _ (ih fun i x y => f i x (Nat.lt_succ_of_lt y)) (f _ (Nat.le_add_right _ _) (Nat.lt_succ_self _))
theorem start_iff {j : Nat} : Cl m row (fun a => a = 0) j ↔ PP o m row names j 0 := by
  constructor
  · intro c
    refine c.ind (Z := fun j => PP o m row names j 0) ?_ fun i p h => .inl (p.grow h)
    rintro a rfl
    exact .inl rfl
  · intro p
    have key : ∀ i, RM o m row names i 0 → Cl m row (fun a => a = 0) i := by
      intro i
      induction i with
      | zero => intro _; exact Cl.of rfl
      | succ i ih =>
        rintro ⟨p, hp, ⟨rfl, e, he, r⟩ | ⟨_, e, n, z, _⟩⟩
        · obtain rfl := Nat.le_zero.mp he
          exact (ih r).succ hp
        · cases z
    rcases p with r | ⟨h, r⟩
    · exact key _ r
    · obtain ⟨e, he, r⟩ := RM.of_many h r
      obtain rfl := Nat.le_zero.mp he
      exact key _ r
theorem step_iff {k j : Nat} {n : S} (hn : names[k]? = some n) (hm : n ≠ m) {A : Nat → Prop} (hA : ∀ i, A i ↔ PP o m row names i k) : Cl m row (Tk o m row n A) j ↔ PP o m row names j (k + 1) := by
  constructor
  · intro c
    refine c.ind (Z := fun j => PP o m row names j (k + 1)) ?_ fun i p h => .inl (p.grow h)
    rintro a ⟨b, p, hb, hp, hpn, ⟨rfl, rfl⟩ | ⟨ne, rfl⟩⟩
    · obtain ⟨e, he, r⟩ := RM.of_many hp (((hA _).mp hb).grow hp)
      exact .inr ⟨hp, RM.many hp r (Nat.le_succ_of_le he)⟩
    · rcases (hA _).mp hb with r | ⟨h, _⟩
      · refine .inl ⟨p, hp, .inr ⟨ne, k, n, rfl, r, hn, ?_⟩⟩
        rcases hpn with z | z | z
        · exact .inr z
        · exact .inl z
        · exact absurd z ne
      · rw [h] at hp
        exact absurd (Option.some.inj hp).symm ne
  · intro p
    have stay : ∀ i e, row[i]? = some m → e ≤ k → RM o m row names i e → Cl m row (Tk o m row n A) i := fun i e h he r =>
      Cl.of ⟨i, m, (hA i).mpr (.inr ⟨h, RM.many h r he⟩), h, .inr (.inr rfl), .inl ⟨rfl, rfl⟩⟩
    have key : ∀ i, RM o m row names i (k + 1) → Cl m row (Tk o m row n A) i := by
      intro i
      induction i with
      | zero => intro z; cases z
      | succ i ih =>
        rintro ⟨p, hp, ⟨rfl, e, he, r⟩ | ⟨ne, e, n', z, r, h1, h2⟩⟩
        · rcases Nat.lt_or_eq_of_le he with z | z
          · exact (stay i e hp (Nat.lt_succ_iff.mp z) r).succ hp
          · rw [z] at r
            exact (ih r).succ hp
        · obtain rfl := Nat.succ.inj z
          rw [hn] at h1
          obtain rfl := Option.some.inj h1
          refine Cl.of ⟨i, p, (hA i).mpr (.inl r), hp, ?_, .inr ⟨ne, rfl⟩⟩
          exact h2.elim (fun z => .inr (.inl z)) .inl
    rcases p with r | ⟨h, r⟩
    · exact key _ r
    · obtain ⟨e, he, r⟩ := RM.of_many h r
      rcases Nat.lt_or_eq_of_le he with z | z
      · exact stay _ e h (Nat.lt_succ_iff.mp z) r
      · rw [z] at r
        exact key _ r
theorem end_iff {k : Nat} : PP o m row names row.length k ↔ RM o m row names row.length k := by
  constructor
  · rintro (r | ⟨h, _⟩)
    · exact r
    · rw [List.getElem?_eq_none (Nat.le_refl _)] at h
      cases h
  · exact .inl
/-- the other walk: the ends behind i parts -/
def EE (i k : Nat) : Prop := k ≤ names.length ∧ RM o m row names i k
theorem ee_many {i k : Nat} (h : row[i]? = some m) : EE (o := o) (m := m) (row := row) (names := names) (i + 1) k ↔ ∃ e, EE (o := o) (m := m) (row := row) (names := names) i e ∧ e ≤ k ∧ k < names.length + 1 := by
  constructor
  · rintro ⟨l, r⟩
    obtain ⟨e, he, r⟩ := RM.of_many h r
    exact ⟨e, ⟨Nat.le_trans he l, r⟩, he, Nat.lt_succ_of_le l⟩
  · rintro ⟨e, ⟨_, r⟩, he, l⟩
    exact ⟨Nat.le_of_lt_succ l, RM.many h r he⟩
theorem ee_one {i k : Nat} {p : S} (h : row[i]? = some p) (ne : p ≠ m) : EE (o := o) (m := m) (row := row) (names := names) (i + 1) k ↔ ∃ e n, EE (o := o) (m := m) (row := row) (names := names) i e ∧ names[e]? = some n ∧ (p = o ∨ p = n) ∧ k = e + 1 := by
  constructor
  · rintro ⟨l, p', hp, ⟨z, _⟩ | ⟨_, e, n, rfl, r, hn, q⟩⟩
    · rw [h] at hp
      exact absurd ((Option.some.inj hp).trans z) ne
    · rw [h] at hp
      obtain rfl := Option.some.inj hp
      exact ⟨e, n, ⟨Nat.le_of_succ_le l, r⟩, hn, q, rfl⟩
  · rintro ⟨e, n, ⟨_, r⟩, hn, q, rfl⟩
    exact ⟨(List.getElem?_eq_some_iff.mp hn).1, p, h, .inr ⟨ne, e, n, rfl, r, hn, q⟩⟩
end ZM

set_option maxHeartbeats 3900000
namespace Z
open PySem PySem.Spec PyProof.Rows L2 TL
open C8 (pss_cut tCut pe_gc)
open CB XW
abbrev sQIni : Stmt := inClass (top 2) 0
abbrev sPIni : Stmt := inClass (top 3) 0
abbrev sMatches : Stmt := top 13
abbrev sIsPat : Stmt := top 14
abbrev sIsPart : Stmt := top 15
abbrev sRowsOf : Stmt := top 16
abbrev BPat (K : PySem.W.Frag) (mg : Str → Option Value) (C f : Addr) : Prop := ECl K mg "BadPattern" "thing" C f
abbrev BPath (K : PySem.W.Frag) (mg : Str → Option Value) (C f : Addr) : Prop := ECl K mg "BadPath" "path" C f
/-- the parts of patterns -/
def IsPt (z : Str) : Prop := z = "*" ∨ z = "**" ∨ IsNm z
instance (z : Str) : Decidable (IsPt z) := inferInstanceAs (Decidable (z = "*" ∨ z = "**" ∨ IsNm z))
def Pts (p : List Str) : Prop := ∀ y ∈ p, IsPt y
theorem pt_sh {y : Str} (h : IsPt y) : Sh y := by
  rcases h with rfl | rfl | h
  · unfold Sh; decide +kernel
  · unfold Sh; decide +kernel
  · exact nm_sh h
theorem pt_free {y : Str} (h : IsPt y) : 47 ∉ tl y := by
  rcases h with rfl | rfl | h
  · decide +kernel
  · decide +kernel
  · exact nm_free h
theorem pt_len {y : Str} (h : IsPt y) : y.length ≤ 8 := by
  rcases h with rfl | rfl | h
  · decide +kernel
  · decide +kernel
  · exact h.2.1
theorem split_pts {p : List Str} (hp : Pts p) (h : p ≠ []) : Txt.split (js p) "/" = p :=
  split_join (s := 47) (S := []) tl_sl (by decide +kernel) h fun y hy => pt_free (hp y hy)
theorem js_pts_sh {p : List Str} (h : Pts p) (hl : p.length ≤ 100) : Sh (js p) := by
  have key : ∀ {q : List Str}, Pts q → (jl q).length ≤ 9 * q.length := by
    intro q
    induction q with
    | nil => intro _; exact Nat.zero_le _
    | cons y r ih =>
      intro hq
      have h1 := pt_len (hq y List.mem_cons_self)
      have h2 := ih fun z hz => hq z (List.mem_cons_of_mem _ hz)
      rw [len_tl] at h1
      cases r with
      | nil =>
        show (tl y).length ≤ 9 * 1
        omega
      | cons z r =>
        show (tl y ++ ([47] ++ jl (z :: r))).length ≤ 9 * (r.length + 1 + 1)
        rw [List.length_append, List.length_append]
        have : (jl (z :: r)).length ≤ 9 * (r.length + 1) := h2
        show (tl y).length + (1 + (jl (z :: r)).length) ≤ _
        omega
  unfold Sh
  rw [len_tl, tl_js]
  have := key h
  omega
/-- what a text's parts tell -/
def TxB (C : Str → Prop) [DecidablePred C] (z : Str) (b : Bool) : Prop := ∃ ys, Txt.split z "/" = ys ∧ Sh z ∧ (∀ y ∈ ys, Sh y) ∧ ys.length < 1000000 ∧ (ys.all fun y => decide (C y)) = b
def VB (C : Str → Prop) [DecidablePred C] (H : Hp) (v : V) (b : Bool) : Prop := (∃ z, v = .str z ∧ TxB C z b) ∨ (b = false ∧ NoText H v)
theorem VB.up {C : Str → Prop} [DecidablePred C] {H H' : Hp} {v : V} {b : Bool} (h : VB C H v b) (s : Same H H') : VB C H' v b := h.elim .inl fun h => .inr ⟨h.1, h.2.up s⟩
theorem txb_pat {p : List Str} (hp : Pts p) (h : p ≠ []) (hl : p.length ≤ 100) : TxB IsPt (js p) true :=
  ⟨p, split_pts hp h, js_pts_sh hp hl, fun y hy => pt_sh (hp y hy), by omega, List.all_eq_true.mpr fun y hy => decide_eq_true (hp y hy)⟩
theorem txb_path {p : List Str} (hp : Nms p) (h : p ≠ []) (hl : p.length ≤ 100) : TxB IsNm (js p) true :=
  ⟨p, split_js hp h, js_sh hp hl, fun y hy => nm_sh (hp y hy), by omega, List.all_eq_true.mpr fun y hy => decide_eq_true (hp y hy)⟩
def spVB (C : Str → Prop) [DecidablePred C] : Sp := fun vs H Q _ => ∃ v b, vs = [v] ∧ VB C H v b ∧ ∀ H', Same H H' → Q (.bl b) H'
abbrev spIsPart : Sp := spS1 Sh fun z => .bl (decide (IsPt z))
def spRowsOf (CP : Addr) : Sp := fun vs H Q E => ∃ l x, vs = [.ref l] ∧ H l = some (.lst [x]) ∧
  ((∃ p, x = .str (js p) ∧ Pts p ∧ p ≠ [] ∧ p.length ≤ 100 ∧ ∀ D r H', Same H H' → H' D = some (.lst [.ref r]) → H' r = some (.lst (p.map V.str)) → Q (.ref D) H') ∨ (VB IsPt H x false ∧ EWant H "thing" CP x E))
section
variable {P : Program} {w : World} {K : PySem.W.Frag} {mg : Str → Option Value} {base : Heap} {CP fP CQ fQ : Addr} {fdP fdQ : FuncData}
theorem scPIni : FnScope ["self", "thing"] ["self", "thing"] (defScope sPIni) := ⟨rfl, rfl, rfl, by decide +kernel, rfl, by decide +kernel, by decide +kernel⟩
theorem ok_pini {f : Addr} {fd : FuncData} (F : Fun K "__init__" "BadPattern.__init__" sPIni f fd) (B : BPat K mg CP fP) : FnOk P w K mg base CX0 1 f fd ["self", "thing"] (spEIni "thing" CP) := by
  refine F.ok scPIni (fun vs H Q E h => ?_) (fun cdv A outer s H vs Q E hr h => ?_)
  · obtain ⟨a, x, rfl, _⟩ := h
    rfl
  · obtain ⟨a, x, rfl, ha, k⟩ := h
    exact ⟨_, pss_one (ps_ost (pv 0) (pv 1) rfl), _, rfl, _, rfl, a, CP, rfl, B.ox, B.no, .inl ⟨ha, fun dx hdx hne => k dx hdx hne⟩⟩
theorem scQIni : FnScope ["self", "path"] ["self", "path"] (defScope sQIni) := ⟨rfl, rfl, rfl, by decide +kernel, rfl, by decide +kernel, by decide +kernel⟩
theorem ok_qini {f : Addr} {fd : FuncData} (F : Fun K "__init__" "BadPath.__init__" sQIni f fd) (B : BPath K mg CQ fQ) : FnOk P w K mg base CX0 1 f fd ["self", "path"] (spEIni "path" CQ) := by
  refine F.ok scQIni (fun vs H Q E h => ?_) (fun cdv A outer s H vs Q E hr h => ?_)
  · obtain ⟨a, x, rfl, _⟩ := h
    rfl
  · obtain ⟨a, x, rfl, ha, k⟩ := h
    exact ⟨_, pss_one (ps_ost (pv 0) (pv 1) rfl), _, rfl, _, rfl, a, CQ, rfl, B.ox, B.no, .inl ⟨ha, fun dx hdx hne => k dx hdx hne⟩⟩
theorem scIsPart : FnScope ["text"] ["text"] (defScope sIsPart) := ⟨rfl, rfl, rfl, by decide +kernel, rfl, by decide +kernel, by decide +kernel⟩
theorem ok_isPart {f fN : Addr} {fd fdN : FuncData} (F : Fun K "is_part" "is_part" sIsPart f fd) (mONE : mg "ONE" = some (.str "*" t1)) (mMANY : mg "MANY" = some (.str "**" t2)) (aIsName : At K mg "is_name" fN fdN ["thing"]) (GIsName : FnOk P w K mg base CX0 1 fN fdN ["thing"] spIsName) : FnOk P w K mg base CX0 2 f fd ["text"] spIsPart := by
  refine F.ok scIsPart (fun vs H Q E h => ?_) (fun cdv A outer s H vs Q E hr h => ?_)
  · obtain ⟨z, rfl, _⟩ := h
    rfl
  · obtain ⟨z, rfl, hz, k⟩ := h
    refine ⟨_, pss_one (ps_ret (pe_or (pe_cmpR op_eq (pv 0) (pe_glob (v := .str "*") rfl mONE ⟨_, rfl⟩) (nomark _)) (pe_or (pe_cmpR op_eq (pv 0) (pe_glob (v := .str "**") rfl mMANY ⟨_, rfl⟩) (nomark _)) (pe_one (pe_call GIsName (hr.mono (by decide)) rfl aIsName.m aIsName.k aIsName.b .nil pass0 (pa_cons (pv 0) pa_nil)))))), ?_⟩
    refine ⟨_, rfl, rfl, ?_⟩
    by_cases h1 : z = "*"
    · subst h1
      exact ⟨_, rfl, iteT (k H (Same.refl H))⟩
    · refine ⟨_, rfl, ?_⟩
      rw [decide_eq_false (fun q => h1 (V.str.inj q))]
      refine iteF ⟨_, rfl, rfl, _, rfl, ?_⟩
      by_cases h2 : z = "**"
      · subst h2
        exact iteT (k H (Same.refl H))
      · rw [decide_eq_false (fun q => h2 (V.str.inj q))]
        refine iteF ⟨_, rfl, z, rfl, hz, fun H' s' => ?_⟩
        have e : decide (IsNm z) = decide (IsPt z) := decide_eq_decide.mpr ⟨fun q => .inr (.inr q), fun q => q.resolve_left h1 |>.resolve_left h2⟩
        show Q (.bl (decide (IsNm z))) H'
        rw [e]
        exact k H' s'
theorem scIsPat : FnScope ["thing", "part"] ["thing"] (defScope sIsPat) := ⟨rfl, rfl, rfl, by decide +kernel, rfl, by decide +kernel, by decide +kernel⟩
theorem ok_isPat {f fN : Addr} {fd fdN : FuncData} (F : Fun K "is_pattern" "is_pattern" sIsPat f fd) (T0 : TPk mg) (aIsPart : At K mg "is_part" fN fdN ["text"]) (GIsPart : FnOk P w K mg base CX0 2 fN fdN ["text"] spIsPart) : FnOk P w K mg base CX0 3 f fd ["thing"] (spVB IsPt) := by
  have T := T0.b
  obtain ⟨t1, mSTROKE⟩ := T0.STROKE
  refine F.ok scIsPat (fun vs H Q E h => ?_) (fun cdv A outer s H vs Q E hr h => ?_)
  · obtain ⟨v, b, rfl, _⟩ := h
    rfl
  · obtain ⟨v, b, rfl, hv, k⟩ := h
    refine ⟨_, pss_one (ps_ret (pe_and (pe_callB call_isi (by rfl) T.isinstance (by decide +kernel) (pa_cons (pv 0) (pa_cons (pe_bltn (v := .ty "str") (by rfl) T.str (by decide +kernel) rfl) pa_nil))) (pe_one (pe_callB (cr_all rfl) (by rfl) T.all boot_all (pa_cons (pe_lc (own := [("part", 1)]) (g := gName 1) (tt := tYes) rfl scIsPat.nd (pi_list (pe_bm PySem.F.plainAttrs_str PySem.F.slot_str_split PySem.F.type_str_split mt_split (pv 0) (pa_cons (pe_glob (v := .str "/") rfl mSTROKE ⟨_, rfl⟩) pa_nil))) (blkOk_by (own := [("part", 1)]) (N := ["thing", "part"]) (sc := defScope sIsPat) (by decide +kernel)) (fun _ _ _ _ _ => (pg_name (i := 1) scIsPat.nd rfl (Or.inl rfl))) (fun _ _ _ _ _ => pts_nil) (fun _ _ _ _ _ => (by exact (pe_call GIsPart (hr.mono (by decide)) rfl aIsPart.m aIsPart.k aIsPart.b .nil pass0 (pa_cons (pv 1) pa_nil))))) pa_nil))))), ?_⟩
    rcases hv with ⟨z, rfl, ys, e1, hs, e2, e3, e4⟩ | ⟨rfl, no⟩
    · refine ⟨_, rfl, _, _, .type "str", .type "str", true, rfl, .ty "str", .base (.str _), kit_ty (by decide +kernel), true, rfl, iteT ⟨_, rfl, rfl, z, "/", rfl, rfl, rfl, ?_, fun l hl' => ⟨l, rfl, ⟨_, SqL.of upd_same⟩, fun D hD => ?_⟩⟩⟩
      · unfold Sh at hs
        exact Nat.le_trans (show z.length + 2 ≤ 1002 by omega) (by decide)
      · rw [e1] at hD ⊢
        have s1 : Same H (upd H l (.lst (ys.map V.str))) := same_mk hl'
        refine lc_mapL ys V.str (fun y => .bl (decide (IsPt y))) e3 hD (SqL.of upd_same) ?_ ?_
        · intro y hy H2 s2 Q1 k1
          exact ⟨_, rfl, y, rfl, e2 y hy, k1⟩
        · intro H' s' hD'
          refine all_of _ _ hD' ?_
          rw [e4]
          exact k H' (s1.trans s')
    · obtain ⟨t, ty, kt⟩ := no.ty (K := K)
      exact ⟨_, rfl, _, _, .type t, .type "str", false, rfl, .ty "str", ty, kt, _, rfl, iteF (k H (Same.refl H))⟩
theorem ok_isPathV {f fN : Addr} {fd fdN : FuncData} (F : Fun K "is_path" "is_path" sIsPath f fd) (T0 : TPk mg) (aIsName : At K mg "is_name" fN fdN ["thing"]) (GIsName : FnOk P w K mg base CX0 1 fN fdN ["thing"] spIsName) : FnOk P w K mg base CX0 2 f fd ["thing"] (spVB IsNm) := by
  have T := T0.b
  obtain ⟨t1, mSTROKE⟩ := T0.STROKE
  refine F.ok scIsPath (fun vs H Q E h => ?_) (fun cdv A outer s H vs Q E hr h => ?_)
  · obtain ⟨v, b, rfl, _⟩ := h
    rfl
  · obtain ⟨v, b, rfl, hv, k⟩ := h
    refine ⟨_, pss_one (ps_ret (pe_and (pe_callB call_isi (by rfl) T.isinstance (by decide +kernel) (pa_cons (pv 0) (pa_cons (pe_bltn (v := .ty "str") (by rfl) T.str (by decide +kernel) rfl) pa_nil))) (pe_one (pe_callB (cr_all rfl) (by rfl) T.all boot_all (pa_cons (pe_lc (own := [("part", 1)]) (g := gName 1) (tt := tYes) rfl scIsPath.nd (pi_list (pe_bm PySem.F.plainAttrs_str PySem.F.slot_str_split PySem.F.type_str_split mt_split (pv 0) (pa_cons (pe_glob (v := .str "/") rfl mSTROKE ⟨_, rfl⟩) pa_nil))) (blkOk_by (own := [("part", 1)]) (N := ["thing", "part"]) (sc := defScope sIsPath) (by decide +kernel)) (fun _ _ _ _ _ => (pg_name (i := 1) scIsPath.nd rfl (Or.inl rfl))) (fun _ _ _ _ _ => pts_nil) (fun _ _ _ _ _ => (by exact (pe_call GIsName (hr.mono (by decide)) rfl aIsName.m aIsName.k aIsName.b .nil pass0 (pa_cons (pv 1) pa_nil))))) pa_nil))))), ?_⟩
    rcases hv with ⟨z, rfl, ys, e1, hs, e2, e3, e4⟩ | ⟨rfl, no⟩
    · refine ⟨_, rfl, _, _, .type "str", .type "str", true, rfl, .ty "str", .base (.str _), kit_ty (by decide +kernel), true, rfl, iteT ⟨_, rfl, rfl, z, "/", rfl, rfl, rfl, ?_, fun l hl' => ⟨l, rfl, ⟨_, SqL.of upd_same⟩, fun D hD => ?_⟩⟩⟩
      · unfold Sh at hs
        exact Nat.le_trans (show z.length + 2 ≤ 1002 by omega) (by decide)
      · rw [e1] at hD ⊢
        have s1 : Same H (upd H l (.lst (ys.map V.str))) := same_mk hl'
        refine lc_mapL ys V.str (fun y => .bl (decide (IsNm y))) e3 hD (SqL.of upd_same) ?_ ?_
        · intro y hy H2 s2 Q1 k1
          exact ⟨_, rfl, y, rfl, e2 y hy, k1⟩
        · intro H' s' hD'
          refine all_of _ _ hD' ?_
          rw [e4]
          exact k H' (s1.trans s')
    · obtain ⟨t, ty, kt⟩ := no.ty (K := K)
      exact ⟨_, rfl, _, _, .type t, .type "str", false, rfl, .ty "str", ty, kt, _, rfl, iteF (k H (Same.refl H))⟩
theorem scRowsOf : FnScope ["patterns", "thing"] ["patterns"] (defScope sRowsOf) := ⟨rfl, rfl, rfl, by decide +kernel, rfl, by decide +kernel, by decide +kernel⟩
theorem ok_rowsOf {f fI : Addr} {fd fdI : FuncData} (F : Fun K "rows_of" "rows_of" sRowsOf f fd) (T0 : TPk mg) (aIsPat : At K mg "is_pattern" fI fdI ["thing"]) (GIsPat : FnOk P w K mg base CX0 3 fI fdI ["thing"] (spVB IsPt))
    (BP : BPat K mg CP fP) (bBP : L2.Binds K fdP ["self", "thing"] []) (GBP : FnOk P w K mg base CX0 1 fP fdP ["self", "thing"] (spEIni "thing" CP)) : FnOk P w K mg base (CX P w) 4 f fd ["patterns"] (spRowsOf CP) := by
  have T := T0.b
  obtain ⟨t1, mSTROKE⟩ := T0.STROKE
  refine F.okX scRowsOf (fun vs H Q E h => ?_) (fun cdv A outer s H vs Q E hr h => ?_)
  · obtain ⟨l, x, rfl, _⟩ := h
    rfl
  · obtain ⟨l, x, rfl, hl, k⟩ := h
    refine ⟨_, pss_cons (ps_for (passes_of rfl) rfl (pi_list (pv 0)) (pg_name (i := 1) scRowsOf.nd rfl (Or.inl rfl)) (pss_one (ps_if (pt_not (pt_val (pe_call GIsPat (hr.mono (by decide)) rfl aIsPat.m aIsPat.k aIsPat.b .nil pass0 (pa_cons (pv 1) pa_nil)))) (pss_one (ps_raise rfl (takes_of rfl rfl rfl rfl) (pmk_oex BP.ox BP.iC BP.tI GBP (hr.mono (by decide)) bBP .nil pass0 rfl BP.mg (pa_cons (pv 1) pa_nil)))) (pss_nil))))
            (pss_one (ps_ret (pe_lc (own := [("thing", 1)]) (g := gName 1) (tt := tYes) rfl scRowsOf.nd (pi_list (pv 0)) (blkOk_by (own := [("thing", 1)]) (N := ["patterns", "thing"]) (sc := defScope sRowsOf) (by decide +kernel)) (fun _ _ _ _ _ => (pg_name (i := 1) scRowsOf.nd rfl (Or.inl rfl))) (fun _ _ _ _ _ => pts_nil) (fun _ _ _ _ _ => (by exact (pe_bmK K rfl PySem.F.plainAttrs_str PySem.F.slot_str_split PySem.F.type_str_split mt_split (pv 1) (pa_cons (pe_glob (v := .str "/") rfl mSTROKE ⟨_, rfl⟩) pa_nil))))))), ?_⟩
    refine ⟨_, rfl, l, rfl, ⟨_, SqL.of hl⟩, for_it (walk_list (K := K) (a := l) (xs := [x])) (fun i σ H' => (i ≤ 1 ∧ Same H H' ∧ ∃ x1, σ = [some (.ref l), x1]) ∧ (i = 1 → ∃ p, x = .str (js p) ∧ Pts p ∧ p ≠ [] ∧ p.length ≤ 100 ∧ ∀ D r H', Same H H' → H' D = some (.lst [.ref r]) → H' r = some (.lst (p.map V.str)) → Q (.ref D) H'))
      ⟨⟨Nat.zero_le _, Same.refl H, none, rfl⟩, fun h => by cases h⟩ (fun i σ H' _ q => (q.1.2.1).seq (SqL.of hl)) ?_ ?_⟩
    · rintro i y σ _ H1 hi ⟨⟨_, s1, x1, rfl⟩, _⟩ ⟨rfl, hx⟩
      have i0 : i = 0 := Nat.lt_one_iff.mp hi
      subst i0
      cases hx
      rcases k with ⟨p, rfl, hp, ne, hl2, k⟩ | ⟨bad, want⟩
      · exact ⟨_, rfl, _, true, rfl, .inl ⟨js p, rfl, txb_pat hp ne hl2⟩, fun H2 s2 => ⟨_, rfl, iteF ⟨⟨Nat.le_refl _, s1.trans s2, _, rfl⟩, fun _ => ⟨p, rfl, hp, ne, hl2, k⟩⟩⟩⟩
      · exact ⟨_, rfl, _, false, rfl, bad.up s1, fun H2 s2 => ⟨_, rfl, iteT ⟨_, rfl, by show 1 ≤ 1000; decide, fun b hb => ⟨b, _, rfl, upd_same, fun dx hdx hne => ⟨rfl, eraise_at (s1.trans s2) hb hdx hne want⟩⟩⟩⟩⟩
    · rintro σ H1 ⟨⟨_, s1, x1, rfl⟩, got⟩
      obtain ⟨p, rfl, hp, ne, hl2, k⟩ := got rfl
      refine ⟨_, rfl, l, rfl, ⟨_, s1.seq (SqL.of hl)⟩, fun D hD => ?_⟩
      refine LR.lcRD (walk_list (K := K) (a := l) (xs := [V.str (js p)])) (fun _ y H' => ∃ r, y = .ref r ∧ r ≠ D ∧ H' r = some (.lst (p.map V.str))) ?_ (show (1 : Nat) < 1000000 by decide) hD (fun H' s' => (s1.trans s').seq (SqL.of hl)) ?_ ?_
      · rintro i y Ha Hb kp ⟨r, rfl, nd, hr⟩
        exact ⟨r, rfl, nd, kp _ _ hr nd⟩
      · rintro i y H2 _ hi s2 ⟨acc, hacc⟩ ⟨rfl, hx⟩ Q1 k1
        have i0 : i = 0 := Nat.lt_one_iff.mp hi
        subst i0
        cases hx
        refine ⟨_, rfl, rfl, js p, "/", rfl, rfl, rfl, ?_, fun r hr => ?_⟩
        · have hs := js_pts_sh hp hl2
          unfold Sh at hs
          exact Nat.le_trans (show (js p).length + 2 ≤ 1002 by omega) (by decide)
        · refine k1 _ _ (same_mk hr) ⟨r, rfl, fun e => ?_, ?_⟩
          · rw [e, hacc] at hr
            cases hr
          · rw [split_pts hp ne]
            exact upd_same
      · intro ys H' hy s' hd' all
        match ys, hy with
        | [y], _ =>
          obtain ⟨r, rfl, _, hr⟩ := all 0 y rfl
          exact k D r H' (s1.trans s') hd' hr
end
end Z

set_option maxHeartbeats 3900000
namespace Z
open PySem PySem.Spec PyProof.Rows L2 TL
open C8 (pss_cut tCut pe_gc)
open CB XW ZM
abbrev sSettled : Stmt := top 21
abbrev sPlaces : Stmt := top 20
abbrev iV (n : Nat) : V := .int (n : Int)
/-- a dict whose keys are these numbers -/
def mkD (ks : List Nat) : List (L2.Key × V) := ks.map fun (k : Nat) => ((Sum.inl (k : Int) : L2.Key), V.bl true)
def insN (ks : List Nat) (k : Nat) : List Nat := if k ∈ ks then ks else ks ++ [k]
theorem mkD_put (ks : List Nat) (k : Nat) : putK (mkD ks) (.inl (k : Int)) (.bl true) = mkD (insN ks k) := by
  have an : ((mkD ks).any fun kv => decide (kv.1 = (.inl (k : Int) : L2.Key))) = decide (k ∈ ks) := by
    unfold mkD
    rw [List.any_map, Bool.eq_iff_iff, List.any_eq_true, decide_eq_true_iff]
    constructor
    · rintro ⟨e, he, q⟩
      have := Int.ofNat.inj (Sum.inl.inj (of_decide_eq_true q))
      rw [← this]
      exact he
    · intro h
      exact ⟨k, h, decide_eq_true rfl⟩
  unfold putK insN
  rw [an]
  by_cases h : k ∈ ks
  · rw [if_pos (decide_eq_true h), if_pos h]
    unfold mkD
    rw [List.map_map]
    refine List.map_congr_left fun e he => ?_
    show (if (Sum.inl (e : Int) : L2.Key) = .inl (k : Int) then ((Sum.inl (e : Int) : L2.Key), V.bl true) else (Sum.inl (e : Int), V.bl true)) = (Sum.inl (e : Int), V.bl true)
    split <;> rfl
  · rw [if_neg (fun z => h (of_decide_eq_true z)), if_neg h]
    unfold mkD
    rw [List.map_append]
    rfl
theorem mem_ins {ks : List Nat} {k j : Nat} : j ∈ insN ks k ↔ j ∈ ks ∨ j = k := by
  unfold insN
  split
  · rename_i h
    exact ⟨.inl, fun q => q.elim id fun e => e ▸ h⟩
  · rw [List.mem_append, List.mem_singleton]
theorem nd_ins {ks : List Nat} {k : Nat} (h : ks.Nodup) : (insN ks k).Nodup := by
  unfold insN
  split
  · exact h
  · rename_i n
    rw [List.nodup_append]
    refine ⟨h, by simp, fun a ha b hb => ?_⟩
    rw [List.mem_singleton.mp hb]
    rintro rfl
    exact n ha
theorem len_below {ks : List Nat} {n : Nat} (h : ks.Nodup) (b : ∀ j ∈ ks, j ≤ n) : ks.length ≤ n + 1 := by
  have := pigeon ks (List.range (n + 1)) h fun x hx => List.mem_range.mpr (Nat.lt_succ_of_le (b x hx))
  rw [List.length_range] at this
  exact this
abbrev mn : Str := "**"
/-- from a on, many names' parts up to j -/
def Ch (row : List Str) (a j : Nat) : Prop := a ≤ j ∧ ∀ i, a ≤ i → i < j → row[i]? = some mn
theorem ch_le {row : List Str} {a j : Nat} (h : Ch row a j) (ha : a ≤ row.length) : j ≤ row.length := by
  rcases Nat.lt_or_eq_of_le h.1 with z | z
  · have := (List.getElem?_eq_some_iff.mp (h.2 (j - 1) (by omega) (by omega))).1
    omega
  · omega
theorem ch_stop {row : List Str} {a c : Nat} (h : Ch row a c) (no : row[c]? ≠ some mn) (j : Nat) : Ch row a j ↔ (a ≤ j ∧ j ≤ c) := by
  constructor
  · intro q
    refine ⟨q.1, Nat.not_lt.mp fun lt => no (q.2 c h.1 lt)⟩
  · rintro ⟨h1, h2⟩
    exact ⟨h1, fun i x y => h.2 i x (Nat.lt_of_lt_of_le y h2)⟩
theorem cl_ch {row : List Str} {T : Nat → Prop} {j : Nat} : Cl mn row T j ↔ ∃ a, T a ∧ Ch row a j := Iff.rfl
/-- whole numbers, in a tuple or a list -/
def NumsAt (H : Hp) (v : V) (ps : List Nat) : Prop := RowAt H v (ps.map iV)
def spSettled : Sp := fun vs H Q _ => ∃ r v row ps, vs = [.ref r, v] ∧ H r = some (.lst (row.map V.str)) ∧ NumsAt H v ps ∧ (∀ a ∈ ps, a ≤ row.length) ∧ row.length ≤ 50 ∧ ps.length ≤ 1000 ∧
  ∀ (t : Addr) (H' : Hp) (zs : List Nat), Same H H' → H' t = some (.tup (zs.map iV)) → zs.Nodup → (∀ j, j ∈ zs ↔ Cl mn row (· ∈ ps) j) → Q (.ref t) H'
theorem nat_perm {ys : List Int} {ks : List Nat} (h : ys.Perm (ks.map fun (k : Nat) => (k : Int))) : ∃ zs : List Nat, ys.map V.int = zs.map iV ∧ zs.Perm ks := by
  have e : ∀ y ∈ ys, ((y.toNat : Nat) : Int) = y := fun y hy => by
    obtain ⟨k, _, rfl⟩ := List.mem_map.mp (h.mem_iff.mp hy)
    rfl
  refine ⟨ys.map Int.toNat, ?_, ?_⟩
  · rw [List.map_map]
    refine List.map_congr_left fun y hy => ?_
    show V.int y = V.int ((y.toNat : Nat) : Int)
    rw [e y hy]
  · have := h.map Int.toNat
    rw [List.map_map] at this
    have e2 : (Int.toNat ∘ fun (k : Nat) => (k : Int)) = id := by
      funext k
      rfl
    rw [e2, List.map_id] at this
    exact this
/-- the walk from a on, at c -/
def WI (H : Hp) (r d : Addr) (v : V) (row : List Str) (a : Nat) (ks : List Nat) (c : Nat) (σ : L2.St) (H2 : Hp) : Prop :=
  σ = [some (.ref r), some v, some (.ref d), some (iV a), some (iV c)] ∧ c ≤ row.length ∧ Ch row a c ∧ Same H H2 ∧ ∃ ks2, H2 d = some (.dK (mkD ks2)) ∧ ks2.Nodup ∧ (∀ j ∈ ks2, j ≤ row.length) ∧ ∀ j, j ∈ ks2 ↔ (j ∈ ks ∨ (a ≤ j ∧ j ≤ c))
section
variable {P : Program} {w : World} {K : PySem.W.Frag} {mg : Str → Option Value} {base : Heap} {t1 t2 : Tok}
theorem scSettled : FnScope ["row", "places", "found", "at", "there"] ["row", "places"] (defScope sSettled) := ⟨rfl, rfl, rfl, by decide +kernel, rfl, by decide +kernel, by decide +kernel⟩
theorem ok_settled {f : Addr} {fd : FuncData} (F : Fun K "settled" "settled" sSettled f fd) (T : TB mg) (mMANY : mg "MANY" = some (.str "**" t1)) : FnOk P w K mg base CX0 1 f fd ["row", "places"] spSettled := by
  refine F.ok scSettled (fun vs H Q E h => ?_) (fun cdv A outer s H vs Q E hr h => ?_)
  · obtain ⟨r, v, row, ps, rfl, _⟩ := h
    rfl
  · obtain ⟨r, v, row, ps, rfl, hrow, hv, hps, hl, hpl, k⟩ := h
    have hu := hr.units
    have hu1 := Nat.lt_of_le_of_lt (Nat.add_le_add_left (show 1 ≤ 64 by decide) _) hr.units
    refine ⟨_, pss_cons (ps_set (i := 2) scSettled.nd rfl (Or.inl rfl) pe_dnewK)
            (pss_cons (ps_for PassesOwn.never rfl (pi_seqv (pv 1)) (pg_name (i := 3) scSettled.nd rfl (Or.inl rfl)) (pss_cons (ps_dput hu1 (pv 2) (pv 3) pe_bl rfl)
            (pss_cons (ps_set (i := 4) scSettled.nd rfl (Or.inl rfl) (pv 3))
            (pss_one (ps_while PassesOwn.never (PW.pt (pw_and (pt_cmpR op_lt (pv 4) (pe_callB call_len_seq (by rfl) T.len PySem.boot_len (pa_cons (pv 0) pa_nil)) (nomark _)) (pw_and1 (pt_cmpR op_eq (pe_ix ix_list (pv 0) (pv 4) (fun _ _ => rfl)) (pe_glob (v := .str "**") rfl mMANY ⟨_, rfl⟩) (nomark _))))) (pss_cons (ps_aug (i := 4) scSettled.nd rfl (Or.inl rfl) pe_int ip_add)
            (pss_one (ps_dput hu1 (pv 2) (pv 4) pe_bl rfl))))))))
            (pss_one (ps_ret (pe_callTy call_tuple_of (by rfl) T.tuple (by decide +kernel) (pa_cons (pe_callB (call_sortedDI rfl) (by rfl) T.sorted (by decide +kernel) (pa_cons (pv 2) pa_nil)) pa_nil))))), ?_⟩
    refine fun d hd => ?_
    have s0 := same_mk (o := .dK []) hd
    have few : ∀ {ks : List Nat}, ks.Nodup → (∀ j ∈ ks, j ≤ row.length) → ks.length ≤ 51 := fun a b => by
      have := len_below a b
      omega
    have cap : ∀ {ks : List Nat}, ks.length ≤ 51 → (mkD ks).length < sizeLine := fun q => Nat.lt_of_le_of_lt (show (mkD _).length ≤ 51 by unfold mkD; rw [List.length_map]; exact q) (by decide)
    have up : ∀ {ks : List Nat} {H' : Hp}, Same H H' → Same H (upd H' d (.dK (mkD ks))) := fun s' => same_ch s' hd
    refine LR.for_row (q := 1) rfl (show RowAt _ v (ps.map iV) from RowAt.up hv s0) (fun i σ H' => ∃ x3 x4 ks, σ = [some (.ref r), some v, some (.ref d), x3, x4] ∧ Same H H' ∧ H' d = some (.dK (mkD ks)) ∧ ks.Nodup ∧ (∀ j ∈ ks, j ≤ row.length) ∧ ∀ j, j ∈ ks ↔ ∃ a ∈ ps.take i, Ch row a j)
      ⟨none, none, [], rfl, s0, upd_same, List.nodup_nil, fun j h => (List.not_mem_nil h).elim, fun j => ⟨fun h => (List.not_mem_nil h).elim, fun ⟨a, ha, _⟩ => by simp at ha⟩⟩ ?_ ?_ ?_
    · rintro i τ H' ⟨x3, x4, ks, rfl, s1, _⟩ a o rfl ho
      have na : a ≠ d := fun e => by
        subst e
        obtain ⟨b, eb, h1 | h1⟩ := hv <;> cases eb <;> rw [hd] at h1 <;> cases h1
      rw [upd_ne na] at ho
      exact s1 _ _ ho
    · rintro i x τ H' hi ⟨x3, x4, ks, rfl, s1, hdk, nd, le, mem⟩ hx
      rw [List.getElem?_map] at hx
      obtain ⟨a, ha, rfl⟩ := Option.map_eq_some_iff.mp hx
      have al : a ≤ row.length := hps a (List.mem_of_getElem? ha)
      have tk : ps.take (i + 1) = ps.take i ++ [a] := by
        rw [List.take_succ, ha]
        rfl
      refine ⟨_, rfl, _, rfl, d, _, rfl, DPut.k (k := .inl (a : Int)) hdk (cap (few nd le)), ?_⟩
      rw [mkD_put]
      refine ⟨_, rfl, ?_⟩
      refine ⟨fun m σ H2 => ∃ c, m = row.length - c ∧ WI H r d v row a ks c σ H2, ⟨_, a, rfl, rfl, al, ⟨Nat.le_refl _, fun q h1 h2 => absurd h2 (Nat.not_lt.mpr h1)⟩, up s1, insN ks a, upd_same, nd_ins nd, fun j hj => (mem_ins.mp hj).elim (le j) fun e => e ▸ al, fun j => by rw [mem_ins]; constructor <;> (rintro (h | h); exact .inl h; exact .inr (by omega))⟩, ?_⟩
      rintro m σ H2 ⟨c, rfl, rfl, cl, ch, s2, ks2, hd2, nd2, le2, mem2⟩
      have hrow2 := s2 _ _ hrow
      have sz : (row.map V.str).length = row.length := List.length_map ..
      refine ⟨_, rfl, _, rfl, r, _, rfl, .inl (SqL.of hrow2), _, _, rfl, rfl, ?_⟩
      rw [sz]
      have stop : row[c]? ≠ some mn → ∃ x3 x4 ks, [some (.ref r), some v, some (.ref d), some (iV a), some (iV c)] = [some (.ref r), some v, some (.ref d), x3, x4] ∧ Same H H2 ∧ H2 d = some (.dK (mkD ks)) ∧ ks.Nodup ∧ (∀ j ∈ ks, j ≤ row.length) ∧ ∀ j, j ∈ ks ↔ ∃ a ∈ ps.take (i + 1), Ch row a j := fun no => by
        refine ⟨_, _, ks2, rfl, s2, hd2, nd2, le2, fun j => ?_⟩
        rw [mem2 j, mem j, ← ch_stop ch no j, tk]
        constructor
        · rintro (⟨b, hb, q⟩ | q)
          · exact ⟨b, List.mem_append_left _ hb, q⟩
          · exact ⟨a, List.mem_append_right _ (List.mem_singleton.mpr rfl), q⟩
        · rintro ⟨b, hb, q⟩
          rcases List.mem_append.mp hb with hb | hb
          · exact .inl ⟨b, hb, q⟩
          · rw [List.mem_singleton.mp hb] at q
            exact .inr q
      by_cases lt : c < row.length
      · have hx2 : row[c]? = some row[c] := List.getElem?_eq_getElem lt
        generalize row[c] = y at hx2
        refine ⟨_, rfl, iteY (by omega) ⟨_, rfl, _, rfl, r, _, (c : Int), .str y, rfl, rfl, SqL.of hrow2, atI_nat (by rw [List.getElem?_map, hx2]; rfl), rfl, _, rfl, ?_⟩⟩
        by_cases e : y = mn
        · subst e
          refine iteY rfl ⟨WI H r d v row a ks (c + 1), fun σ' H' q => ⟨_, by omega, c + 1, rfl, q⟩, _, rfl, (c : Int), 1, rfl, rfl, _, rfl, _, rfl, d, _, rfl, DPut.k (k := .inl ((c + 1 : Nat) : Int)) hd2 (cap (few nd2 le2)), ?_⟩
          rw [mkD_put]
          refine ⟨rfl, lt, ⟨Nat.le_succ_of_le ch.1, fun q h1 h2 => ?_⟩, up s2, insN ks2 (c + 1), upd_same, nd_ins nd2, fun j hj => (mem_ins.mp hj).elim (le2 j) fun e => by omega, fun j => ?_⟩
          · rcases Nat.lt_succ_iff_lt_or_eq.mp h2 with z | z
            · exact ch.2 q h1 z
            · rw [z]
              exact hx2
          · have := ch.1
            rw [mem_ins, mem2 j]
            constructor
            · rintro ((h | h) | h)
              · exact .inl h
              · exact .inr (by omega)
              · exact .inr (by omega)
            · rintro (h | h)
              · exact .inl (.inl h)
              · by_cases z : j ≤ c
                · exact .inl (.inr ⟨h.1, z⟩)
                · exact .inr (by omega)
        · exact iteN (fun q => e (V.str.inj q)) (stop (by rw [hx2]; exact fun q => e (Option.some.inj q)))
      · refine ⟨_, rfl, iteN (by omega) ?_⟩
        exact stop (by rw [List.getElem?_eq_none (by omega)]; intro z; cases z)
    · rintro τ H' ⟨x3, x4, ks, rfl, s1, hdk, nd, le, mem⟩
      rw [List.length_map, List.take_length] at mem
      have kl := few nd le
      refine ⟨_, rfl, d, _, ks.map fun (k : Nat) => (k : Int), rfl, Rd.of hdk, ?_, by rw [List.length_map]; omega, fun ys p pm _ hp => ?_⟩
      · unfold mkD
        rw [List.map_map, List.map_map]
        rfl
      · obtain ⟨zs, e, pz⟩ := nat_perm pm
        rw [e]
        have sp := same_mk (o := .lst (zs.map iV)) hp
        refine ⟨p, _, rfl, .inl ⟨SqL.of upd_same, fun t ht => ?_⟩⟩
        refine k t _ zs (s1.trans (sp.trans (same_mk ht))) upd_same (pz.nodup_iff.mpr nd) fun j => ?_
        rw [pz.mem_iff, mem j]
        rfl
end
end Z

set_option maxHeartbeats 3900000
namespace Z
open PySem PySem.Spec PyProof.Rows L2 TL
open C8 (pss_cut tCut pe_gc)
open CB XW ZM
abbrev st1 : Str := "*"
def spPlaces : Sp := fun vs H Q _ => ∃ (r p : Addr) (n : Str) (row : List Str) (ps : List Nat), vs = [.ref r, .ref p, .str n] ∧ H r = some (.lst (row.map V.str)) ∧ H p = some (.tup (ps.map iV)) ∧ (∀ a ∈ ps, a ≤ row.length) ∧ row.length ≤ 50 ∧ ps.length ≤ 1000 ∧
  ∀ (t : Addr) (H' : Hp) (zs : List Nat), Same H H' → H' t = some (.tup (zs.map iV)) → zs.Nodup → (∀ j, j ∈ zs ↔ Cl mn row (Tk st1 mn row n (· ∈ ps)) j) → Q (.ref t) H'
/-- what is taken on -/
def tak (row : List Str) (n : Str) (a : Nat) : Bool := decide (a < row.length) && decide (row.getD a "" = n ∨ row.getD a "" = "*" ∨ row.getD a "" = mn)
def nxt (row : List Str) (a : Nat) : Nat := if row.getD a "" = mn then a else a + 1
theorem getD_at {row : List Str} {a : Nat} (h : a < row.length) : row[a]? = some (row.getD a "") := by
  rw [List.getD_eq_getElem?_getD, List.getElem?_eq_getElem h]
  rfl
theorem tk_iff {row : List Str} {n : Str} {ps : List Nat} {j : Nat} : j ∈ (ps.filter (tak row n)).map (nxt row) ↔ Tk st1 mn row n (· ∈ ps) j := by
  rw [List.mem_map]
  constructor
  · rintro ⟨a, ha, rfl⟩
    obtain ⟨ha, ht⟩ := List.mem_filter.mp ha
    unfold tak at ht
    rw [Bool.and_eq_true, decide_eq_true_iff, decide_eq_true_iff] at ht
    refine ⟨a, _, ha, getD_at ht.1, ht.2, ?_⟩
    unfold nxt
    by_cases e : row.getD a "" = mn
    · rw [if_pos e]
      exact .inl ⟨e, rfl⟩
    · rw [if_neg e]
      exact .inr ⟨e, rfl⟩
  · rintro ⟨a, p, ha, hp, h1, h2⟩
    have lt := (List.getElem?_eq_some_iff.mp hp).1
    have e : row.getD a "" = p := Option.some.inj ((getD_at lt).symm.trans hp)
    refine ⟨a, List.mem_filter.mpr ⟨ha, ?_⟩, ?_⟩
    · unfold tak
      rw [e, decide_eq_true lt, decide_eq_true h1]
      rfl
    · unfold nxt
      rw [e]
      rcases h2 with ⟨h, rfl⟩ | ⟨h, rfl⟩
      · rw [if_pos h]
      · rw [if_neg h]
theorem nxt_le {row : List Str} {n : Str} {a : Nat} (h : tak row n a = true) : nxt row a ≤ row.length := by
  unfold tak at h
  rw [Bool.and_eq_true, decide_eq_true_iff] at h
  unfold nxt
  split <;> omega
section
variable {P : Program} {w : World} {K : PySem.W.Frag} {mg : Str → Option Value} {base : Heap} {t1 t2 : Tok}
theorem scPlaces : FnScope ["row", "places", "name", "taken", "at"] ["row", "places", "name"] (defScope sPlaces) := ⟨rfl, rfl, rfl, by decide +kernel, rfl, by decide +kernel, by decide +kernel⟩
theorem ok_places {f fS : Addr} {fd fdS : FuncData} (F : Fun K "places_behind" "places_behind" sPlaces f fd) (T : TB mg) (mONE : mg "ONE" = some (.str "*" t1)) (mMANY : mg "MANY" = some (.str "**" t2)) (aSettled : At K mg "settled" fS fdS ["row", "places"]) (GSettled : FnOk P w K mg base CX0 1 fS fdS ["row", "places"] spSettled) :
    FnOk P w K mg base CX0 2 f fd ["row", "places", "name"] spPlaces := by
  refine F.ok scPlaces (fun vs H Q E h => ?_) (fun cdv A outer s H vs Q E hr h => ?_)
  · obtain ⟨r, p, n, row, ps, rfl, _⟩ := h
    rfl
  · obtain ⟨r, p, n, row, ps, rfl, hrow, hp, hps, hl, hpl, k⟩ := h
    refine ⟨_, pss_cons (ps_setLc (i := 3) (own := [("at", 4)]) (g := gName 4) (tt := _) rfl scPlaces.nd rfl rfl (sw_true rfl rfl rfl (by decide +kernel)) (pi_tup (pv 1)) (blkOk_by (own := [("at", 4)]) (N := ["row", "places", "name", "taken", "at"]) (sc := defScope sPlaces) (by decide +kernel)) (fun _ _ _ _ _ => (pg_name (i := 4) scPlaces.nd rfl (Or.inl rfl))) (fun _ _ _ _ _ => (by exact pts_one (PW.pt (pw_and (pt_cmpR op_lt (pv 4) (pe_callB (len_seqK (K0 := K) rfl) (by rfl) T.len PySem.boot_len (pa_cons (pv 0) pa_nil)) (nomark _)) (pw_and1 (pt_cmpR (in_seqK (K0 := K) rfl) (pe_ix (ix_listK (K0 := K) rfl) (pv 0) (pv 4) (fun _ _ => rfl)) (pe_tup (pa_cons (pv 2) (pa_cons (pe_glob (v := .str "*") rfl mONE ⟨_, rfl⟩) (pa_cons (pe_glob (v := .str "**") rfl mMANY ⟨_, rfl⟩) pa_nil)))) (by rfl))))))) (fun _ _ _ _ _ => (by exact (pv 4))))
            (pss_one (ps_ret (pe_call GSettled (hr.mono (by decide)) rfl aSettled.m aSettled.k aSettled.b .nil pass0 (pa_cons (pv 0) (pa_cons (pe_lc (own := [("at", 4)]) (g := gName 4) (tt := tYes) rfl scPlaces.nd (pi_list (pv 3)) (blkOk_by (own := [("at", 4)]) (N := ["row", "places", "name", "taken", "at"]) (sc := defScope sPlaces) (by decide +kernel)) (fun _ _ _ _ _ => (pg_name (i := 4) scPlaces.nd rfl (Or.inl rfl))) (fun _ _ _ _ _ => pts_nil) (fun _ _ _ _ _ => (by exact (pe_ifExp (pt_cmpR op_eq (pe_ix (ix_listK (K0 := K) rfl) (pv 0) (pv 4) (fun _ _ => rfl)) (pe_glob (v := .str "**") rfl mMANY ⟨_, rfl⟩) (nomark _)) (pv 4) (pe_op op_add (pv 4) pe_int))))) pa_nil))))), ?_⟩
    have sz : (row.map V.str).length = row.length := List.length_map ..
    refine ⟨_, rfl, p, rfl, ⟨_, SqT.of hp⟩, fun D hD => ?_⟩
    refine LR.lcFM (walk_tup (K := K) (a := p) (xs := ps.map iV)) ps iV iV (tak row n) (List.length_map ..).symm (by rw [List.length_map]; omega) (fun i H x H' y => y) hD (fun H' s' => sameT s' (SqT.of hp)) ?_ ?_ ?_
    · intro a ha H2 s2 Q1 k1
      have hrow2 := s2 _ _ hrow
      refine ⟨_, rfl, _, rfl, r, _, rfl, .inl (SqL.of hrow2), _, _, rfl, rfl, ?_⟩
      rw [sz]
      by_cases lt : a < row.length
      · refine ⟨_, rfl, iteY (by omega) ⟨_, rfl, _, rfl, r, _, (a : Int), .str (row.getD a ""), rfl, rfl, SqL.of hrow2, atI_nat (by rw [List.getElem?_map, getD_at lt]; rfl), _, rfl, by show 3 ≤ sizeLine; decide, fun t ht => ⟨t, _, rfl, .inr (SqT.of upd_same), rfl, rfl, ?_⟩⟩⟩
        have e : (if false = true then !inV (.str (row.getD a "")) [.str n, .str "*", .str "**"] else inV (.str (row.getD a "")) [.str n, .str "*", .str "**"]) = tak row n a := by
          rw [if_neg (by decide), show [V.str n, .str "*", .str "**"] = [n, ("*" : Str), ("**" : Str)].map V.str from rfl, inV_strs]
          unfold tak
          rw [decide_eq_true lt, Bool.true_and]
          refine decide_eq_decide.mpr ?_
          simp only [List.mem_cons, List.not_mem_nil, or_false]
        refine ⟨_, rfl, ?_⟩
        rw [e]
        exact k1 _ (same_mk ht)
      · refine ⟨_, rfl, iteN (by omega) ?_⟩
        have e : tak row n a = false := by
          unfold tak
          rw [decide_eq_false lt]
          rfl
        rw [e] at k1
        exact k1 H2 (Same.refl _)
    · intro a ha _ H2 s2 Q1 k1
      exact ⟨_, rfl, k1 H2 (Same.refl _)⟩
    · intro H2 s2 hd2
      have hrow2 := s2 _ _ hrow
      refine ⟨_, rfl, _, rfl, D, rfl, ⟨_, SqL.of hd2⟩, fun D2 hD2 => ?_⟩
      have fl : (ps.filter (tak row n)).length ≤ ps.length := List.length_filter_le ..
      refine lc_mapL (ps.filter (tak row n)) iV (fun a => iV (nxt row a)) (by omega) hD2 (SqL.of hd2) ?_ ?_
      · intro a ha H3 s3 Q1 k1
        have lt : a < row.length := by
          have h := (List.mem_filter.mp ha).2
          unfold tak at h
          rw [Bool.and_eq_true, decide_eq_true_iff] at h
          exact h.1
        refine ⟨_, rfl, _, rfl, r, _, (a : Int), .str (row.getD a ""), rfl, rfl, SqL.of (s3 _ _ hrow2), atI_nat (by rw [List.getElem?_map, getD_at lt]; rfl), rfl, _, rfl, ?_⟩
        by_cases e : row.getD a "" = mn
        · have e2 : nxt row a = a := if_pos e
          rw [e2] at k1
          exact iteY (by rw [e]) ⟨_, rfl, k1 H3 (Same.refl _)⟩
        · have e2 : nxt row a = a + 1 := if_neg e
          rw [e2] at k1
          exact iteN (fun q => e (V.str.inj q)) ⟨_, rfl, _, _, rfl, rfl, k1 H3 (Same.refl _)⟩
      · intro H3 s3 hd3
        refine ⟨r, .ref D2, row, (ps.filter (tak row n)).map (nxt row), rfl, s3 _ _ hrow2, ⟨D2, rfl, .inr (by rw [hd3, List.map_map]; rfl)⟩, fun a ha => ?_, hl, by rw [List.length_map]; omega, fun t H4 zs s4 ht nd mem => ?_⟩
        · obtain ⟨b, hb, rfl⟩ := List.mem_map.mp ha
          exact nxt_le (List.mem_filter.mp hb).2
        · refine k t H4 zs (s2.trans (s3.trans s4)) ht nd fun j => ?_
          rw [mem j]
          constructor <;> (rintro ⟨a, ta, q⟩; exact ⟨a, by first | exact tk_iff.mp ta | exact tk_iff.mpr ta, q⟩)
end
end Z

set_option maxHeartbeats 3900000
namespace Z
open PySem PySem.Spec PyProof.Rows L2 TL
open C8 (pss_cut tCut pe_gc)
open CB XW ZM
abbrev sMoved : Stmt := top 19
abbrev sBehind : Stmt := top 18
abbrev sThrough : Stmt := top 22
abbrev sSome : Stmt := top 17
/-- rows of parts, a list of lists -/
def RowsAt (H : Hp) (D : Addr) (rws : List (List Str)) : Prop := ∃ xs, H D = some (.lst xs) ∧ xs.length = rws.length ∧ ∀ (i : Nat) (x : V) (row : List Str), xs[i]? = some x → rws[i]? = some row → ∃ r, x = .ref r ∧ H r = some (.lst (row.map V.str))
theorem RowsAt.up {H H' : Hp} {D : Addr} {rws : List (List Str)} (h : RowsAt H D rws) (s : Same H H') : RowsAt H' D rws := by
  obtain ⟨xs, h1, h2, h3⟩ := h
  refine ⟨xs, s _ _ h1, h2, fun i x row a b => ?_⟩
  obtain ⟨r, e, q⟩ := h3 i x row a b
  exact ⟨r, e, s _ _ q⟩
/-- the places of a row behind k names -/
def PlAt (H : Hp) (y : V) (row names : List Str) (k : Nat) : Prop := ∃ (q : Addr) (zs : List Nat), y = .ref q ∧ H q = some (.tup (zs.map iV)) ∧ zs.Nodup ∧ ∀ j, j ∈ zs ↔ PP st1 mn row names j k
theorem PlAt.up {H H' : Hp} {y : V} {row names : List Str} {k : Nat} (h : PlAt H y row names k) (s : TupS H H') : PlAt H' y row names k := by
  obtain ⟨q, zs, e, h1, h2⟩ := h
  exact ⟨q, zs, e, s _ _ h1, h2⟩
def StAt (H : Hp) (S : Addr) (rws : List (List Str)) (names : List Str) (k : Nat) : Prop := ∃ ys, H S = some (.tup ys) ∧ ys.length = rws.length ∧ ∀ (i : Nat) (y : V) (row : List Str), ys[i]? = some y → rws[i]? = some row → PlAt H y row names k
theorem StAt.up {H H' : Hp} {S : Addr} {rws : List (List Str)} {names : List Str} {k : Nat} (h : StAt H S rws names k) (s : TupS H H') : StAt H' S rws names k := by
  obtain ⟨ys, h1, h2, h3⟩ := h
  exact ⟨ys, s _ _ h1, h2, fun i y row a b => (h3 i y row a b).up s⟩
def RwOk (rws : List (List Str)) : Prop := rws.length ≤ 1000 ∧ ∀ row ∈ rws, row.length ≤ 50
def spMoved : Sp := fun vs H Q _ => ∃ (D S : Addr) (n : Str) (rws : List (List Str)) (names : List Str) (k : Nat), vs = [.ref D, .ref S, .str n] ∧ RowsAt H D rws ∧ StAt H S rws names k ∧ names[k]? = some n ∧ n ≠ mn ∧ RwOk rws ∧
  ∀ t H', Same H H' → StAt H' t rws names (k + 1) → Q (.ref t) H'
def spBehind : Sp := fun vs H Q _ => ∃ (D l : Addr) (rws : List (List Str)) (names : List Str), vs = [.ref D, .ref l] ∧ RowsAt H D rws ∧ H l = some (.lst (names.map V.str)) ∧ (∀ n ∈ names, n ≠ mn) ∧ names.length ≤ 1000 ∧ RwOk rws ∧
  ∀ t H', Same H H' → StAt H' t rws names names.length → Q (.ref t) H'
def Thr (rws : List (List Str)) (names : List Str) (b : Bool) : Prop := b = true ↔ ∃ row ∈ rws, RM st1 mn row names row.length names.length
def spThrough : Sp := fun vs H Q _ => ∃ (D S : Addr) (rws : List (List Str)) (names : List Str), vs = [.ref D, .ref S] ∧ RowsAt H D rws ∧ StAt H S rws names names.length ∧ RwOk rws ∧ ∀ b H', Same H H' → Thr rws names b → Q (.bl b) H'
def spSome : Sp := fun vs H Q _ => ∃ (D : Addr) (p : List Str) (rws : List (List Str)), vs = [.ref D, .str (js p)] ∧ RowsAt H D rws ∧ Nms p ∧ p ≠ [] ∧ p.length ≤ 100 ∧ RwOk rws ∧ ∀ b H', Same H H' → Thr rws p b → Q (.bl b) H'
theorem nm_mn {y : Str} (h : IsNm y) : y ≠ mn := by
  rintro rfl
  exact absurd h (by decide +kernel)
theorem inV_nums (k : Nat) : ∀ zs : List Nat, inV (iV k) (zs.map iV) = decide (k ∈ zs)
  | [] => rfl
  | z :: r => by
    have ih := inV_nums k r
    show (eqV (iV z) (iV k) || inV (iV k) (r.map iV)) = decide (k ∈ z :: r)
    rw [ih]
    show ((((z : Nat) : Int) == ((k : Nat) : Int)) || decide (k ∈ r)) = decide (k ∈ z :: r)
    by_cases e : z = k
    · subst e
      simp
    · have e2 : k ≠ z := fun q => e q.symm
      have e3 : (((z : Nat) : Int) == ((k : Nat) : Int)) = false := beq_eq_false_iff_ne.mpr fun q => e (Int.ofNat.inj q)
      simp [e3, e2]
theorem bls_of {ys : List V} (h : ∀ (i : Nat) (y : V), ys[i]? = some y → ∃ b : Bool, y = .bl b) : ∃ bs : List Bool, ys = bs.map V.bl := by
  induction ys with
  | nil => exact ⟨[], rfl⟩
  | cons y r ih =>
    obtain ⟨b, rfl⟩ := h 0 y rfl
    obtain ⟨bs, rfl⟩ := ih fun i z hz => h (i + 1) z (by rw [List.getElem?_cons_succ]; exact hz)
    exact ⟨b :: bs, rfl⟩
section
variable {P : Program} {w : World} {K : PySem.W.Frag} {mg : Str → Option Value} {base : Heap} {t1 t2 : Tok}
theorem scMoved : FnScope ["rows", "state", "name", "row", "places"] ["rows", "state", "name"] (defScope sMoved) := ⟨rfl, rfl, rfl, by decide +kernel, rfl, by decide +kernel, by decide +kernel⟩
theorem ok_moved {f fS : Addr} {fd fdS : FuncData} (F : Fun K "moved" "moved" sMoved f fd) (T : TB mg) (aPlaces : At K mg "places_behind" fS fdS ["row", "places", "name"]) (GPlaces : FnOk P w K mg base CX0 2 fS fdS ["row", "places", "name"] spPlaces) :
    FnOk P w K mg base CX0 3 f fd ["rows", "state", "name"] spMoved := by
  refine F.ok scMoved (fun vs H Q E h => ?_) (fun cdv A outer s H vs Q E hr h => ?_)
  · obtain ⟨D, S, n, rws, names, k, rfl, _⟩ := h
    rfl
  · obtain ⟨D, S, n, rws, names, k, rfl, ⟨xs, hD, lx, hx⟩, ⟨ys, hS, ly, hy⟩, hn, nm, ok, q⟩ := h
    refine ⟨_, pss_one (ps_ret (pe_callTy call_tuple_of (by rfl) T.tuple (by decide +kernel) (pa_cons (pe_lc (own := [("row", 3), ("places", 4)]) (g := gTup K 2 (gCons (gName 3) (gCons (gName 4) gNil))) (tt := tYes) rfl scMoved.nd (ZL.pi_zipLT (by rfl) T.zip (pa_cons (pv 0) (pa_cons (pv 1) pa_nil))) (blkOk_by (own := [("row", 3), ("places", 4)]) (N := ["rows", "state", "name", "row", "places"]) (sc := defScope sMoved) (by decide +kernel)) (fun _ _ _ _ _ => (pg_tupK (K0 := K) rfl rfl (pgs_cons (pg_name (i := 3) scMoved.nd rfl (Or.inl rfl)) (pgs_cons (pg_name (i := 4) scMoved.nd rfl (Or.inl rfl)) pgs_nil)))) (fun _ _ _ _ _ => pts_nil) (fun _ _ _ _ _ => (by exact (pe_call GPlaces (hr.mono (by decide)) rfl aPlaces.m aPlaces.k aPlaces.b .nil pass0 (pa_cons (pv 3) (pa_cons (pv 4) (pa_cons (pv 2) pa_nil))))))) pa_nil))), ?_⟩
    refine ⟨_, rfl, _, rfl, D, S, xs, ys, rfl, ⟨SqL.of hD, SqT.of hS⟩, fun L hL => ?_⟩
    refine LR.lcR2 (K := K) (i := 3) (j := 4) (ZL.walk_zipLT (K := K) (a := D) (b := S) (n := xs.length) (by omega)) (by decide) (fun i v H' => ∀ row, rws[i]? = some row → PlAt H' v row names (k + 1)) (fun i y Ha Hb s1 h row e => (h row e).up s1) (by have := ok.1; omega) hL (fun H' s' => ⟨s'.seq (SqL.of hD), sameT s' (SqT.of hS)⟩) ?_ ?_
    · intro m x y H2 _ ex ey s2 Q1 k1
      have lt := (List.getElem?_eq_some_iff.mp ex).1
      have er : rws[m]? = some (rws[m]'(by omega)) := List.getElem?_eq_getElem (by omega)
      generalize rws[m]'(by omega) = row at er
      obtain ⟨r, rfl, hr2⟩ := hx m x row ex er
      obtain ⟨p, zs, rfl, hp, nd, mem⟩ := hy m y row ey er
      have rl : row.length ≤ 50 := ok.2 row (List.mem_of_getElem? er)
      have zl : ∀ a ∈ zs, a ≤ row.length := fun a ha => ((mem a).mp ha).le
      have zn := len_below nd zl
      refine ⟨_, rfl, _, rfl, _, rfl, r, p, n, row, zs, rfl, s2 _ _ hr2, s2 _ _ hp, zl, rl, by omega, fun t H3 us s3 ht nd3 mem3 => ?_⟩
      refine k1 _ _ s3 fun row2 e2 => ?_
      rw [er] at e2
      obtain rfl := Option.some.inj e2
      exact ⟨t, us, rfl, ht, nd3, fun j => by rw [mem3 j]; exact step_iff hn nm fun i => mem i⟩
    · intro zs H2 zl s2 hL2 all
      refine ⟨L, _, rfl, .inl ⟨SqL.of hL2, fun t ht => ?_⟩⟩
      have s3 := same_mk (o := .tup zs) ht
      exact q t _ (s2.trans s3) ⟨zs, upd_same, by omega, fun i y row a b => (all i y a row b).up (TupS.of s3)⟩
theorem scThrough : FnScope ["rows", "state", "row", "places"] ["rows", "state"] (defScope sThrough) := ⟨rfl, rfl, rfl, by decide +kernel, rfl, by decide +kernel, by decide +kernel⟩
theorem ok_through {f : Addr} {fd : FuncData} (F : Fun K "is_through" "is_through" sThrough f fd) (T : TB mg) : FnOk P w K mg base CX0 1 f fd ["rows", "state"] spThrough := by
  refine F.ok scThrough (fun vs H Q E h => ?_) (fun cdv A outer s H vs Q E hr h => ?_)
  · obtain ⟨D, S, rws, names, rfl, _⟩ := h
    rfl
  · obtain ⟨D, S, rws, names, rfl, ⟨xs, hD, lx, hx⟩, ⟨ys, hS, ly, hy⟩, ok, q⟩ := h
    refine ⟨_, pss_one (ps_ret (pe_callB (cr_any rfl) (by rfl) T.any boot_any (pa_cons (pe_lc (own := [("row", 2), ("places", 3)]) (g := gTup K 2 (gCons (gName 2) (gCons (gName 3) gNil))) (tt := tYes) rfl scThrough.nd (ZL.pi_zipLT (by rfl) T.zip (pa_cons (pv 0) (pa_cons (pv 1) pa_nil))) (blkOk_by (own := [("row", 2), ("places", 3)]) (N := ["rows", "state", "row", "places"]) (sc := defScope sThrough) (by decide +kernel)) (fun _ _ _ _ _ => (pg_tupK (K0 := K) rfl rfl (pgs_cons (pg_name (i := 2) scThrough.nd rfl (Or.inl rfl)) (pgs_cons (pg_name (i := 3) scThrough.nd rfl (Or.inl rfl)) pgs_nil)))) (fun _ _ _ _ _ => pts_nil) (fun _ _ _ _ _ => (by exact (pe_cmpR (in_seqK (K0 := K) rfl) (pe_callB (len_seqK (K0 := K) rfl) (by rfl) T.len PySem.boot_len (pa_cons (pv 2) pa_nil)) (pv 3) (by rfl))))) pa_nil))), ?_⟩
    refine ⟨_, rfl, _, rfl, D, S, xs, ys, rfl, ⟨SqL.of hD, SqT.of hS⟩, fun L hL => ?_⟩
    refine LR.lcR2 (K := K) (i := 2) (j := 3) (ZL.walk_zipLT (K := K) (a := D) (b := S) (n := xs.length) (by omega)) (by decide) (fun i v H' => ∃ b : Bool, v = .bl b ∧ ∀ row, rws[i]? = some row → (b = true ↔ RM st1 mn row names row.length names.length)) (fun i y Ha Hb s1 h => h) (by have := ok.1; omega) hL (fun H' s' => ⟨s'.seq (SqL.of hD), sameT s' (SqT.of hS)⟩) ?_ ?_
    · intro m x y H2 _ ex ey s2 Q1 k1
      have lt := (List.getElem?_eq_some_iff.mp ex).1
      have er : rws[m]? = some (rws[m]'(by omega)) := List.getElem?_eq_getElem (by omega)
      generalize rws[m]'(by omega) = row at er
      obtain ⟨r, rfl, hr2⟩ := hx m x row ex er
      obtain ⟨p, zs, rfl, hp, nd, mem⟩ := hy m y row ey er
      refine ⟨_, rfl, r, _, rfl, .inl (SqL.of (s2 _ _ hr2)), _, rfl, p, _, rfl, .inr (SqT.of (s2 _ _ hp)), rfl, ?_, ?_⟩
      · rw [List.all_eq_true]
        intro v hv
        obtain ⟨z, _, rfl⟩ := List.mem_map.mp hv
        rfl
      · refine k1 _ _ (Same.refl _) ⟨_, rfl, fun row2 e2 => ?_⟩
        rw [er] at e2
        obtain rfl := Option.some.inj e2
        rw [if_neg (by decide), List.length_map, inV_nums, decide_eq_true_iff, mem, end_iff]
    · intro zs H2 zl s2 hL2 all
      obtain ⟨bs, rfl⟩ := bls_of fun i y e => by
        obtain ⟨b, eb, _⟩ := all i y e
        exact ⟨b, eb⟩
      refine ⟨L, bs, rfl, SqL.of hL2, q _ H2 s2 ?_⟩
      rw [List.length_map] at zl
      unfold Thr
      rw [List.any_eq_true]
      constructor
      · rintro ⟨b, hb, e⟩
        obtain ⟨i, lt, ei⟩ := List.getElem_of_mem hb
        have er : rws[i]? = some (rws[i]'(by omega)) := List.getElem?_eq_getElem (by omega)
        obtain ⟨b2, eb, z⟩ := all i (.bl b) (by rw [List.getElem?_map, List.getElem?_eq_getElem lt, ei]; rfl)
        cases eb
        exact ⟨_, List.getElem_mem (by omega), (z _ er).mp e⟩
      · rintro ⟨row, hrow, rm⟩
        obtain ⟨i, lt, ei⟩ := List.getElem_of_mem hrow
        have er : rws[i]? = some row := by rw [List.getElem?_eq_getElem lt, ei]
        have eb : bs[i]? = some (bs[i]'(by omega)) := List.getElem?_eq_getElem (by omega)
        obtain ⟨b2, e2, z⟩ := all i (.bl (bs[i]'(by omega))) (by rw [List.getElem?_map, eb]; rfl)
        have e3 : b2 = bs[i]'(by omega) := (V.bl.inj e2).symm
        exact ⟨bs[i]'(by omega), List.getElem_mem (by omega), e3 ▸ (z row er).mpr rm⟩
theorem scBehind : FnScope ["rows", "names", "state", "name", "row"] ["rows", "names"] (defScope sBehind) := ⟨rfl, rfl, rfl, by decide +kernel, rfl, by decide +kernel, by decide +kernel⟩
theorem ok_behind {f fS fM : Addr} {fd fdS fdM : FuncData} (F : Fun K "state_behind" "state_behind" sBehind f fd) (T : TB mg) (aSettled : At K mg "settled" fS fdS ["row", "places"]) (GSettled : FnOk P w K mg base CX0 1 fS fdS ["row", "places"] spSettled)
    (aMoved : At K mg "moved" fM fdM ["rows", "state", "name"]) (GMoved : FnOk P w K mg base CX0 3 fM fdM ["rows", "state", "name"] spMoved) : FnOk P w K mg base CX0 4 f fd ["rows", "names"] spBehind := by
  refine F.ok scBehind (fun vs H Q E h => ?_) (fun cdv A outer s H vs Q E hr h => ?_)
  · obtain ⟨D, l, rws, names, rfl, _⟩ := h
    rfl
  · obtain ⟨D, l, rws, names, rfl, ⟨xs, hD, lx, hx⟩, hl, nm, nl, ok, q⟩ := h
    refine ⟨_, pss_cons (ps_set (i := 2) scBehind.nd rfl (Or.inl rfl) (pe_callTy call_tuple_of (by rfl) T.tuple (by decide +kernel) (pa_cons (pe_lc (own := [("row", 4)]) (g := gName 4) (tt := tYes) rfl scBehind.nd (pi_list (pv 0)) (blkOk_by (own := [("row", 4)]) (N := ["rows", "names", "state", "name", "row"]) (sc := defScope sBehind) (by decide +kernel)) (fun _ _ _ _ _ => (pg_name (i := 4) scBehind.nd rfl (Or.inl rfl))) (fun _ _ _ _ _ => pts_nil) (fun _ _ _ _ _ => (by exact (pe_call GSettled (hr.mono (by decide)) rfl aSettled.m aSettled.k aSettled.b .nil pass0 (pa_cons (pv 4) (pa_cons (pe_tup (pa_cons pe_int pa_nil)) pa_nil)))))) pa_nil)))
            (pss_cons (ps_for PassesOwn.never rfl (pi_list (pv 1)) (pg_name (i := 3) scBehind.nd rfl (Or.inl rfl)) (pss_one (ps_set (i := 2) scBehind.nd rfl (Or.inl rfl) (pe_call GMoved (hr.mono (by decide)) rfl aMoved.m aMoved.k aMoved.b .nil pass0 (pa_cons (pv 0) (pa_cons (pv 2) (pa_cons (pv 3) pa_nil)))))))
            (pss_one (ps_ret (pv 2)))), ?_⟩
    refine ⟨_, rfl, D, rfl, ⟨_, SqL.of hD⟩, fun L hL => ?_⟩
    refine lcR (walk_list (K := K) (a := D) (xs := xs)) (fun i v H' => ∀ row, rws[i]? = some row → PlAt H' v row names 0) (fun i y Ha Hb s1 h row e => (h row e).up s1) (by have := ok.1; omega) hL (fun H' s' => s'.seq (SqL.of hD)) ?_ ?_
    · rintro m x H2 _ hm s2 ⟨rfl, ex⟩ Q1 k1
      have er : rws[m]? = some (rws[m]'(by omega)) := List.getElem?_eq_getElem (by omega)
      generalize rws[m]'(by omega) = row at er
      obtain ⟨r, rfl, hr2⟩ := hx m x row ex er
      have rl : row.length ≤ 50 := ok.2 row (List.mem_of_getElem? er)
      refine ⟨_, rfl, by show 1 ≤ sizeLine; decide, fun t ht => ?_⟩
      have s3 := same_mk (o := .tup [V.int 0]) ht
      refine ⟨r, .ref t, row, [0], rfl, s3 _ _ (s2 _ _ hr2), ⟨t, rfl, .inl upd_same⟩, fun a ha => by rw [List.mem_singleton.mp ha]; exact Nat.zero_le _, rl, by decide, fun p H3 zs s4 hp nd mem => ?_⟩
      refine k1 _ _ (s3.trans s4) fun row2 e2 => ?_
      rw [er] at e2
      obtain rfl := Option.some.inj e2
      refine ⟨p, zs, rfl, hp, nd, fun j => ?_⟩
      rw [mem j, ← ZM.start_iff]
      constructor <;> (rintro ⟨a, ta, z⟩; exact ⟨a, by first | exact List.mem_singleton.mp ta | exact List.mem_singleton.mpr ta, z⟩)
    · intro zs H2 zl s2 hL2 all
      refine ⟨L, _, rfl, .inl ⟨SqL.of hL2, fun t ht => ?_⟩⟩
      have s3 := same_mk (o := .tup zs) ht
      have s23 := s2.trans s3
      refine ⟨_, rfl, l, rfl, ⟨_, SqL.of (s23 _ _ hl)⟩, for_it (walk_list (K := K) (a := l) (xs := names.map V.str)) (fun i σ H' => ∃ S x3 x4, σ = [some (.ref D), some (.ref l), some (.ref S), x3, x4] ∧ Same H H' ∧ StAt H' S rws names i)
        ⟨t, none, none, rfl, s23, zs, upd_same, by omega, fun i y row a b => (all i y a row b).up (TupS.of s3)⟩ (fun i σ H' _ p => by obtain ⟨_, _, _, _, sm, _⟩ := p; exact sm.seq (SqL.of hl)) ?_ ?_⟩
      · rintro i x σ _ H3 hi ⟨S, x3, x4, rfl, sm, st⟩ ⟨rfl, ex⟩
        rw [List.getElem?_map] at ex
        obtain ⟨n, en, rfl⟩ := Option.map_eq_some_iff.mp ex
        exact ⟨_, rfl, _, rfl, _, rfl, D, S, n, rws, names, i, rfl, RowsAt.up ⟨xs, hD, lx, hx⟩ sm, st, en, nm n (List.mem_of_getElem? en), ok, fun t4 H4 s4 st4 => ⟨t4, _, _, rfl, sm.trans s4, st4⟩⟩
      · rintro σ H3 ⟨S, x3, x4, rfl, sm, st⟩
        rw [List.length_map] at st
        exact ⟨_, rfl, q S H3 sm st⟩
theorem scSome : FnScope ["rows", "path"] ["rows", "path"] (defScope sSome) := ⟨rfl, rfl, rfl, by decide +kernel, rfl, by decide +kernel, by decide +kernel⟩
theorem ok_some {f fB fT : Addr} {fd fdB fdT : FuncData} (F : Fun K "some_matches" "some_matches" sSome f fd) (T0 : TPk mg) (aBehind : At K mg "state_behind" fB fdB ["rows", "names"]) (GBehind : FnOk P w K mg base CX0 4 fB fdB ["rows", "names"] spBehind)
    (aThrough : At K mg "is_through" fT fdT ["rows", "state"]) (GThrough : FnOk P w K mg base CX0 1 fT fdT ["rows", "state"] spThrough) : FnOk P w K mg base CX0 5 f fd ["rows", "path"] spSome := by
  obtain ⟨t1, mSTROKE⟩ := T0.STROKE
  refine F.ok scSome (fun vs H Q E h => ?_) (fun cdv A outer s H vs Q E hr h => ?_)
  · obtain ⟨D, p, rws, rfl, _⟩ := h
    rfl
  · obtain ⟨D, p, rws, rfl, rw_, hp, ne, pl, ok, q⟩ := h
    refine ⟨_, pss_one (ps_ret (pe_call GThrough (hr.mono (by decide)) rfl aThrough.m aThrough.k aThrough.b .nil pass0 (pa_cons (pv 0) (pa_cons (pe_call GBehind (hr.mono (by decide)) rfl aBehind.m aBehind.k aBehind.b .nil pass0 (pa_cons (pv 0) (pa_cons (pe_bm PySem.F.plainAttrs_str PySem.F.slot_str_split PySem.F.type_str_split mt_split (pv 1) (pa_cons (pe_glob (v := .str "/") rfl mSTROKE ⟨_, rfl⟩) pa_nil)) pa_nil))) pa_nil)))), ?_⟩
    have hs := js_sh hp pl
    unfold Sh at hs
    refine ⟨_, rfl, _, rfl, _, rfl, rfl, js p, "/", rfl, rfl, rfl, Nat.le_trans (show (js p).length + 2 ≤ 1002 by omega) (by decide), fun l hl => ?_⟩
    rw [split_js hp ne]
    have s1 := same_mk (o := .lst (p.map V.str)) hl
    refine ⟨D, l, rws, p, rfl, rw_.up s1, upd_same, fun n hn => nm_mn (hp n hn), by omega, ok, fun S H2 s2 st => ?_⟩
    exact ⟨D, S, rws, p, rfl, (rw_.up s1).up s2, st, ok, fun b H3 s3 th => q b H3 ((s1.trans s2).trans s3) th⟩
end
end Z

set_option maxHeartbeats 3900000
/-! set(ns), ns a list of whole numbers -/
namespace SN
open PySem PySem.Spec PyProof.Rows L2
section
variable {P : Program} {w : World} {A : Around} {E : Value → Shared → Prop} {s : Shared}
set_option maxHeartbeats 3900000 in
theorem call_ints {l : Addr} {items : Array Value} (ns : List Int) {Q : Value → Shared → Prop} (hh : A.handled = none) (hl : s.heap.IsList l items) (hit : IntsAre items.toList ns)
    (hfew : ns.length + 1 < scanBound)
    (h : ∀ (h' : Heap) (tk m : Nat), SetR w h' s.heap.objs.size (fun j => decide (j ∈ ns)) m → m ≤ ns.length → (∀ b o, s.heap.get? b = some o → h'.get? b = some o) → Q (.ref s.heap.objs.size) { s with heap := h', toks := tk }) :
    wpAny (model P w) A (call (.type "set") [.ref l]) Q E s := by
  have hisz : items.size = ns.length := by
    have q := IntsAre.length hit
    rw [Array.length_toList] at q
    exact q
  obtain ⟨c, tl, hmro⟩ := F.called_set.mro
  have hmade := F.called_set.made
  have hsub := F.called_set.sub
  refine wpAny_call (codeAny_of_tree ?_)
  show wpAny _ _ (callAny (.type "set") _) _ _ _
  refine wpAny_pure ⟨Code.quiet_builtin _ (by decide +kernel), codeAny_builtin F.entry_type_call ?_⟩
  rw [Around.under_plain (weight_type_call_type "set" [.ref l] []) rfl]
  have h1 := F.called_set.notType
  have h2 := F.called_set.canCreate
  have hct := F.typeCall_set_1 (.ref l)
  repeat (any_goals (first | assumption | wp_step))
  refine codeAny_mono (code_set_led1 (.ref l) (E := E) (Q₁ := fun obj s₁ => obj = .ref s.heap.objs.size ∧ s₁ = { s with heap := s.heap.push { cls := .type "set", dict := none, data := .set #[] 0 (.fresh 0 0 (!w.params.followText "set-order")) } }) ⟨rfl, rfl⟩) fun r s₁ hr => ?_
  cases r with
  | error e => exact hr
  | ok fl =>
    cases fl with
    | ret obj =>
      obtain ⟨rfl, rfl⟩ := hr
      have hS : (s.heap.push { cls := .type "set", dict := none, data := .set #[] 0 (.fresh 0 0 (!w.params.followText "set-order")) }).get? s.heap.objs.size = some { cls := .type "set", dict := none, data := .set #[] 0 (.fresh 0 0 (!w.params.followText "set-order")) } := Heap.get?_push_size _ rfl
      have hT : Shared.TypeIs { s with heap := s.heap.push { cls := .type "set", dict := none, data := .set #[] 0 (.fresh 0 0 (!w.params.followText "set-order")) } } (.ref s.heap.objs.size) "set" := ⟨_, hS, rfl⟩
      have hli := F.called_set.init.lookup
      have hbi := F.called_set.init.bind (.ref s.heap.objs.size)
      repeat (any_goals (first | assumption | wp_step))
      refine codeAny_mono (codeAny_call_builtin (R := wants (fun r s₂ => r = .none ∧ ∃ h' tk m, s₂ = { s with heap := h', toks := tk } ∧ SetR w h' s.heap.objs.size (fun j => decide (j ∈ ns)) m ∧ m ≤ ns.length ∧
          (∀ b o, s.heap.get? b = some o → h'.get? b = some o)) E) F.called_set.init.plain F.entry_set_init (check_set_init_1 hT ?_)) fun r₂ s₂ hr₂ => ?_
      · obtain ⟨ol, hol, hcl, nl, hdl⟩ := hl
        obtain ⟨ocls, odict, odata, oslots⟩ := ol
        simp only at hcl hdl
        subst hcl; subst hdl
        have hol' : (s.heap.push { cls := .type "set", dict := none, data := .set #[] 0 (.fresh 0 0 (!w.params.followText "set-order")) }).get? l = some { cls := .type "list", dict := odict, data := .seq items nl, slots := oslots } := Heap.get?_push_of_some _ hol
        have hsls := F.sub_list_set
        have hslf := F.sub_list_frozenset
        have hne : (Value.type "list" == Value.type "dict") = false := by decide
        have hl1 : (s.heap.push { cls := .type "set", dict := none, data := .set #[] 0 (.fresh 0 0 (!w.params.followText "set-order")) }).IsList l items := ⟨_, hol', rfl, nl, rfl⟩
        unfold Builtin.«set.__init__» noKeywords Builtin.Frozenset.updateFrom
        generalize hPI : pyIter = PI
        wp_walk
        subst hPI
        refine wpAny_pyIter_list hl1 ?_
        refine wpAny_bind (wpAny_runValue ?_)
        have hlS : l < s.heap.objs.size := Heap.lt_size hol
        have hh3 : A.in1.in1.in1.handled = none := by simp [hh]
        have hneI : l ≠ (s.heap.push { cls := .type "set", dict := none, data := .set #[] 0 (.fresh 0 0 (!w.params.followText "set-order")) }).objs.size := by
          rw [Heap.size_push]; exact Nat.ne_of_lt (Nat.lt_succ_of_lt hlS)
        have hSf : s.heap.objs.size ∉ [(s.heap.push { cls := .type "set", dict := none, data := .set #[] 0 (.fresh 0 0 (!w.params.followText "set-order")) }).objs.size, l] := by
          rw [Heap.size_push]; simp only [List.mem_cons, List.mem_singleton, List.not_mem_nil, or_false, not_or]
          exact ⟨Nat.ne_of_lt (Nat.lt_succ_self _), Nat.ne_of_gt hlS⟩
        have hval : ∀ (i : Nat) (v : Value), items[i]? = some v → ∃ k t, ns[i]? = some k ∧ v = .int k t := fun i v hv => by
          have hi : i < ns.length := hisz ▸ (Array.getElem?_eq_some_iff.mp hv).1
          have eg : ns[i]? = some ns[i] := List.getElem?_eq_getElem hi
          obtain ⟨t, e⟩ := PyProof.Rows.IntsAre.int_at hit i v (by rw [Array.getElem?_toList]; exact hv)
          rw [List.getD_eq_getElem?_getD, eg] at e
          exact ⟨_, t, eg, e⟩
        refine set_update_ints ((Walks.list hh3 _ l hneI items).toS) s.heap.objs.size hSf ns hisz hfew hval (items.size - 0) 0 _ (by omega) (Nat.zero_le _)
          ⟨⟨_, Heap.get?_push_size _ rfl, rfl, rfl⟩, (hl1.push _)⟩ ?hS0 ?hR
        case hS0 =>
          exact ⟨0, Nat.le_refl _, setR_new_at (Heap.get?_push_of_some _ hS)⟩
        case hR =>
          intro s' m hm g1 hS'
          obtain ⟨h', gg, d', tk', os'⟩ := s'
          have eg : gg = s.gens := hm.gens
          have ed : d' = s.drawn := hm.drawn
          have eo : os' = s.os := hm.os
          subst eg; subst ed; subst eo
          show wpAny _ _ _ _ _ _
          refine wpAny_pure ?_
          show wpAny _ _ (ret Value.none) _ _ _
          refine wpAny_pure ⟨rfl, h', tk', m, rfl, hS', by omega, fun b o e => ?_⟩
          have lt : b < s.heap.objs.size := Heap.lt_size e
          refine hm.heap b o (fun z => ?_) (Heap.get?_push_of_some _ (Heap.get?_push_of_some _ e))
          rcases List.mem_cons.mp z with z | z
          · exact Nat.ne_of_lt lt z
          · rw [List.mem_singleton.mp z, Heap.size_push] at lt
            exact Nat.lt_irrefl _ (Nat.lt_of_succ_lt lt)
      · cases r₂ with
        | error e => exact hr₂
        | ok fl₂ =>
          cases fl₂ with
          | ret r =>
            obtain ⟨rfl, h', tk, m, rfl, hS', g1, hk'⟩ := hr₂
            repeat (any_goals (first | assumption | wp_step))
            exact h _ _ _ hS' g1 hk'
          | _ => exact hr₂.elim
    | _ => exact hr.elim
end
/-- set(ns) -/
def rSetIn (K : PySem.W.Frag) (w : World) : List V → Hp → VK → Prop := fun vs H Q => ∃ (l : Addr) (ns : List Int), vs = [V.ref l] ∧ SqL K H l (ns.map V.int) ∧ ns.length < 1000 ∧
  ∀ (p : Addr) (n : Nat), H p = none → n ≤ ns.length → Q (.ref p) (upd H p (SetO w p (fun j => decide (j ∈ ns)) n))
theorem cr_setIn {X : Cx} (hc : X.calm = true) : CallR X (.type "set") (rSetIn X.K X.w) := by
  intro pins s σ H vs us Q I r h
  obtain ⟨l, ns, rfl, hl, hf, q⟩ := h
  rw [Vals.ref1 r]
  obtain ⟨its, rv, pl, hz⟩ := I.list hl
  have hn : H s.heap.objs.size = none := I.hok.fresh (Nat.le_refl _)
  refine call_ints (P := X.prog) (w := X.w) ns (I.ok.hd hc) pl.isList (by simpa using ints_of_vals rv) (Nat.lt_of_lt_of_le (show ns.length + 1 < 1001 by omega) (by decide)) fun h' tk m R g1 k => ?_
  exact ⟨.ref s.heap.objs.size, upd H s.heap.objs.size (SetO X.w s.heap.objs.size (fun j => decide (j ∈ ns)) m), I.laid (t' := tk) k (Nat.le_refl _) (setO_new R), rfl, q _ m hn g1⟩
end SN

set_option maxHeartbeats 3900000
namespace Z
open PySem PySem.Spec PyProof.Rows L2 TL
open C8 (pss_cut tCut pe_gc)
open CB XW ZM
abbrev sPattern : Stmt := top 30
abbrev sLMat : Stmt := top 32
/-- the pattern stands for the path -/
def Mt (row p : List Str) (b : Bool) : Prop := b = true ↔ RM st1 mn row p row.length p.length
def GoodP (row : List Str) : Prop := Pts row ∧ row ≠ [] ∧ row.length ≤ 50
def GoodN (p : List Str) : Prop := Nms p ∧ p ≠ [] ∧ p.length ≤ 6
theorem Mt.det {row p : List Str} {b c : Bool} (h : Mt row p b) (h2 : Mt row p c) : b = c := by
  have e : b = true ↔ c = true := Iff.trans h (Iff.symm h2)
  cases b <;> cases c
  · rfl
  · exact absurd (e.mpr rfl) (by decide)
  · exact absurd (e.mp rfl) (by decide)
  · rfl
def spMatches (CP CQ : Addr) : Sp := fun vs H Q E => ∃ x y, vs = [x, y] ∧ ((VB IsPt H x false ∧ EWant H "thing" CP x E) ∨
  ∃ row, x = .str (js row) ∧ GoodP row ∧ ((VB IsNm H y false ∧ EWant H "path" CQ y E) ∨ ∃ p, y = .str (js p) ∧ GoodN p ∧ ∀ b H', Same H H' → Mt row p b → Q (.bl b) H'))
def spLMat : Sp := fun vs H Q _ => ∃ row p, vs = [.str (js row), .str (js p)] ∧ GoodP row ∧ GoodN p ∧ ∀ b H', Same H H' → Mt row p b → Q (.bl b) H'
def spPattern : Sp := fun vs H Q _ => ∃ (st l p : Addr) (c : Nat) (zs : List Str) (most : Int), vs = [.ref st, .ref p, .int most] ∧ Strm H st l c ∧ c ≤ 900000 ∧ Pool H st l p zs ∧ zs.length < 900 ∧ (∀ z ∈ zs, IsNm z) ∧ 0 < most ∧ most ≤ 50 ∧
  ∀ (row : List Str) (H' : Hp) (c' : Nat), GoodP row → (row.length : Int) ≤ most → But st l H H' → Strm H' st l c' → c' ≤ c + 1 + most.toNat → Q (.str (js row)) H'
/-- one end leads to another -/
def Stp (names : List Str) (part : Str) (e k : Nat) : Prop := (part = mn ∧ e ≤ k ∧ k < names.length + 1) ∨ (part ≠ mn ∧ ∃ n, names[e]? = some n ∧ (part = st1 ∨ part = n) ∧ k = e + 1)
theorem ee_step {row names : List Str} {i k : Nat} {part : Str} (h : row[i]? = some part) : EE (o := st1) (m := mn) (row := row) (names := names) (i + 1) k ↔ ∃ e, EE (o := st1) (m := mn) (row := row) (names := names) i e ∧ Stp names part e k := by
  by_cases z : part = mn
  · subst z
    rw [ee_many h]
    constructor
    · rintro ⟨e, he, q⟩
      exact ⟨e, he, .inl ⟨rfl, q⟩⟩
    · rintro ⟨e, he, ⟨_, q⟩ | ⟨no, _⟩⟩
      · exact ⟨e, he, q⟩
      · exact absurd rfl no
  · rw [ee_one h z]
    constructor
    · rintro ⟨e, n, he, q⟩
      exact ⟨e, he, .inr ⟨z, n, q⟩⟩
    · rintro ⟨e, he, ⟨y, _⟩ | ⟨_, n, q⟩⟩
      · exact absurd y z
      · exact ⟨e, n, he, q⟩
theorem rg_nums (a b : Nat) : rgV (a : Int) (b : Int) = ((List.range (b - a)).map fun i => a + i).map iV := by
  unfold rgV
  rw [List.map_map, show ((b : Int) - (a : Int)).toNat = b - a by omega]
  rfl
theorem mem_rg {a b k : Nat} : k ∈ ((List.range (b - a)).map fun i => a + i) ↔ (a ≤ k ∧ k < b) := by
  rw [List.mem_map]
  constructor
  · rintro ⟨i, hi, rfl⟩
    have := List.mem_range.mp hi
    omega
  · rintro ⟨h1, h2⟩
    exact ⟨k - a, List.mem_range.mpr (by omega), by omega⟩
theorem nat_of {ns : List Int} {ls : List Nat} (nd : ns.Nodup) (h : ∀ k : Int, k ∈ ns ↔ k ∈ ls.map fun (k : Nat) => (k : Int)) : ∃ zs : List Nat, ns.map V.int = zs.map iV ∧ zs.Nodup ∧ ∀ k, k ∈ zs ↔ k ∈ ls := by
  have e : ∀ y ∈ ns, ((y.toNat : Nat) : Int) = y := fun y hy => by
    obtain ⟨k, _, rfl⟩ := List.mem_map.mp ((h y).mp hy)
    rfl
  refine ⟨ns.map Int.toNat, ?_, ?_, fun k => ?_⟩
  · rw [List.map_map]
    refine List.map_congr_left fun y hy => ?_
    show V.int y = V.int ((y.toNat : Nat) : Int)
    rw [e y hy]
  · unfold List.Nodup
    rw [List.pairwise_map]
    refine List.Pairwise.imp_of_mem (fun {a b} ha hb ne q => ne ?_) nd
    rw [← e a ha, ← e b hb, q]
  · rw [List.mem_map]
    constructor
    · rintro ⟨y, hy, rfl⟩
      obtain ⟨j, hj, rfl⟩ := List.mem_map.mp ((h y).mp hy)
      exact hj
    · intro hk
      exact ⟨(k : Int), (h _).mpr (List.mem_map_of_mem hk), rfl⟩
theorem dist_of {ns : List Int} (h : ns.Pairwise (· < ·)) : ns.Nodup := h.imp fun a e => by omega
section
variable {P : Program} {w : World} {K : PySem.W.Frag} {mg : Str → Option Value} {base : Heap} {t1 t2 : Tok} {CP CQ fP fQ fD fPi : Addr} {fdP fdQ fdD fdPi : FuncData}
theorem scMatches : FnScope ["pattern", "path", "rows"] ["pattern", "path"] (defScope sMatches) := ⟨rfl, rfl, rfl, by decide +kernel, rfl, by decide +kernel, by decide +kernel⟩
theorem ok_matches {f fR fI fS : Addr} {fd fdR fdI fdS : FuncData} (F : Fun K "matches" "matches" sMatches f fd) (aRowsOf : At K mg "rows_of" fR fdR ["patterns"]) (GRowsOf : FnOk P w K mg base (CX P w) 4 fR fdR ["patterns"] (spRowsOf CP))
    (aIsPath : At K mg "is_path" fI fdI ["thing"]) (GIsPath : FnOk P w K mg base CX0 2 fI fdI ["thing"] (spVB IsNm)) (aSome : At K mg "some_matches" fS fdS ["rows", "path"]) (GSome : FnOk P w K mg base CX0 5 fS fdS ["rows", "path"] spSome)
    (BQ : BPath K mg CQ fQ) (bBQ : L2.Binds K fdQ ["self", "path"] []) (GBQ : FnOk P w K mg base CX0 1 fQ fdQ ["self", "path"] (spEIni "path" CQ)) : FnOk P w K mg base (CX P w) 6 f fd ["pattern", "path"] (spMatches CP CQ) := by
  refine F.okX scMatches (fun vs H Q E h => ?_) (fun cdv A outer s H vs Q E hr h => ?_)
  · obtain ⟨x, y, rfl, _⟩ := h
    rfl
  · obtain ⟨x, y, rfl, k⟩ := h
    refine ⟨_, pss_cons (ps_set (i := 2) scMatches.nd rfl (Or.inl rfl) (pe_call GRowsOf (hr.mono (by decide)) rfl aRowsOf.m aRowsOf.k aRowsOf.b .nil (passes_call (takes_of rfl rfl rfl rfl) (fun _ _ _ _ h => h)) (pa_cons (pe_lst (pa_cons (pv 0) pa_nil)) pa_nil)))
            (pss_cons (ps_if (pt_not (pt_val (pe_call GIsPath (hr.mono (by decide)) rfl aIsPath.m aIsPath.k aIsPath.b .nil pass0 (pa_cons (pv 1) pa_nil)))) (pss_one (ps_raise rfl (takes_of rfl rfl rfl rfl) (pmk_oex BQ.ox BQ.iC BQ.tI GBQ (hr.mono (by decide)) bBQ .nil pass0 rfl BQ.mg (pa_cons (pv 1) pa_nil)))) (pss_nil))
            (pss_one (ps_ret (pe_call GSome (hr.mono (by decide)) rfl aSome.m aSome.k aSome.b .nil pass0 (pa_cons (pv 2) (pa_cons (pv 1) pa_nil)))))), ?_⟩
    refine ⟨_, rfl, by show 1 ≤ sizeLine; decide, fun a ha => ?_⟩
    have s1 := same_mk (o := .lst [x]) ha
    rcases k with ⟨bad, want⟩ | ⟨row, rfl, ⟨hp, ne, rl⟩, k⟩
    · exact ⟨a, x, rfl, upd_same, .inr ⟨bad.up s1, want.up s1⟩⟩
    · refine ⟨a, _, rfl, upd_same, .inl ⟨row, rfl, hp, ne, by omega, fun D r H2 s2 hD hr2 => ?_⟩⟩
      have s12 := s1.trans s2
      rcases k with ⟨bad, want⟩ | ⟨p, rfl, ⟨np, ne2, pl⟩, k⟩
      · refine ⟨_, rfl, _, false, rfl, bad.up s12, fun H3 s3 => ⟨_, rfl, iteT ⟨_, rfl, by show 1 ≤ 1000; decide, fun b hb => ⟨b, _, rfl, upd_same, fun dx hdx hne => ⟨rfl, eraise_at (s12.trans s3) hb hdx hne want⟩⟩⟩⟩⟩
      · refine ⟨_, rfl, _, true, rfl, .inl ⟨js p, rfl, txb_path np ne2 (by omega)⟩, fun H3 s3 => ⟨_, rfl, iteF ?_⟩⟩
        refine ⟨_, rfl, _, rfl, D, p, [row], rfl, ⟨[.ref r], s3 _ _ hD, rfl, fun i x row2 e1 e2 => ?_⟩, np, ne2, by omega, ⟨by show 1 ≤ 1000; decide, fun q hq => by rw [List.mem_singleton.mp hq]; exact rl⟩, fun b H4 s4 th => ?_⟩
        · cases i with
          | zero =>
            cases e1
            cases e2
            exact ⟨r, rfl, s3 _ _ hr2⟩
          | succ i => cases e1
        · refine k b H4 ((s12.trans s3).trans s4) ?_
          unfold Mt
          unfold Thr at th
          rw [th]
          constructor
          · rintro ⟨q, hq, z⟩
            rw [List.mem_singleton.mp hq] at z
            exact z
          · intro z
            exact ⟨row, List.mem_singleton.mpr rfl, z⟩
theorem scPattern : FnScope ["_law_stream", "_law_pool_here", "_law_most", "_law_some", "_law_k"] ["_law_stream", "_law_pool_here", "_law_most"] (defScope sPattern) := ⟨rfl, rfl, rfl, by decide +kernel, rfl, by decide +kernel, by decide +kernel⟩
theorem ok_pattern {f : Addr} {fd : FuncData} (F : Fun K "_law_pattern" "_law_pattern" sPattern f fd) (T : TB mg) (aD : aD' K mg fD fdD) (aP : At K mg "_law_pick" fPi fdPi ["_law_stream", "_law_things"]) (GD : FnOk P w K mg base CX0 1 fD fdD ["_law_stream", "_law_many"] spDraw)
    (GP : FnOk P w K mg base CX0 2 fPi fdPi ["_law_stream", "_law_things"] spPick) : FnOk P w K mg base CX0 3 f fd ["_law_stream", "_law_pool_here", "_law_most"] spPattern := by
  refine F.ok scPattern (fun vs H Q E h => ?_) (fun cdv A outer s H vs Q E hr h => ?_)
  · obtain ⟨st, l, p, c, zs, most, rfl, _⟩ := h
    rfl
  · obtain ⟨st, l, p, c, zs, most, rfl, S, hc, L, z1, nm, m0, m1, k⟩ := h
    refine ⟨_, pss_cons (ps_set (i := 3) scPattern.nd rfl (Or.inr rfl) (pe_op op_cat (pv 1) (pe_lst (pa_cons pe_str (pa_cons pe_str (pa_cons pe_str (pa_cons pe_str pa_nil)))))))
            (pss_one (ps_ret (pe_join pe_str (pe_lc (own := [("_law_k", 4)]) (g := gName 4) (tt := tYes) rfl scPattern.nd (pi_range1 rfl T.range (pa_cons (pe_op op_add pe_int (pe_call GD (hr.mono (by decide)) rfl aD.m aD.k aD.b .nil pass0 (pa_cons (pv 0) (pa_cons (pv 2) pa_nil)))) pa_nil)) (blkOk_by (own := [("_law_k", 4)]) (N := ["_law_stream", "_law_pool_here", "_law_most", "_law_some", "_law_k"]) (sc := defScope sPattern) (by decide +kernel)) (fun _ _ _ _ _ => (pg_name (i := 4) scPattern.nd rfl (Or.inl rfl))) (fun _ _ _ _ _ => pts_nil) (fun _ _ _ _ _ => (by exact (pe_call GP (hr.mono (by decide)) rfl aP.m aP.k aP.b .nil pass0 (pa_cons (pv 0) (pa_cons (pv 3) pa_nil))))))))), ?_⟩
    refine ⟨_, rfl, by show 4 ≤ sizeLine; decide, fun g hg => ?_⟩
    have s1 := same_mk (o := .lst ((["*", "*", "**", "**"] : List Str).map V.str)) hg
    refine ⟨p, g, _, _, rfl, rfl, s1 _ _ L.h, upd_same, ?_, fun q hq => ?_⟩
    · rw [List.length_map]
      exact Nat.le_trans (show zs.length + 4 ≤ 1002 by omega) (by decide)
    · rw [show zs.map V.str ++ [V.str "*", .str "*", .str "**", .str "**"] = (zs ++ (["*", "*", "**", "**"] : List Str)).map V.str from by rw [List.map_append]; rfl]
      have s2 := same_mk (o := .lst ((zs ++ (["*", "*", "**", "**"] : List Str)).map V.str)) hq
      have s12 := s1.trans s2
      have nq := (S.up s1).ne_new hq
      have S2 := S.up s12
      refine ⟨⟨_, rfl⟩, _, rfl, _, rfl, st, l, c, _, rfl, S2, by omega, m0, by omega, fun d H1 d0 d1 B1 S1 => ?_⟩
      obtain ⟨n, hn⟩ : ∃ n : Nat, 1 + d = (n : Int) := ⟨(1 + d).toNat, by omega⟩
      refine ⟨_, _, rfl, rfl, 1 + d, rfl, by omega, by omega, fun D hD => ?_⟩
      rw [show (1 + d).toNat = n by omega]
      have L1 : H1 q = some (.lst ((zs ++ (["*", "*", "**", "**"] : List Str)).map V.str)) := B1 _ _ upd_same nq.1 nq.2
      refine lc_range (lo := 0) (n := n) (fun i H' => But st l H1 H' ∧ Strm H' st l (c + 1 + i) ∧ ∃ ys : List Str, ys.length = i ∧ H' D = some (.lst (ys.map V.str)) ∧ Pts ys)
        ⟨But.same (same_new hD), S1.up (same_new hD), [], rfl, upd_same, by intro y hy; cases hy⟩ ?_ ?_
      · rintro i H' hi ⟨B', S', ys, hy, hD', hs⟩
        have nD := S1.ne_new hD
        refine ⟨rfl, _, rfl, _, rfl, .inl ⟨st, l, c + 1 + i, q, _, rfl, S', by omega, B' _ _ L1 nq.1 nq.2, nq.1, nq.2, by rw [List.length_map, List.length_append]; show 0 < _ + 4; omega, by rw [List.length_map, List.length_append]; show _ + 4 < 1000; omega, fun j x H'' hx B'' S'' => ?_⟩⟩
        obtain ⟨z, hz, rfl⟩ := List.mem_map.mp (List.mem_of_getElem? hx)
        refine ⟨_, B'' _ _ hD' nD.1 nD.2, ?_, (B'.trans B'').put hD, S''.put nD, ys ++ [z], ?_, ?_, fun y hy' => ?_⟩
        · rw [List.length_map, hy]
          exact Nat.lt_of_lt_of_le (show i < 1001 by omega) (by decide)
        · rw [List.length_append, hy]
          rfl
        · rw [upd_same, List.map_append]
          rfl
        · rcases List.mem_append.mp hy' with e | e
          · exact hs y e
          · rw [List.mem_singleton.mp e]
            rcases List.mem_append.mp hz with e | e
            · exact .inr (.inr (nm z e))
            · simp only [List.mem_cons, List.not_mem_nil, or_false] at e
              rcases e with rfl | rfl | rfl | rfl
              · exact .inl rfl
              · exact .inl rfl
              · exact .inr (.inl rfl)
              · exact .inr (.inl rfl)
      · rintro H' ⟨B', S', ys, hy, hD', hs⟩
        refine ⟨_, D, ys, rfl, rfl, .inl (SqL.of hD'), ?_, k ys H' (c + 1 + n) ⟨hs, ?_, by omega⟩ (by omega) ((But.same s12).trans (B1.trans B')) S' (by omega)⟩
        · have := names_len fun y q => pt_len (hs y q)
          have e : (("/" : Str).length) = 1 := by decide
          rw [e]
          omega
        · intro e
          rw [e] at hy
          have : n = 0 := hy.symm
          omega
theorem scLMat : FnScope ["_law_pattern_here", "_law_path_here", "_law_names", "_law_ends", "_law_part", "_law_later", "_law_end"] ["_law_pattern_here", "_law_path_here"] (defScope sLMat) := ⟨rfl, rfl, rfl, by decide +kernel, rfl, by decide +kernel, by decide +kernel⟩
theorem ok_lmat {f : Addr} {fd : FuncData} (F : Fun K "_law_matches" "_law_matches" sLMat f fd) (T : TB mg) (mSet : mg "set" = none) : FnOk P w K mg base CX0 1 f fd ["_law_pattern_here", "_law_path_here"] spLMat := by
  refine F.ok scLMat (fun vs H Q E h => ?_) (fun cdv A outer s H vs Q E hr h => ?_)
  · obtain ⟨row, p, rfl, _⟩ := h
    rfl
  · obtain ⟨row, p, rfl, ⟨hrow, rne, rl⟩, ⟨np, ne2, pl⟩, k⟩ := h
    refine ⟨_, pss_cons (ps_par (i := 2) (j := 3) (by rfl) scLMat.nd rfl rfl (by decide) rfl rfl (pa_cons (pe_bm PySem.F.plainAttrs_str PySem.F.slot_str_split PySem.F.type_str_split mt_split (pv 1) (pa_cons pe_str pa_nil)) (pa_cons (pe_lst (pa_cons pe_int pa_nil)) pa_nil)) (by rfl))
            (pss_cons (ps_for PassesOwn.never rfl (pi_list (pe_bm PySem.F.plainAttrs_str PySem.F.slot_str_split PySem.F.type_str_split mt_split (pv 0) (pa_cons pe_str pa_nil))) (pg_name (i := 4) scLMat.nd rfl (Or.inl rfl)) (pss_cons (ps_set (i := 5) scLMat.nd rfl (Or.inl rfl) (pe_lst pa_nil))
            (pss_cons (ps_for PassesOwn.never rfl (pi_list (pv 3)) (pg_name (i := 6) scLMat.nd rfl (Or.inl rfl)) (pss_one (ps_if (pt_cmpR op_eq (pv 4) pe_str (nomark _)) (pss_one (ps_expr (pe_bm PySem.F.plainAttrs_list PySem.F.slot_list_extend PySem.F.type_list_extend mt_extend (pv 5) (pa_cons (pe_listRg rfl (by rfl) T.list (prg_2 (by rfl) T.range (pv 6) (pe_op op_add (pe_callB call_len_seq (by rfl) T.len PySem.boot_len (pa_cons (pv 2) pa_nil)) pe_int))) pa_nil)))) (pss_one (ps_if (PW.pt (pw_and (pt_cmpR op_lt (pv 6) (pe_callB call_len_seq (by rfl) T.len PySem.boot_len (pa_cons (pv 2) pa_nil)) (nomark _)) (pw_and1 (pt_cmpR op_in_seq (pv 4) (pe_tup (pa_cons pe_str (pa_cons (pe_ix ix_list (pv 2) (pv 6) (fun _ _ => rfl)) pa_nil))) (by rfl))))) (pss_one (ps_expr (pe_bm PySem.F.plainAttrs_list PySem.F.slot_list_append PySem.F.type_list_append mt_append (pv 5) (pa_cons (pe_op op_add (pv 6) pe_int) pa_nil)))) (pss_nil))))))
            (pss_one (ps_set (i := 3) scLMat.nd rfl (Or.inl rfl) (pe_callB (cr_sortedSet rfl) (by rfl) T.sorted (by decide +kernel) (pa_cons (pe_callTy (SN.cr_setIn rfl) (by rfl) mSet (by decide +kernel) (pa_cons (pv 5) pa_nil)) pa_nil)))))))
            (pss_one (ps_ret (pe_cmpR op_in_seq (pe_callB call_len_seq (by rfl) T.len PySem.boot_len (pa_cons (pv 2) pa_nil)) (pv 3) (by rfl))))), ?_⟩
    have hs := js_sh np (show p.length ≤ 100 by omega)
    have hs2 := js_pts_sh hrow (show row.length ≤ 100 by omega)
    unfold Sh at hs hs2
    refine ⟨_, rfl, rfl, js p, "/", rfl, rfl, rfl, Nat.le_trans (show (js p).length + 2 ≤ 1002 by omega) (by decide), fun N hN => ?_⟩
    rw [split_js np ne2]
    have s1 := same_mk (o := .lst (p.map V.str)) hN
    refine ⟨by show 1 ≤ sizeLine; decide, fun e0 he0 => ?_⟩
    have s2 := same_mk (o := .lst [V.int 0]) he0
    have s12 := s1.trans s2
    have hN2 := s2 _ _ (upd_same (H := H) (a := N) (o := .lst (p.map V.str)))
    refine ⟨_, _, rfl, _, rfl, rfl, js row, "/", rfl, rfl, rfl, Nat.le_trans (show (js row).length + 2 ≤ 1002 by omega) (by decide), fun R hR => ?_⟩
    rw [split_pts hrow rne]
    have s3 := same_mk (o := .lst (row.map V.str)) hR
    have s123 := s12.trans s3
    have hN3 := s3 _ _ hN2
    have he3 := s3 _ _ (upd_same (a := e0) (o := .lst [V.int 0]))
    have hR3 := upd_same (H := upd (upd H N (.lst (p.map V.str))) e0 (.lst [V.int 0])) (a := R) (o := .lst (row.map V.str))
    generalize upd (upd (upd H N (.lst (p.map V.str))) e0 (.lst [V.int 0])) R (.lst (row.map V.str)) = H3 at s123 hN3 he3 hR3 ⊢
    have sz : (p.map V.str).length = p.length := List.length_map ..
    refine ⟨R, rfl, ⟨_, SqL.of hR3⟩, for_it (walk_list (K := K) (a := R) (xs := row.map V.str)) (fun i σ H' => ∃ e zs x4 x5 x6, σ = [some (.str (js row)), some (.str (js p)), some (.ref N), some (.ref e), x4, x5, x6] ∧ Same H3 H' ∧ H' e = some (.lst (zs.map iV)) ∧ zs.Nodup ∧ ∀ k, k ∈ zs ↔ EE (o := st1) (m := mn) (row := row) (names := p) i k)
      ⟨e0, [0], none, none, none, rfl, Same.refl _, he3, List.nodup_cons.mpr ⟨List.not_mem_nil, List.nodup_nil⟩, fun k => ?_⟩ (fun i σ H' _ q => by obtain ⟨_, _, _, _, _, _, sm, _⟩ := q; exact sm.seq (SqL.of hR3)) ?_ ?_⟩
    · rw [List.mem_singleton]
      constructor
      · rintro rfl
        exact ⟨Nat.zero_le _, rfl⟩
      · exact fun h => h.2
    · rintro i x σ _ H4 hi ⟨e, zs, x4, x5, x6, rfl, s4, he, nd, mem⟩ ⟨rfl, ex⟩
      rw [List.getElem?_map] at ex
      obtain ⟨part, ep, rfl⟩ := Option.map_eq_some_iff.mp ex
      have zl : zs.length ≤ 7 := Nat.le_trans (len_below nd fun j hj => ((mem j).mp hj).1) (by omega)
      refine ⟨Nat.zero_le _, fun q hq => ?_⟩
      have s5 := same_mk (o := .lst []) hq
      have hN4 := s4 _ _ hN3
      have ne_q : e ≠ q := ne_of_none he hq
      have up : ∀ {u : HO} {H' : Hp}, Same H4 H' → Same H4 (upd H' q u) := fun s' => same_ch s' hq
      have hq0 := upd_same (H := H4) (a := q) (o := .lst [])
      have he5 := s5 _ _ he
      refine ⟨_, rfl, e, rfl, ⟨_, SqL.of he5⟩, for_it (walk_list (K := K) (a := e) (xs := zs.map iV)) (fun j σ H' => ∃ ls x6, σ = [some (.str (js row)), some (.str (js p)), some (.ref N), some (.ref e), some (.str part), some (.ref q), x6] ∧ Same H4 H' ∧ H' q = some (.lst (ls.map iV)) ∧ ls.length ≤ 7 * j ∧ ∀ k, k ∈ ls ↔ ∃ a ∈ zs.take j, Stp p part a k)
        ⟨[], x6, rfl, s5, hq0, Nat.le_refl _, fun k => ⟨fun h => (List.not_mem_nil h).elim, fun ⟨a, ha, _⟩ => by simp at ha⟩⟩ (fun j σ H' _ q => by obtain ⟨_, _, _, sm, _⟩ := q; exact sm.seq (SqL.of he)) ?_ ?_⟩
      · rintro j y σ _ H5 hj ⟨ls, y6, rfl, s6, hq5, ll, lm⟩ ⟨rfl, ey⟩
        rw [List.length_map] at hj
        rw [List.getElem?_map] at ey
        obtain ⟨a, ea, rfl⟩ := Option.map_eq_some_iff.mp ey
        have tk : zs.take (j + 1) = zs.take j ++ [a] := by
          rw [List.take_succ, ea]
          rfl
        have hN5 := s6 _ _ hN4
        have grow : ∀ (more : List Nat), (∀ k, k ∈ more ↔ Stp p part a k) → ∀ k, k ∈ ls ++ more ↔ ∃ b ∈ zs.take (j + 1), Stp p part b k := by
          intro more hm k
          rw [List.mem_append, lm k, hm k, tk]
          constructor
          · rintro (⟨b, hb, z⟩ | z)
            · exact ⟨b, List.mem_append_left _ hb, z⟩
            · exact ⟨a, List.mem_append_right _ (List.mem_singleton.mpr rfl), z⟩
          · rintro ⟨b, hb, z⟩
            rcases List.mem_append.mp hb with hb | hb
            · exact .inl ⟨b, hb, z⟩
            · rw [List.mem_singleton.mp hb] at z
              exact .inr z
        by_cases em : part = mn
        · subst em
          have e1 : rgV (a : Int) (((p.map V.str).length : Int) + 1) = ((List.range (p.length + 1 - a)).map fun i => a + i).map iV := by
            rw [sz]
            exact rg_nums a (p.length + 1)
          refine ⟨_, rfl, rfl, _, rfl, iteY rfl ⟨_, rfl, .inl ⟨rfl, _, SqL.of hq5⟩, _, rfl, _, rfl, N, _, rfl, .inl (SqL.of hN5), _, _, rfl, rfl, _, _, rfl, rfl, RgOk.of_le (by omega) (by rw [sz]; omega) (by have := ((mem a).mp (List.mem_of_getElem? ea)).1; omega) (by omega), fun g hg => ?_⟩⟩
          rw [e1]
          have s7 := same_mk (o := .lst (((List.range (p.length + 1 - a)).map fun i => a + i).map iV)) hg
          refine ⟨q, g, _, _, rfl, rfl, s7 _ _ hq5, upd_same, ?_, ?_⟩
          · rw [List.length_map, List.length_map, List.length_map, List.length_range]
            exact Nat.le_trans (show _ ≤ 1000 by omega) (by decide)
          · rw [← List.map_append]
            refine ⟨ls ++ ((List.range (p.length + 1 - a)).map fun i => a + i), _, rfl, up (s6.trans s7), upd_same, ?_, grow _ fun k => ?_⟩
            · rw [List.length_append, List.length_map, List.length_range]
              omega
            · rw [mem_rg]
              constructor
              · exact fun h => .inl ⟨rfl, h⟩
              · rintro (⟨_, h⟩ | ⟨h, _⟩)
                · exact h
                · exact absurd rfl h
        · have hnone : ∀ (no : ∀ k, ¬ Stp p part a k), ∀ k, k ∈ ls ↔ ∃ b ∈ zs.take (j + 1), Stp p part b k := fun no k => by
            have := grow [] (fun k => ⟨fun h => (List.not_mem_nil h).elim, fun h => absurd h (no k)⟩) k
            rw [List.append_nil] at this
            exact this
          refine ⟨_, rfl, rfl, _, rfl, iteN (fun z => em (V.str.inj z)) ⟨_, rfl, _, rfl, N, _, rfl, .inl (SqL.of hN5), _, _, rfl, rfl, ?_⟩⟩
          rw [sz]
          by_cases lt : a < p.length
          · have ey : p[a]? = some p[a] := List.getElem?_eq_getElem lt
            generalize p[a] = y at ey
            refine ⟨_, rfl, iteY (by omega) ?_⟩
            refine ⟨_, rfl, _, rfl, _, rfl, N, _, (a : Int), .str y, rfl, rfl, SqL.of hN5, atI_nat (by rw [List.getElem?_map, ey]; rfl), by show 2 ≤ sizeLine; decide, fun t ht => ⟨t, _, rfl, .inr (SqT.of upd_same), rfl, rfl, ?_⟩⟩
            have s7 := same_mk (o := .tup [.str "*", .str y]) ht
            have e2 : (if false = true then !inV (.str part) [.str "*", .str y] else inV (.str part) [.str "*", .str y]) = decide (part = st1 ∨ part = y) := by
              rw [if_neg (by decide), show [V.str "*", .str y] = [("*" : Str), y].map V.str from rfl, inV_strs]
              refine decide_eq_decide.mpr ?_
              simp only [List.mem_cons, List.not_mem_nil, or_false]
            refine ⟨_, rfl, ?_⟩
            rw [e2]
            by_cases h : part = st1 ∨ part = y
            · refine iteY h ⟨_, rfl, .inl ⟨rfl, _, SqL.of (s7 _ _ hq5)⟩, _, rfl, _, _, rfl, rfl, q, _, _, rfl, rfl, s7 _ _ hq5, ?_, ?_⟩
              · rw [List.length_map]
                exact Nat.lt_of_lt_of_le (show _ < 1000 by omega) (by decide)
              · refine ⟨ls ++ [a + 1], _, rfl, up (s6.trans s7), ?_, ?_, grow _ fun k => ?_⟩
                · rw [upd_same, List.map_append]
                  rfl
                · rw [List.length_append]
                  show ls.length + 1 ≤ _
                  omega
                · rw [List.mem_singleton]
                  constructor
                  · exact fun e => .inr ⟨em, y, ey, h, e⟩
                  · rintro (⟨z, _⟩ | ⟨_, n, hn, _, e⟩)
                    · exact absurd z em
                    · exact e
            · refine iteN h ⟨ls, _, rfl, s6.trans s7, s7 _ _ hq5, by omega, hnone fun k => ?_⟩
              rintro (⟨z, _⟩ | ⟨_, n, hn, h2, e⟩)
              · exact em z
              · rw [ey] at hn
                obtain rfl := Option.some.inj hn
                exact h h2
          · refine ⟨_, rfl, iteN (by omega) ?_⟩
            refine iteF ⟨ls, _, rfl, s6, hq5, by omega, hnone fun k => ?_⟩
            rintro (⟨z, _⟩ | ⟨_, n, hn, h2, e⟩)
            · exact em z
            · exact lt (List.getElem?_eq_some_iff.mp hn).1
      · rintro σ H5 ⟨ls, y6, rfl, s6, hq5, ll, lm⟩
        rw [List.length_map] at ll lm
        rw [List.take_length] at lm
        have hq6 : H5 q = some (.lst ((ls.map fun (k : Nat) => (k : Int)).map V.int)) := by
          rw [hq5, List.map_map]
          rfl
        refine ⟨_, rfl, q, _, rfl, SqL.of hq6, by rw [List.length_map]; omega, fun S n hS hn => ?_⟩
        rw [List.length_map] at hn
        refine ⟨S, _, n, rfl, upd_same, by omega, fun ns g pw hmem hlen hg => ?_⟩
        obtain ⟨zs2, ez, nd2, mem2⟩ := nat_of (dist_of pw) (ls := ls) fun k => by rw [hmem k]; exact decide_eq_true_iff
        rw [ez]
        refine ⟨g, zs2, _, _, _, rfl, s4.trans (s6.trans ((same_mk hS).trans (same_mk hg))), upd_same, nd2, fun k => ?_⟩
        rw [mem2 k, lm k, ee_step ep]
        constructor
        · rintro ⟨b, hb, z⟩
          exact ⟨b, (mem b).mp hb, z⟩
        · rintro ⟨b, hb, z⟩
          exact ⟨b, (mem b).mpr hb, z⟩
    · rintro σ H4 ⟨e, zs, x4, x5, x6, rfl, s4, he, nd, mem⟩
      rw [List.length_map] at mem
      have hN4 := s4 _ _ hN3
      refine ⟨_, rfl, N, _, rfl, .inl (SqL.of hN4), _, rfl, e, _, rfl, .inl (SqL.of he), rfl, ?_, ?_⟩
      · rw [List.all_eq_true]
        intro v hv
        obtain ⟨z, _, rfl⟩ := List.mem_map.mp hv
        rfl
      · refine k _ _ (s123.trans s4) ?_
        unfold Mt
        rw [if_neg (by decide), sz, inV_nums, decide_eq_true_iff, mem]
        exact ⟨fun h => h.2, fun h => ⟨Nat.le_refl _, h⟩⟩
end
end Z

set_option maxHeartbeats 3900000
/-! a list == [] -/
namespace EN
open PySem PySem.Spec PyProof.Rows L2
def rEqNil (K : PySem.W.Frag) : R2 := fun x y H Q => ∃ a b xs, x = .ref a ∧ y = .ref b ∧ SqL K H a xs ∧ SqL K H b [] ∧ Q (.bl xs.isEmpty) H
theorem op_eqNil {X : Cx} (hu : X.A.units < cLine) : OpR X (compareOp .Eq) (rEqNil X.K) := by
  intro pins s σ H x y v u Q I rx ry h
  obtain ⟨a, b, xs, rfl, rfl, ha, hb, q⟩ := h
  cases rx
  cases ry
  obtain ⟨its, rv, pl, hz⟩ := I.list ha
  obtain ⟨its2, rv2, pl2, hz2⟩ := I.list hb
  cases rv2
  cases xs with
  | nil =>
    cases rv
    have r := SeqAt.RcAt.lists (A := X.A) (e := fun _ => true) pl.isList pl2.isList rfl hu (fun j h1 h2 => absurd h1 (by simp))
    exact r X.prog X.w X.xe _ ⟨.bl _, H, I, rfl, q⟩
  | cons z zs =>
    cases rv with
    | cons rz rr =>
      have r := SeqAt.RcAt.lists_lengths (A := X.A) pl.isList pl2.isList (by simp) hu
      exact r X.prog X.w X.xe _ ⟨.bl _, H, I, rfl, q⟩
theorem iteT' {c : Bool} {A B : Prop} (h : c = true) (a : A) : if c = true then A else B := by rw [if_pos h]; exact a
theorem iteF' {c : Bool} {A B : Prop} (h : c = false) (b : B) : if c = true then A else B := by rw [if_neg (by rw [h]; decide)]; exact b
end EN

set_option maxHeartbeats 3900000
namespace Z
open PySem PySem.Spec PyProof.Rows L2 TL
open C8 (pss_cut tCut pe_gc)
open CB XW ZM
abbrev sStood : Stmt := top 31
theorem get_many (part : Str) (d : Int) : (valV (mergeK [] [((.inr "*" : L2.Key), V.int 1), (.inr "**", .int d)]) (.inr part)).getD (.int 0) = V.int (if part = "*" then 1 else if part = "**" then d else 0) := by
  have e : mergeK [] [((.inr "*" : L2.Key), V.int 1), (.inr "**", .int d)] = [((.inr "*" : L2.Key), V.int 1), (.inr "**", .int d)] := rfl
  rw [e]
  unfold valV
  by_cases h : part = "*"
  · subst h
    rfl
  · have e1 : decide ((.inr "*" : L2.Key) = .inr part) = false := decide_eq_false fun z => h (Sum.inr.inj z).symm
    rw [if_neg h, List.find?_cons, e1, List.find?_cons]
    by_cases h2 : part = "**"
    · subst h2
      rfl
    · have e2 : decide ((.inr "**" : L2.Key) = .inr part) = false := decide_eq_false fun z => h2 (Sum.inr.inj z).symm
      rw [if_neg h2, e2]
      rfl
theorem cut_to6 (xs : List V) : cutV xs none (some 6) = xs.take 6 := by
  show (xs.drop (HT.sIx xs.length 0 none)).take (HT.sIx xs.length xs.length (some ((6 : Nat) : Int)) - HT.sIx xs.length 0 none) = xs.take 6
  rw [HT.sIx_nat, HT.sIx_none, List.drop_zero]
  by_cases h : 6 ≤ xs.length
  · rw [Nat.min_eq_left h]
  · rw [Nat.min_eq_right (by omega), List.take_of_length_le (by omega), List.take_of_length_le (by omega)]
def spStood : Sp := fun vs H Q _ => ∃ (st l p : Addr) (c : Nat) (zs row : List Str), vs = [.ref st, .ref p, .str (js row)] ∧ Strm H st l c ∧ c ≤ 900000 ∧ Pool H st l p zs ∧ 0 < zs.length ∧ zs.length < 1000 ∧ (∀ z ∈ zs, IsNm z) ∧ GoodP row ∧ row.length ≤ 6 ∧
  ∀ (q : List Str) (H' : Hp) (c' : Nat), GoodN q → But st l H H' → Strm H' st l c' → c' ≤ c + 40 → Q (.str (js q)) H'
section
variable {P : Program} {w : World} {K : PySem.W.Frag} {mg : Str → Option Value} {base : Heap} {fD fPi : Addr} {fdD fdPi : FuncData}
theorem scStood : FnScope ["_law_stream", "_law_pool_here", "_law_pattern_here", "_law_found", "_law_part", "_law_many", "_law_k"] ["_law_stream", "_law_pool_here", "_law_pattern_here"] (defScope sStood) := ⟨rfl, rfl, rfl, by decide +kernel, rfl, by decide +kernel, by decide +kernel⟩
theorem ok_stood {f : Addr} {fd : FuncData} (F : Fun K "_law_stood_for" "_law_stood_for" sStood f fd) (T : TB mg) (aD : aD' K mg fD fdD) (aP : At K mg "_law_pick" fPi fdPi ["_law_stream", "_law_things"]) (GD : FnOk P w K mg base CX0 1 fD fdD ["_law_stream", "_law_many"] spDraw)
    (GP : FnOk P w K mg base CX0 2 fPi fdPi ["_law_stream", "_law_things"] spPick) : FnOk P w K mg base CX0 3 f fd ["_law_stream", "_law_pool_here", "_law_pattern_here"] spStood := by
  refine F.ok scStood (fun vs H Q E h => ?_) (fun cdv A outer s H vs Q E hr h => ?_)
  · obtain ⟨st, l, p, c, zs, row, rfl, _⟩ := h
    rfl
  · obtain ⟨st, l, p, c, zs, row, rfl, S, hc, L, z0, z1, nm, ⟨hrow, rne, _⟩, rl, k⟩ := h
    have hu := hr.units
    have hu1 := hu_of hr
    have hu0 := Nat.lt_of_le_of_lt (Nat.le_add_right _ 64) hr.units
    refine ⟨_, pss_cons (ps_set (i := 3) scStood.nd rfl (Or.inl rfl) (pe_lst pa_nil))
            (pss_cons (ps_for PassesOwn.never rfl (pi_list (pe_bm PySem.F.plainAttrs_str PySem.F.slot_str_split PySem.F.type_str_split mt_split (pv 2) (pa_cons pe_str pa_nil))) (pg_name (i := 4) scStood.nd rfl (Or.inl rfl)) (pss_cons (ps_set (i := 5) scStood.nd rfl (Or.inl rfl) (pe_dget2 hu1 (pe_disp (pps_cons pe_str pe_int (pps_cons pe_str (pe_call GD (hr.mono (by decide)) rfl aD.m aD.k aD.b .nil pass0 (pa_cons (pv 0) (pa_cons pe_int pa_nil))) pps_nil)) rfl rfl (by simp) (by decide)) (pv 4) pe_int ⟨rfl, rfl, rfl, rfl⟩))
            (pss_one (ps_expr (pe_bm PySem.F.plainAttrs_list PySem.F.slot_list_extend PySem.F.type_list_extend mt_extend (pv 3) (pa_cons (pe_ifExp (pt_cmpR op_in_seq (pv 4) (pe_tup (pa_cons pe_str (pa_cons pe_str pa_nil))) (by rfl)) (pe_lc (own := [("_law_k", 6)]) (g := gName 6) (tt := tYes) rfl scStood.nd (pi_range1 rfl T.range (pa_cons (pv 5) pa_nil)) (blkOk_by (own := [("_law_k", 6)]) (N := ["_law_stream", "_law_pool_here", "_law_pattern_here", "_law_found", "_law_part", "_law_many", "_law_k"]) (sc := defScope sStood) (by decide +kernel)) (fun _ _ _ _ _ => (pg_name (i := 6) scStood.nd rfl (Or.inl rfl))) (fun _ _ _ _ _ => pts_nil) (fun _ _ _ _ _ => (by exact (pe_call GP (hr.mono (by decide)) rfl aP.m aP.k aP.b .nil pass0 (pa_cons (pv 0) (pa_cons (pv 1) pa_nil)))))) (pe_lst (pa_cons (pv 4) pa_nil))) pa_nil))))))
            (pss_cut (ps_if (PW.pt (pw_or (pt_cmpR (EN.op_eqNil hu0) (pv 3) (pe_lst pa_nil) (nomark _)) (pw_or1 (pt_cmpR op_eq (pe_call GD (hr.mono (by decide)) rfl aD.m aD.k aD.b .nil pass0 (pa_cons (pv 0) (pa_cons pe_int pa_nil))) pe_int (nomark _))))) (pss_one (ps_expr (pe_bm PySem.F.plainAttrs_list PySem.F.slot_list_insert PySem.F.type_list_insert mt_insert (pv 3) (pa_cons (pe_call GD (hr.mono (by decide)) rfl aD.m aD.k aD.b .nil pass0 (pa_cons (pv 0) (pa_cons (pe_op op_add (pe_callB call_len_seq (by rfl) T.len PySem.boot_len (pa_cons (pv 3) pa_nil)) pe_int) pa_nil))) (pa_cons (pe_call GP (hr.mono (by decide)) rfl aP.m aP.k aP.b .nil pass0 (pa_cons (pv 0) (pa_cons (pv 1) pa_nil))) pa_nil))))) (pss_nil))
            (pss_one (ps_ret (pe_join pe_str (pe_slice sl_list (pv 3) po_none (po_some pe_int))))))), ?_⟩
    refine ⟨by show 0 ≤ sizeLine; decide, fun F0 hF => ?_⟩
    have hs2 := js_pts_sh hrow (show row.length ≤ 100 by omega)
    unfold Sh at hs2
    refine ⟨_, rfl, rfl, js row, "/", rfl, rfl, rfl, Nat.le_trans (show (js row).length + 2 ≤ 1002 by omega) (by decide), fun R hR => ?_⟩
    rw [split_pts hrow rne]
    have s1 := same_mk (o := .lst []) hF
    have s2 := same_mk (o := .lst (row.map V.str)) hR
    have hF2 := s2 _ _ (upd_same (H := H) (a := F0) (o := .lst []))
    have hR2 := upd_same (H := upd H F0 (.lst [])) (a := R) (o := .lst (row.map V.str))
    have S2 := S.up (s1.trans s2)
    have nF := S.ne_new hF
    have nR := (S.up s1).ne_new hR
    have B0 : But st l H (upd (upd H F0 (.lst [])) R (.lst (row.map V.str))) := But.same (s1.trans s2)
    have hRF : R ≠ F0 := fun e => by rw [e, upd_same] at hR; cases hR
    generalize upd (upd H F0 (.lst [])) R (.lst (row.map V.str)) = H2 at hF2 hR2 S2 B0 ⊢
    refine ⟨R, rfl, ⟨_, SqL.of hR2⟩, for_it (walk_list (K := K) (a := R) (xs := row.map V.str)) (fun i σ H' => ∃ (ys : List Str) (x4 x5 x6 : Option V) (c' : Nat), σ = [some (.ref st), some (.ref p), some (.str (js row)), some (.ref F0), x4, x5, x6] ∧ But st l H H' ∧ Strm H' st l c' ∧ c' ≤ c + 3 * i ∧ H' R = some (.lst (row.map V.str)) ∧ H' F0 = some (.lst (ys.map V.str)) ∧ Nms ys ∧ ys.length ≤ 2 * i)
      ⟨[], _, _, _, c, rfl, B0, S2, Nat.le_refl _, hR2, hF2, (fun y hy => by cases hy), Nat.le_refl _⟩ (fun i σ H' _ q => by obtain ⟨_, _, _, _, _, _, _, _, _, q, _⟩ := q; exact SqL.of q) ?_ ?_⟩
    · rintro i x σ _ H4 hi ⟨ys, x4, x5, x6, c4, rfl, B4, S4, hc4, hR4, hF4, yn, yl⟩ ⟨rfl, ex⟩
      rw [List.getElem?_map] at ex
      obtain ⟨part, ep, rfl⟩ := Option.map_eq_some_iff.mp ex
      have hpart := hrow part (List.mem_of_getElem? ep)
      rw [List.length_map] at hi
      intro g hg
      have s5 := same_mk (o := .dK []) hg
      have ng := S4.ne_new hg
      refine ⟨_, rfl, st, l, c4, 3, rfl, S4.up s5, by omega, by decide, by decide, fun d H5 d0 d1 B5 S5 => ?_⟩
      refine ⟨B5 _ _ upd_same ng.1 ng.2, [(.inr "*", .int 1), (.inr "**", .int d)], rfl, (by show 2 ≤ 15; decide), ?_⟩
      have B6 : But st l H4 H5 := (But.same s5).trans B5
      have S6 : Strm (upd H5 g (.dK (mergeK [] [(.inr "*", .int 1), (.inr "**", .int d)]))) st l (c4 + 1) := S5.put ng
      have B7 := B6.put (o := .dK (mergeK [] [(.inr "*", .int 1), (.inr "**", .int d)])) hg
      have hg7 := upd_same (H := H5) (a := g) (o := .dK (mergeK [] [(.inr "*", .int 1), (.inr "**", .int d)]))
      generalize upd H5 g (.dK (mergeK [] [(.inr "*", .int 1), (.inr "**", .int d)])) = H6 at S6 B7 hg7 ⊢
      refine ⟨g, rfl, .inl ⟨_, .inl hg7⟩, _, rfl, _, DGet.k (k := Sum.inr part) hg7, ?_⟩
      rw [get_many]
      have hR6 := B7 _ _ hR4 nR.1 nR.2
      have hF6 := B7 _ _ hF4 nF.1 nF.2
      refine ⟨_, rfl, .inl ⟨rfl, _, SqL.of hF6⟩, _, rfl, by show 2 ≤ sizeLine; decide, fun t ht => ⟨t, _, rfl, .inr (SqT.of upd_same), rfl, rfl, _, rfl, ?_⟩⟩
      have s8 := same_mk (o := .tup [.str "*", .str "**"]) ht
      have S8 := S6.up s8
      have B8 := B7.trans (But.same s8)
      have hF8 := s8 _ _ hF6
      have hR8 := s8 _ _ hR6
      generalize upd H6 t (.tup [.str "*", .str "**"]) = H8 at s8 S8 B8 hF8 hR8 ⊢
      have e2 : (if false = true then !inV (.str part) [.str "*", .str "**"] else inV (.str part) [.str "*", .str "**"]) = decide (part = "*" ∨ part = "**") := by
        rw [if_neg (by decide), show [V.str "*", .str "**"] = [("*" : Str), "**"].map V.str from rfl, inV_strs]
        refine decide_eq_decide.mpr ?_
        simp only [List.mem_cons, List.not_mem_nil, or_false]
      rw [e2]
      by_cases h : part = "*" ∨ part = "**"
      · refine iteY h ?_
        obtain ⟨m, hm, m2⟩ : ∃ m : Nat, (if part = "*" then 1 else if part = "**" then d else 0) = (m : Int) ∧ m ≤ 2 := by
          obtain ⟨e, rfl⟩ := Int.eq_ofNat_of_zero_le d0
          by_cases h1 : part = "*"
          · exact ⟨1, if_pos h1, by decide⟩
          · rw [if_neg h1]
            by_cases h2 : part = "**"
            · exact ⟨e, if_pos h2, by omega⟩
            · exact ⟨0, if_neg h2, by decide⟩
        rw [hm]
        refine ⟨_, rfl, m, rfl, by omega, by omega, fun D hD => ?_⟩
        rw [show ((m : Int)).toNat = m by omega]
        have nD := S8.ne_new hD
        refine lc_range (lo := 0) (n := m) (fun j H' => But st l H8 H' ∧ Strm H' st l (c4 + 1 + j) ∧ ∃ ms : List Str, ms.length = j ∧ H' D = some (.lst (ms.map V.str)) ∧ Nms ms)
          ⟨But.same (same_new hD), S8.up (same_new hD), [], rfl, upd_same, by intro y hy; cases hy⟩ ?_ ?_
        · rintro j H' hj ⟨B', S', ms, hy, hD', hs⟩
          have L' : Pool H' st l p zs := L.but (B4.trans (B8.trans B'))
          refine ⟨rfl, _, rfl, _, rfl, .inl ⟨st, l, c4 + 1 + j, p, _, rfl, S', by omega, L'.h, L'.n1, L'.n2, by rw [List.length_map]; exact z0, by rw [List.length_map]; exact z1, fun j x H'' hx B'' S'' => ?_⟩⟩
          obtain ⟨z, hz, rfl⟩ := List.mem_map.mp (List.mem_of_getElem? hx)
          refine ⟨_, B'' _ _ hD' nD.1 nD.2, ?_, (B'.trans B'').put hD, S''.put nD, ms ++ [z], ?_, ?_, fun y hy' => ?_⟩
          · rw [List.length_map, hy]
            exact Nat.lt_of_lt_of_le (show _ < 1001 by omega) (by decide)
          · rw [List.length_append, hy]
            rfl
          · rw [upd_same, List.map_append]
            rfl
          · rcases List.mem_append.mp hy' with e | e
            · exact hs y e
            · rw [List.mem_singleton.mp e]
              exact nm z hz
        · rintro H' ⟨B', S', ms, hy, hD', hs⟩
          refine ⟨F0, D, _, _, rfl, rfl, B' _ _ hF8 nF.1 nF.2, hD', ?_, ys ++ ms, _, _, _, c4 + 1 + m, rfl, ?_, S'.put nF, by omega, ?_, ?_, yn.app hs, ?_⟩
          · rw [List.length_map, List.length_map]
            exact Nat.le_trans (show _ ≤ 1000 by omega) (by decide)
          · exact (B4.trans (B8.trans B')).put hF
          · rw [upd_ne hRF]
            exact B' _ _ hR8 nR.1 nR.2
          · rw [upd_same, List.map_append]
          · rw [List.length_append]
            omega
      · have pn : IsNm part := by
          rcases hpart with e | e | e
          · exact absurd (.inl e) h
          · exact absurd (.inr e) h
          · exact e
        refine iteN h ⟨_, rfl, by show 1 ≤ sizeLine; decide, fun D hD => ?_⟩
        have s9 := same_mk (o := .lst [.str part]) hD
        refine ⟨F0, D, _, _, rfl, rfl, s9 _ _ hF8, upd_same, ?_, ys ++ [part], _, _, _, c4 + 1, rfl, ?_, (S8.up s9).put nF, by omega, ?_, ?_, yn.app (fun y hy => by rw [List.mem_singleton.mp hy]; exact pn), ?_⟩
        · rw [List.length_map]
          exact Nat.le_trans (show _ ≤ 1000 by simp only [List.length_cons, List.length_nil]; omega) (by decide)
        · exact (B4.trans (B8.trans (But.same s9))).put hF
        · rw [upd_ne hRF]
          exact s9 _ _ hR8
        · rw [upd_same, List.map_append]
          rfl
        · rw [List.length_append]
          show _ + 1 ≤ _
          omega
    · rintro σ H4 ⟨ys, x4, x5, x6, c4, rfl, B4, S4, hc4, hR4, hF4, yn, yl⟩
      rw [List.length_map] at hc4 yl
      refine ⟨fun σ H' => ∃ (ys : List Str) (x4 x5 x6 : Option V) (c' : Nat), σ = [some (.ref st), some (.ref p), some (.str (js row)), some (.ref F0), x4, x5, x6] ∧ But st l H H' ∧ Strm H' st l c' ∧ c' ≤ c + 40 ∧ H' F0 = some (.lst (ys.map V.str)) ∧ Nms ys ∧ ys ≠ [] ∧ ys.length ≤ 13, ?_, ?_⟩
      · refine ⟨_, rfl, by show 0 ≤ sizeLine; decide, fun e he => ?_⟩
        have s9 := same_mk (o := .lst []) he
        have S9 := S4.up s9
        have B9 := B4.trans (But.same s9)
        have hF9 := s9 _ _ hF4
        have he9 := upd_same (H := H4) (a := e) (o := .lst [])
        generalize upd H4 e (.lst []) = H9 at s9 S9 B9 hF9 he9 ⊢
        refine ⟨F0, e, _, rfl, rfl, SqL.of hF9, SqL.of he9, _, rfl, ?_⟩
        by_cases em : ys = []
        · refine EN.iteT' (by rw [em]; rfl) ?_
          refine ⟨_, rfl, .inl ⟨rfl, _, SqL.of hF9⟩, _, rfl, _, rfl, F0, _, rfl, .inl (SqL.of hF9), _, _, rfl, rfl, st, l, c4, _, rfl, S9, by omega, by omega, by rw [List.length_map]; show (ys.length : Int) + 1 < _; omega, fun i H6 i0 i1 B6 S6 => ?_⟩
          have L6 : Pool H6 st l p zs := L.but (B9.trans B6)
          refine ⟨_, rfl, _, rfl, .inl ⟨st, l, c4 + 1, p, _, rfl, S6, by omega, L6.h, L6.n1, L6.n2, by rw [List.length_map]; exact z0, by rw [List.length_map]; exact z1, fun j x H7 hx B7 S7 => ?_⟩⟩
          obtain ⟨z, hz, rfl⟩ := List.mem_map.mp (List.mem_of_getElem? hx)
          rw [List.length_map] at i1
          refine ⟨F0, _, i, _, rfl, rfl, (B6.trans B7) _ _ hF9 nF.1 nF.2, ?_, i0, by omega, ys.take i.toNat ++ [z] ++ ys.drop i.toNat, _, _, _, c4 + 2, rfl, (B9.trans (B6.trans B7)).put hF, S7.put nF, by omega, ?_, ?_, ?_, ?_⟩
          · rw [List.length_map]
            exact Nat.lt_of_lt_of_le (show _ < 1000 by omega) (by decide)
          · rw [upd_same, List.map_append, List.map_append, List.map_take, List.map_drop]
            rfl
          · intro y hy
            rcases List.mem_append.mp hy with hy | hy
            · rcases List.mem_append.mp hy with hy | hy
              · exact yn y (List.mem_of_mem_take hy)
              · rw [List.mem_singleton.mp hy]
                exact nm z hz
            · exact yn y (List.mem_of_mem_drop hy)
          · intro e
            have := congrArg List.length e
            simp only [List.length_append, List.length_cons, List.length_nil] at this
            omega
          · simp only [List.length_append, List.length_cons, List.length_nil, List.length_take, List.length_drop]
            omega
        · refine EN.iteF' (by cases ys with | nil => exact absurd rfl em | cons y r => rfl) ?_
          refine ⟨_, rfl, st, l, c4, 4, rfl, S9, by omega, by decide, by decide, fun d H5 d0 d1 B5 S5 => ?_⟩
          have hF5 := B5 _ _ hF9 nF.1 nF.2
          have B95 := B9.trans B5
          refine ⟨rfl, _, rfl, ?_⟩
          by_cases h : d = 0
          · refine iteY (congrArg V.int h) ?_
            refine ⟨_, rfl, .inl ⟨rfl, _, SqL.of hF5⟩, _, rfl, _, rfl, F0, _, rfl, .inl (SqL.of hF5), _, _, rfl, rfl, st, l, (c4 + 1), _, rfl, S5, by omega, by omega, by rw [List.length_map]; show (ys.length : Int) + 1 < _; omega, fun i H6 i0 i1 B6 S6 => ?_⟩
            have L6 : Pool H6 st l p zs := L.but (B95.trans B6)
            refine ⟨_, rfl, _, rfl, .inl ⟨st, l, (c4 + 1) + 1, p, _, rfl, S6, by omega, L6.h, L6.n1, L6.n2, by rw [List.length_map]; exact z0, by rw [List.length_map]; exact z1, fun j x H7 hx B7 S7 => ?_⟩⟩
            obtain ⟨z, hz, rfl⟩ := List.mem_map.mp (List.mem_of_getElem? hx)
            rw [List.length_map] at i1
            refine ⟨F0, _, i, _, rfl, rfl, (B6.trans B7) _ _ hF5 nF.1 nF.2, ?_, i0, by omega, ys.take i.toNat ++ [z] ++ ys.drop i.toNat, _, _, _, (c4 + 1) + 2, rfl, (B95.trans (B6.trans B7)).put hF, S7.put nF, by omega, ?_, ?_, ?_, ?_⟩
            · rw [List.length_map]
              exact Nat.lt_of_lt_of_le (show _ < 1000 by omega) (by decide)
            · rw [upd_same, List.map_append, List.map_append, List.map_take, List.map_drop]
              rfl
            · intro y hy
              rcases List.mem_append.mp hy with hy | hy
              · rcases List.mem_append.mp hy with hy | hy
                · exact yn y (List.mem_of_mem_take hy)
                · rw [List.mem_singleton.mp hy]
                  exact nm z hz
              · exact yn y (List.mem_of_mem_drop hy)
            · intro e
              have := congrArg List.length e
              simp only [List.length_append, List.length_cons, List.length_nil] at this
              omega
            · simp only [List.length_append, List.length_cons, List.length_nil, List.length_take, List.length_drop]
              omega
          · exact iteN (fun e => h (V.int.inj e)) ⟨ys, _, _, _, c4 + 1, rfl, B95, S5, by omega, hF5, yn, em, by omega⟩
      · rintro σ H5 ⟨ys, x4, x5, x6, c5, rfl, B5, S5, hc5, hF5, yn, yne, yl⟩
        refine ⟨⟨_, rfl⟩, _, rfl, 6, rfl, F0, _, rfl, SqL.of hF5, fun g hg => ?_⟩
        rw [cut_to6, ← List.map_take]
        have s9 := same_mk (o := .lst ((ys.take 6).map V.str)) hg
        refine ⟨_, g, ys.take 6, rfl, rfl, .inl (SqL.of upd_same), ?_, k (ys.take 6) _ c5 ⟨fun y hy => yn y (List.mem_of_mem_take hy), ?_, List.length_take_le _ _⟩ (B5.trans (But.same s9)) (S5.up s9) hc5⟩
        · have := names_len (ys := ys.take 6) fun y hy => (yn y (List.mem_of_mem_take hy)).2.1
          have := List.length_take_le 6 ys
          have e : (("/" : Str).length) = 1 := by decide
          rw [e]
          omega
        · intro e
          cases ys with
          | nil => exact yne rfl
          | cons y r => cases e
end
end Z

set_option maxHeartbeats 3900000
/-! a try with several clauses that name the error -/
namespace TA
open PySem PySem.Spec PyProof.Rows L2
abbrev Suit := Addr → Value → Option Addr → TS
/-- the ends of a suite whose name, in slot i, goes behind it -/
def gone (i : Nat) (D : Ends) : Ends where
  nx := fun a b => D.nx (a.set i none) b
  rt := D.rt
  bk := fun a b => D.bk (a.set i none) b
  ct := fun a b => D.ct (a.set i none) b
/-- the wish, clause by clause -/
def wEach (K : PySem.W.Frag) (i : Nat) (Wout : WX) (D : Ends) : List (Value × Suit) → WX
  | [] => Wout
  | one :: more => fun cls d τ G => ∃ hit, PySem.W.exmOne K cls one.1 = some hit ∧
      (hit = true → ∀ a, G a = none → one.2 a cls d (gone i D) (τ.set i (some (.ref a))) G) ∧
      (hit = false → wEach K i Wout D more cls d τ G)
inductive Clauses (X : Cx) (n : Str) : List ExceptHandler → List (Value × Suit) → Prop
  | nil : Clauses X n [] []
  | cons {x : Str} {cl : Value} {ts : Suit} {b1 : Stmt} {bs : List Stmt} {q1 q2 : Pos} {hs : List ExceptHandler} {l : List (Value × Suit)}
      (nm : Names X x cl)
      (su : ∀ (a : Addr) (ob : Obj) (cls : Value) (d : Option Addr) (pn : List (Addr × Obj)), Zc cls d ob → (∃ fs, ob.data = .fields fs) → PSs (X.suite a ((a, ob) :: pn)) (b1 :: bs) (ts a cls d))
      (rest : Clauses X n hs l) : Clauses X n (.ExceptHandler (some (.Name x q1)) (some n) (b1 :: bs) q2 :: hs) ((cl, ts) :: l)
section
variable {X : Cx} {n : Str} {i : Nat} {body : List Stmt} {c0 : ExceptHandler} {cs : List ExceptHandler} {l : List (Value × Suit)} {pos : Pos} {tb : WX → TS} {Wout : WX}
theorem ps_try_each (hs : X.stack = X.env :: X.outer) (hf : X.env.frame = some X.env.locals) (nd : X.N.Nodup) (hi : X.N[i]? = some n) (hl : X.env.kindOf n = some .local) (tk : Takes X Wout)
    (hb : ∀ (W : WX) (pn : List (Addr × Obj)) (xe : Value → Shared → Prop), Takes (X.tr pn xe) W → PassesOwn (model X.prog X.w) X.A X.env xe → PSs (X.tr pn xe) body (tb W))
    (hc : Clauses X n (c0 :: cs) l) : PS X (.Try body (c0 :: cs) [] [] pos) (fun D σ H => tb (wEach X.K i Wout D l) D σ H) := by
  constructor
  intro pins s σ H D I h
  have ok := I.ok
  have frames : X.A.frames = some (X.env :: X.outer) := ok.frames.trans (congrArg some hs)
  let look : Value → Shared → Prop := fun e s1 => wpAny (model X.prog X.w) X.A (noteFrame e X.env) (fun _ s2 =>
    wpAny (model X.prog X.w) X.A (setFlight e none) (fun _ s3 =>
      wpAny (model X.prog X.w) X.A (handleBy e X.env (c0 :: cs)) (SP X pins D) X.xe s3) X.xe s2) X.xe s1
  have caught : Takes (X.tr (X.pn ++ pins) look) (wEach X.K i Wout D l) := by
    rintro u t ⟨a, B, sI, pins2, τ, G, cls, d, rfl, Jt, nb, up, sky, na, eos, bare, want⟩
    have J : Inv X pins τ G sI := Jt.ofTry ok
    have sky2 : Sky B (X.env :: X.outer) a (Zc cls d) X.env.locals t.heap := hs ▸ sky
    show wpAny (model X.prog X.w) X.A (noteFrame (.ref a) X.env) _ _ _
    refine Sky.land Zc.steady frames hf sky2 fun g fly upg => ?_
    have Jg : Inv X pins τ G { t with heap := g } := J.landed nb fly.1 (up.trans upg) eos bare
    obtain ⟨ob, fs, hob, hzc, hdat⟩ := fly.there
    have notIn : a ∉ frs (X.env :: X.outer) := by
      intro m
      obtain ⟨_, o2, e2, no⟩ := fly.2.2.1.mem m
      rw [hob] at e2
      exact no fs (Option.some.inj e2 ▸ hdat)
    have neL : a ≠ X.env.locals := by
      rintro rfl
      exact notIn (List.mem_filterMap.mpr ⟨X.env, List.mem_cons_self, hf⟩)
    have neF : a ∉ X.fs := by
      intro m
      obtain ⟨ev, hev, q⟩ := List.mem_filterMap.mp m
      exact notIn (List.mem_filterMap.mpr ⟨ev, List.mem_cons_of_mem _ hev, q⟩)
    have key : ∀ {cs2 : List ExceptHandler} {l2 : List (Value × Suit)}, Clauses X n cs2 l2 → wEach X.K i Wout D l2 cls d τ G →
        wpAny (model X.prog X.w) X.A (handleBy (.ref a) X.env cs2) (SP X pins D) X.xe { t with heap := g } := by
      intro cs2 l2 C
      induction C with
      | nil =>
        intro want2
        apply wpAny_handleBy_nil
        obtain ⟨_, _, _, o3, fs3, T, _, _, e3, _, d3, v3, _⟩ := id fly
        have on : wpAny (model X.prog X.w) X.A (setFlight (.ref a) X.env.frame) (fun _ s4 => wpAny (model X.prog X.w) X.A (throw (.ref a) : Sem Flow) (SP X pins D) X.xe s4) X.xe { t with heap := g } := by
          rw [hf]
          exact HandSPX.setFlight_upZ fly fun g4 held up4 => wpAny_throw (tk _ _ ⟨a, B, sI, pins, τ, G, cls, d, rfl, J, nb, (up.trans upg).trans up4, .inr (.inr (hs.symm ▸ held)), na, eos, bare, want2⟩)
        unfold PySem.passOn
        refine wpAny_bind (wpAny_field e3 d3 v3 ?_)
        have nn : ¬ ((Value.ref T == Value.none) = true) := by simp
        rw [if_neg nn]
        first
          | exact wpAny_bind on
          | exact wpAny_bind (wpAny_pure (wpAny_bind on))
      | @cons x cl ts b1 bs q1 q2 hs3 l3 nm su rest ih =>
        rintro ⟨hit, isHit, yes, no⟩
        have sut := Jg.suite hob hdat na neL neF
        have cname : ∀ {Q E : Value → Shared → Prop}, Q cl { t with heap := g } → wpAny (model X.prog X.w) (X.A.mark (some (.ref a))) (eval (.Name x q1) X.env) Q E { t with heap := g } := by
          intro Q E q
          obtain ⟨gl, dbg, m1 | ⟨m1, m2, m3⟩⟩ := nm
          · exact ld_glob (X := X.suite a ((a, ob) :: (X.pn ++ pins))) sut gl m1 q dbg
          · exact ld_blt (X := X.suite a ((a, ob) :: (X.pn ++ pins))) sut gl m1 m2 q m3 dbg
        have ofCls : PySem.W.Looks (model X.prog X.w) g (typeOf (.ref a)) cls := fun A Q E s k q => wpAny_typeOf_ref (k _ _ hob) (hzc.1 ▸ q)
        refine wpAny_handleBy_cons (codeAny_handlers_test (cname ((PySem.W.exm_one (M := model X.prog X.w) Jg.kIn ofCls isHit).here ?_))) (by intro q; cases q)
        match hit, yes, no with
        | false, _, no => exact ih (no rfl)
        | true, yes, _ =>
          apply codeAny_handlers_suite_as
          refine HandSPX.lands_againZ fly fun g4 fly4 up4 => ?_
          obtain ⟨ob4, fs4, hob4, hzc4, hdat4⟩ := fly4.there
          have J4 : Inv X pins τ G { t with heap := g4 } := J.landed nb fly4.1 ((up.trans upg).trans up4) eos bare
          refine store_ok (X := X.suite a ((a, ob4) :: (X.pn ++ pins))) (v := .ref a) (J4.suite hob4 hdat4 na neL neF) nd hi (.inl hl) rfl (fun s5 J5 => ?_) (.inr hl)
          have bye : ∀ {s6 : Shared} {τ6 : L2.St} {G6 : Hp} {Q : Shared → Prop}, Inv (X.suite a ((a, ob4) :: (X.pn ++ pins))) [] τ6 G6 s6 → (∀ s7, Inv X pins (τ6.set i none) G6 s7 → Q s7) →
              wpAny (model X.prog X.w) X.A (do bindName X.env n .none; unbindBehindTheSuite X.env n q2) (fun _ s7 => Q s7) X.xe s6 := fun J6 k => gone_ok (J6.unsuite ok) nd hi hl k
          refine wpAny_mono ((su a ob4 cls d (X.pn ++ pins) hzc4 ⟨_, hdat4⟩).run [] s5 _ G _ J5 (yes rfl a na)) (fun f s6 end6 => ?_) (fun _ _ z => z.elim)
          cases f with
          | next => obtain ⟨τ6, G6, J6, q6⟩ := end6; exact bye J6 fun s7 J7 => ⟨_, _, J7, q6⟩
          | brk => obtain ⟨τ6, G6, J6, q6⟩ := end6; exact bye J6 fun s7 J7 => ⟨_, _, J7, q6⟩
          | cont => obtain ⟨τ6, G6, J6, q6⟩ := end6; exact bye J6 fun s7 J7 => ⟨_, _, J7, q6⟩
          | ret u6 => obtain ⟨v6, τ6, G6, J6, r6, q6⟩ := end6; exact bye J6 fun s7 J7 => ⟨_, _, _, J7, r6, q6⟩
    exact key hc want
  refine wpAny_Try_except (wpAny_mono ((hb (wEach X.K i Wout D l) (X.pn ++ pins) look caught PassesOwn.looking).run [] s σ H D (I.toTry _) h) (fun f t end1 => ?_) (fun e t he => he))
  cases f with
  | next => obtain ⟨τ, G, J, q⟩ := end1; exact wpAny_execs_nil ⟨τ, G, J.ofTry ok, q⟩
  | brk => obtain ⟨τ, G, J, q⟩ := end1; exact ⟨τ, G, J.ofTry ok, q⟩
  | cont => obtain ⟨τ, G, J, q⟩ := end1; exact ⟨τ, G, J.ofTry ok, q⟩
  | ret r => obtain ⟨v, τ, G, J, rr, q⟩ := end1; exact ⟨v, τ, G, J.ofTry ok, rr, q⟩
end
end TA

set_option maxHeartbeats 3900000
namespace Z
open PySem PySem.Spec PyProof.Rows L2 TL LamX
open C8 (pss_cut tCut pe_gc)
open CB XW TA
abbrev sTried : Stmt := top 33
/-- what is made of the errors -/
def TEch (CP CQ : Addr) (Q : VK) : XK := fun cls d H => ∃ dx x, d = some dx ∧
  ((cls = .ref CP ∧ H dx = some (.xd [("thing", x)]) ∧ ∀ t, H t = none → Q (.ref t) (upd H t (.tup [.str "pattern", x]))) ∨
   (cls = .ref CQ ∧ H dx = some (.xd [("path", x)]) ∧ ∀ t, H t = none → Q (.ref t) (upd H t (.tup [.str "path", x]))))
def TTr (CP CQ : Addr) : (XK → Hp → VK → Prop) → Hp → VK → Prop := fun tl H Q => ∀ R : VK, (∀ v H1, (∀ t, H1 t = none → Q (.ref t) (upd H1 t (.tup [.str "told", v]))) → R v H1) → tl (TEch CP CQ Q) H R
/-- what is thrown knows how many names there are -/
theorem takes_len {X : Cx} {W : WX} (t : Takes X W) : Takes X (fun cls d σ H => σ.length = X.N.length → W cls d σ H) := fun u s' ⟨a, B, sI, pins, σ, H, cls, d, e, I, nb, up, sky, na, os, ag, h⟩ =>
  t u s' ⟨a, B, sI, pins, σ, H, cls, d, e, I, nb, up, sky, na, os, ag, h I.len⟩
theorem scTried : FnScope ["_law_ask", "_law_found", "e"] ["_law_ask"] (defScope sTried) := ⟨rfl, rfl, rfl, by decide +kernel, rfl, by decide +kernel, by decide +kernel⟩
theorem tried_gives {X : Cx} {CP CQ fP fQ g : Addr} {cdg : Value} {q : Str} (BP : BPat X.K X.mg CP fP) (BQ : BPath X.K X.mg CQ fQ) (no : PySem.W.exmOne X.K (.ref CQ) (.ref CP) = some false) :
    GivesTo X ["_law_ask", "_law_found", "e"] "_law_tried" (defScope sTried) g cdg (defBody sTried) "_law_ask" q (TTr CP CQ) := by
  intro f c' s H Q tl act hc h
  refine ⟨_, pss_cons (ps_try_each (X := (cxOf C8.CX0 X.prog X.w X.K X.mg X.base ["_law_ask", "_law_found", "e"] "_law_tried" (defScope sTried) g cdg X.A X.stack s H C8.E0).nox) (i := 2)
      (l := [(.ref CP, fun a cls d => tAsg (tTup (tCons (tC (.str "pattern")) (tCons (tXf a cls d CP "thing" (tVar 2)) tNil))) (gName 1)), (.ref CQ, fun a cls d => tAsg (tTup (tCons (tC (.str "path")) (tCons (tXf a cls d CQ "path" (tVar 2)) tNil))) (gName 1))])
      (tb := fun W D σ H => ∃ Ech : XK, (∀ cls d σ' H', Ech cls d H' → σ'.length = 3 → W cls d σ' H') ∧ tAsg (tTup (tCons (tC (.str "told")) (tCons (fun σZ HZ Q => σZ[0]? = some (some (.ref f)) ∧ HZ c' = some (CodeO c' q) ∧ tl Ech HZ Q) tNil))) (gName 1) D σ H)
      (Wout := fun _ _ _ _ => False) rfl rfl scTried.nd rfl rfl L2.takes0 (fun W pn xe tk _ => ⟨fun pins s' σ H' D I h' => ?_⟩)
      (.cons ⟨rfl, by decide, Or.inl BP.mg⟩ (fun a ob cls d pn hz hf => pss_one (ps_set (i := 1) scTried.nd rfl (Or.inl rfl) (by exact (pe_tup (pa_cons pe_str (pa_cons (pe_xf BP.xf BP.no hz hf (pv 2)) pa_nil))))))
      (.cons ⟨rfl, by decide, Or.inl BQ.mg⟩ (fun a ob cls d pn hz hf => pss_one (ps_set (i := 1) scTried.nd rfl (Or.inl rfl) (by exact (pe_tup (pa_cons pe_str (pa_cons (pe_xf BQ.xf BQ.no hz hf (pv 2)) pa_nil)))))) .nil)))
    (pss_one (ps_ret (pv 1))), ?_⟩
  · obtain ⟨Ech, hW, h1⟩ := h'
    have hp := fun p1 p2 => act _ pn xe Ech p1 p2 (takes_len tk) hW
    exact (pss_one (ps_set (i := 1) scTried.nd rfl (Or.inl rfl) (by exact (pe_tup (pa_cons pe_str (pa_cons (hp _ _) pa_nil)))))).run pins s' σ H' D I h1
  · refine ⟨TEch CP CQ Q, fun cls d σ' H' hE len => ?_, ?_⟩
    · obtain ⟨u0, u1, u2, rfl⟩ : ∃ u0 u1 u2, σ' = [u0, u1, u2] := by
        match σ', len with
        | [a, b, c], _ => exact ⟨a, b, c, rfl⟩
      obtain ⟨dx, x, rfl, ⟨rfl, hx, k⟩ | ⟨rfl, hx, k⟩⟩ := hE
      · refine ⟨true, BP.te, fun _ a ha => ?_, fun z => Bool.noConfusion z⟩
        refine ⟨_, rfl, rfl, rfl, dx, _, x, rfl, hx, by simp [List.lookup], by show 2 ≤ sizeLine; decide, fun p hp => ?_⟩
        exact ⟨_, rfl, k p hp⟩
      · refine ⟨false, no, fun z => Bool.noConfusion z, fun _ => ⟨true, BQ.te, fun _ a ha => ?_, fun z => Bool.noConfusion z⟩⟩
        refine ⟨_, rfl, rfl, rfl, dx, _, x, rfl, hx, by simp [List.lookup], by show 2 ≤ sizeLine; decide, fun p hp => ?_⟩
        exact ⟨_, rfl, k p hp⟩
    · refine ⟨rfl, hc, h _ fun v H1 k => ⟨by show 2 ≤ sizeLine; decide, fun t ht => ⟨_, rfl, k t ht⟩⟩⟩
end Z

set_option maxHeartbeats 3900000
/-! repr of data; defs that are called where no repr is under way. -/
namespace RP
open PySem PySem.Spec PyProof.Rows L2
/-- a key as data -/
def kD : Key → PyData
  | .inl i => .int i
  | .inr x => .str x
mutual
/-- what the value v is, read off the tracked heap -/
inductive Dq (K : PySem.W.Frag) (H : Hp) : V → PyData → Prop
  | non : Dq K H .non .none
  | bl (b : Bool) : Dq K H (.bl b) (.bool b)
  | int (i : Int) : Dq K H (.int i) (.int i)
  | str (x : Str) : Dq K H (.str x) (.str x)
  | lst {a : Addr} {xs : List V} {ds : List PyData} : H a = some (.lst xs) → DqAll K H xs ds → Dq K H (.ref a) (.list ds)
  | tup {a : Addr} {xs : List V} {ds : List PyData} : H a = some (.tup xs) → DqAll K H xs ds → Dq K H (.ref a) (.tuple ds)
  | dct {a : Addr} {kvs : List (Key × V)} {ds : List PyData} : H a = some (.dK kvs) → DqAll K H (kvs.map (·.2)) ds → Dq K H (.ref a) (.dict ((kvs.map fun p => kD p.1).zip ds))
inductive DqAll (K : PySem.W.Frag) (H : Hp) : List V → List PyData → Prop
  | nil : DqAll K H [] []
  | cons {v : V} {vs : List V} {d : PyData} {ds : List PyData} : Dq K H v d → DqAll K H vs ds → DqAll K H (v :: vs) (d :: ds)
end
mutual
theorem Dq.up {K : PySem.W.Frag} {H H' : Hp} (e : ∀ a o, H a = some o → H' a = some o) : ∀ {v : V} {d : PyData}, Dq K H v d → Dq K H' v d
  | _, _, .non => .non
  | _, _, .bl b => .bl b
  | _, _, .int i => .int i
  | _, _, .str x => .str x
  | _, _, .lst h t => .lst (e _ _ h) (DqAll.up e t)
  | _, _, .tup h t => .tup (e _ _ h) (DqAll.up e t)
  | _, _, .dct h t => .dct (e _ _ h) (DqAll.up e t)
theorem DqAll.up {K : PySem.W.Frag} {H H' : Hp} (e : ∀ a o, H a = some o → H' a = some o) : ∀ {vs : List V} {ds : List PyData}, DqAll K H vs ds → DqAll K H' vs ds
  | _, _, .nil => .nil
  | _, _, .cons h t => .cons (Dq.up e h) (DqAll.up e t)
end
theorem DqAll.length {K : PySem.W.Frag} {H : Hp} : ∀ {vs : List V} {ds : List PyData}, DqAll K H vs ds → vs.length = ds.length
  | _, _, .nil => rfl
  | _, _, .cons _ t => congrArg Nat.succ t.length
section
variable {X : Cx} {pins : List (Addr × Obj)} {σ : L2.St} {H : Hp} {s : Shared}
/-- sys.modules is no tracked object -/
theorem not_sys (I : Inv X pins σ H s) (SM : (X.base.get? sysModules).isSome = true) {a : Addr} {o : HO} (h : H a = some o) : a ≠ sysModules := fun z => by
  obtain ⟨u, hu⟩ := Option.isSome_iff_exists.mp SM
  have := (I.bs _ _ hu).2
  rw [← z, h] at this
  cases this
theorem keys_read {P : Program} {w : World} {h : Heap} : ∀ {es : List DictEntry} {kvs : List (Key × V)} {vs : List (Key × Value)}, Pairs (mixKind P w) es vs → KV kvs vs → ReadsAll h (es.map (·.key)) (kvs.map fun p => kD p.1) []
  | _, _, _, .nil, .nil => .nil
  | _, _, _, .cons (e := e) (kv := kv) k1 _ t, .cons r q => by
    have ih := keys_read (h := h) t q
    obtain ⟨e1, _⟩ := r
    rw [List.map_cons, List.map_cons, e1]
    have k1' : keyIs kv.1 e.key = true := k1
    rcases keyIs_shape k1' with ⟨i, t, hk, hv⟩ | ⟨x, t, hk, hv⟩
    · rw [hk, hv]
      exact .cons (.int i t) ih
    · rw [hk, hv]
      exact .cons (.str x t) ih
theorem vals_read {P : Program} {w : World} : ∀ {es : List DictEntry} {kvs : List (Key × V)} {vs : List (Key × Value)}, Pairs (mixKind P w) es vs → KV kvs vs → Vals (kvs.map (·.2)) (es.map (·.val))
  | _, _, _, .nil, .nil => .nil
  | _, _, _, .cons _ k2 t, .cons r q => by
    have ih := vals_read t q
    obtain ⟨_, e2⟩ := r
    rw [List.map_cons, List.map_cons, k2]
    exact .cons e2 ih
mutual
theorem Dq.reads (I : Inv X pins σ H s) (SM : (X.base.get? sysModules).isSome = true) : ∀ {v : V} {d : PyData} {u : Value}, Dq X.K H v d → RelV v u → ∃ as, Reads s.heap u d as ∧ sysModules ∉ as
  | _, _, _, .non, r => by
    cases r
    exact ⟨_, Reads.none, by simp⟩
  | _, _, _, .bl b, r => by
    cases r
    exact ⟨_, Reads.bool b, by simp⟩
  | _, _, _, .int i, r => by
    obtain ⟨t, rfl⟩ := r
    exact ⟨_, Reads.int i t, by simp⟩
  | _, _, _, .str x, r => by
    obtain ⟨t, rfl⟩ := r
    exact ⟨_, Reads.str x t, by simp⟩
  | _, _, _, .lst (a := a) h ha, r => by
    cases r
    obtain ⟨_, its, n, rv, ho⟩ := (show ObjOk X.prog X.w H s.heap a (.lst _) from I.hok a _ h)
    obtain ⟨as, hr, hn⟩ := DqAll.reads I SM ha rv
    exact ⟨_, Reads.list ho rfl rfl hr, by
      intro z
      rcases List.mem_cons.mp z with z | z
      · exact not_sys I SM h z.symm
      · exact hn z⟩
  | _, _, _, .tup (a := a) h ha, r => by
    cases r
    obtain ⟨_, its, rv, o, ho, hc, n, hd⟩ := (show ObjOk X.prog X.w H s.heap a (.tup _) from I.hok a _ h)
    obtain ⟨as, hr, hn⟩ := DqAll.reads I SM ha rv
    exact ⟨_, Reads.tuple ho hc hd hr, hn⟩
  | _, _, _, .dct (a := a) (kvs := kvs) (ds := ds) h ha, r => by
    cases r
    obtain ⟨_, _, vs, rel, o, es, ep, ho, ex, hd, _, pr, _⟩ := (show ObjOk X.prog X.w H s.heap a (.dK kvs) from I.hok a _ h)
    obtain ⟨bs, hr, hn⟩ := DqAll.reads I SM ha (vals_read pr rel)
    have le : (kvs.map fun p => kD p.1).length = ds.length := by
      have := ha.length
      rw [List.length_map] at this ⊢
      exact this
    refine ⟨_, Reads.dict ho ex.1 hd (as := []) (bs := bs) ?_ ?_, ?_⟩
    · rw [List.map_fst_zip (by omega)]
      exact keys_read pr rel
    · rw [List.map_snd_zip (by omega)]
      exact hr
    · intro z
      rcases List.mem_cons.mp z with z | z
      · exact not_sys I SM h z.symm
      · exact hn z
theorem DqAll.reads (I : Inv X pins σ H s) (SM : (X.base.get? sysModules).isSome = true) : ∀ {vs : List V} {ds : List PyData} {us : List Value}, DqAll X.K H vs ds → Vals vs us → ∃ as, ReadsAll s.heap us ds as ∧ sysModules ∉ as
  | _, _, _, .nil, r => by
    cases r
    exact ⟨_, ReadsAll.nil, by simp⟩
  | _, _, _, .cons h t, r => by
    cases r with
    | cons r1 r2 =>
      obtain ⟨as, q1, n1⟩ := Dq.reads I SM h r1
      obtain ⟨bs, q2, n2⟩ := DqAll.reads I SM t r2
      exact ⟨_, ReadsAll.cons q1 q2, by
        intro z
        rcases List.mem_append.mp z with z | z
        · exact n1 z
        · exact n2 z⟩
end
/-- repr(x) -/
def rRep (K : PySem.W.Frag) : List V → Hp → VK → Prop := fun xs H Q => ∃ (v : V) (d : PyData), xs = [v] ∧ Dq K H v d ∧ d.showable = true ∧ d.depth ≤ 20 ∧ d.shown.length ≤ sizeLine ∧ Q (.str d.shown) H
theorem call_repr (SM : (X.base.get? sysModules).isSome = true) (hg : X.A.guards = some []) (hu : X.A.units + 64 < cLine) : CallR X (.builtin "repr") (rRep X.K) := by
  intro pins s σ H xs us Q I r h
  obtain ⟨v, d, rfl, hd, sh, dp, sz, q⟩ := h
  cases r with
  | cons rx rr =>
    cases rr
    obtain ⟨as, hr, hn⟩ := hd.reads I SM rx
    have fin : ∀ h' u tk, (∀ b o, s.heap.get? b = some o → h'.get? b = some o) → EP X pins σ Q (.str d.shown u) { s with heap := h', toks := tk } := fun h' u tk k => ⟨.str d.shown, H, I.kept (t' := tk) k, ⟨u, rfl⟩, q⟩
    cases hd with
    | non =>
      cases rx
      exact PySem.P.repr_of_none (fin s.heap _ _ fun _ _ e => e)
    | bl b =>
      cases rx
      exact PySem.P.repr_of_bool (fin s.heap _ _ fun _ _ e => e)
    | int i =>
      obtain ⟨t, rfl⟩ := rx
      exact PySem.P.repr_of_int (of_decide_eq_true sh) (fin s.heap _ _ fun _ _ e => e)
    | str x =>
      obtain ⟨t, rfl⟩ := rx
      exact PySem.P.repr_of_str (fin s.heap _ _ fun _ _ e => e) sz
    | lst h1 h2 =>
      cases rx
      exact PySem.repr_of_reads' hr sh (fun _ => hn) hg (by omega) (fun _ _ e => e) fin sz
    | tup h1 h2 =>
      cases rx
      exact PySem.repr_of_reads' hr sh (fun _ => hn) hg (by omega) (fun _ _ e => e) fin sz
    | dct h1 h2 =>
      cases rx
      exact PySem.repr_of_reads' hr sh (fun _ => hn) hg (by omega) (fun _ _ e => e) fin sz
end
/-! ### defs that are called where no repr is under way -/
structure FnG (P : Program) (w : World) (K : PySem.W.Frag) (mg : Str → Option Value) (base : Heap) (CX : CXT) (k : Nat) (f : Addr) (fd : FuncData) (ps : List Str) (sp : Sp) : Prop where
  len : ∀ vs H Q E, sp vs H Q E → vs.length = ps.length
  run : ∀ (A : Around) (outer : List Env) (s : Shared) (H : Hp) (args : Args) (us : List Value) (vs : List V) (Q : VK) (E : XK), A.guards = some [] → Room k A → Env0 P w K mg base A outer s H → BindsTo s fd args (ps.zip us) → Vals vs us → sp vs H Q E →
    codeAny (model P w) A (.call (.ref f) args) (CR CX outer P w H s Q E) s
theorem FnG.of {P : Program} {w : World} {K : PySem.W.Frag} {mg : Str → Option Value} {base : Heap} {CX : CXT} {k : Nat} {f : Addr} {fd : FuncData} {ps : List Str} {sp : Sp} (F : FnOk P w K mg base CX k f fd ps sp) : FnG P w K mg base CX k f fd ps sp :=
  ⟨F.len, fun A outer s H args us vs Q E _ hr e0 hb rv q => F.run A outer s H args us vs Q E hr e0 hb rv q⟩
theorem okG {P : Program} {w : World} {K : PySem.W.Frag} {mg : Str → Option Value} {base : Heap} {x qual : Str} {st : Stmt} {f : Addr} {fd : FuncData} {N ps : List Str} {k : Nat} {sp : Sp} (F : Fun K x qual st f fd) (S : FnScope N ps (defScope st))
    (len : ∀ vs H Q E, sp vs H Q E → vs.length = ps.length)
    (body : ∀ (cdv : Value) (A : Around) (outer : List Env) (s : Shared) (H : Hp) (vs : List V) (Q : VK) (E : XK), A.guards = some [] → Room k (A.deeper (envOfC qual (defScope st) s.heap.objs.size f cdv)) → sp vs H Q E →
      ∃ t, PSs (cxOf CX0 P w K mg base N qual (defScope st) f cdv A outer s H E).nox (defBody st) t ∧ t { nx := fun _ H' => Q .non H', rt := Q } (start N vs) H) : FnG P w K mg base CX0 (k + 1) f fd ps sp := by
  obtain ⟨oc, od, kV, doc, pm, an, cdv, ct, osl, rfl, lk, hcd⟩ := F.ex
  refine ⟨len, fun A outer s H args us vs Q E hg hr e0 hb rv q => ?_⟩
  refine LamX.run_ofS lk hcd S hr e0 hb rv (len _ _ _ _ q) fun hr' => ?_
  obtain ⟨t, h1, h2⟩ := body cdv A outer s H vs Q E hg hr' q
  exact ⟨t, h1.nox, h2⟩
section
variable {X : Cx} {CX : CXT} {k : Nat} {f : Addr} {fd : FuncData} {ps : List Str} {sp : Sp} {E : XK} {x : Str} {p pos : Pos} {e : Expr} {es : List Expr} {t : TA}
theorem pe_callG (F : FnG X.prog X.w X.K X.mg X.base CX k f fd ps sp) (hG : X.A.guards = some []) (hr : Room k X.A) (hg : Gl X x) (hm : X.mg x = some (.ref f)) (hk : PySem.W.keepIn X.K (.ref f) = true) (hb : Binds X.K fd ps []) (hx : Passes CX X E)
    (ha : PA X (e :: es) t) (hdb : (x == ("__debug__" : Str)) = false := by decide) (he : starEach (e :: es) X.env = (false, eval e X.env) :: starEach es X.env := by rfl) (hpl : (backTo pos (starEach es X.env)).any (·.1) = false := by rfl) :
    PE X (.Call (.Name x p) (e :: es) [] pos) (tCall sp [] E t) := by
  refine ⟨fun pins s σ H Q I h => ?_⟩
  refine wpAny_Call_Name_kw (ld_glob I hg hm ?_ hdb)
  refine PySem.W.callWith_K (h₀ := X.base) I.ok.mod.kin hk (thn (ha.run pos pins s σ H _ I h) fun us s1 ⟨vs, H1, I1, r, q⟩ => ⟨I1.kIn, ?_⟩) he hpl
  have q : sp vs H1 Q E := by
    have z : sp (vs ++ []) H1 Q E := q
    rw [List.append_nil] at z
    exact z
  have hl : us.length = ps.length := r.length.symm.trans (F.len _ _ _ _ q)
  have hbt := hb s1 us I1.kIn (by rw [List.append_nil]; exact hl)
  rw [List.append_nil] at hbt
  refine wpAny_call (codeAny_mono (F.run X.A X.stack s1 H1 ⟨us, []⟩ us vs Q E hG hr I1.env0 hbt r q) fun r s' hq => ?_)
  cases r with
  | error e => exact hx pins σ H1 s1 e s' I1 hq
  | ok fl =>
    cases fl with
    | ret u => exact I1.after hq
    | next => exact False.elim hq
    | brk => exact False.elim hq
    | cont => exact False.elim hq
end
end RP

set_option maxHeartbeats 3900000
namespace Z
open PySem PySem.Spec PyProof.Rows L2 TL RP
open C8 (pss_cut tCut pe_gc)
open CB
structure Fine (d : PyData) (dep n : Nat) : Prop where
  sh : d.showable = true
  dp : d.depth ≤ dep
  sz : d.shown.length ≤ n
theorem piled_le : ∀ (ts : List Str) (n : Nat), (∀ t ∈ ts, t.length ≤ n) → piled ts ≤ ts.length * (n + 2)
  | [], n, _ => by
    rw [piled_nil]
    omega
  | t :: r, n, h => by
    have ih := piled_le r n fun u hu => h u (List.mem_cons_of_mem _ hu)
    have h1 := h t List.mem_cons_self
    rw [piled_cons, List.length_cons, Nat.succ_mul]
    omega
theorem listText_le (ts : List Str) (n : Nat) (h : ∀ t ∈ ts, t.length ≤ n) : (listText ts).length ≤ 2 + ts.length * (n + 2) := by
  have pl := piled_le ts n h
  cases ts with
  | nil =>
    show 2 ≤ 2 + 0 * (n + 2)
    omega
  | cons t r =>
    have e : (listText (t :: r)).length = (textFrom 1 (("[" : Str) ++ (if 0 > 0 then ", " else "" : String) ++ t) r).length + 1 := by
      show ((textFrom 0 "[" (t :: r)) ++ ("]" : String)).length = _
      rw [strLen_append]
      rfl
    rw [e, textFrom_length_pos r 1 _ (by decide), strLen_append, strLen_append]
    rw [piled_cons] at pl
    have e1 : (("[" : String) : Str).length = 1 := rfl
    have e2 : (((if 0 > 0 then ", " else "" : String)) : Str).length = 0 := rfl
    rw [e1, e2]
    omega
theorem tupText_le (a b : Str) (n : Nat) (ha : a.length ≤ n) (hb : b.length ≤ n) : (tupleText [a, b]).length ≤ 2 * n + 6 := by
  unfold tupleText
  rw [strLen_append, strLen_append]
  have h := join_length_add [a, b] (by simp)
  rw [piled_cons, piled_cons, piled_nil] at h
  have e1 : ((("(" : String) : Str)).length = 1 := rfl
  have e3 : (((if [a, b].length == 1 then ",)" else ")" : String) : Str)).length = 1 := rfl
  rw [e1, e3]
  omega
theorem shown_mem : ∀ {ds : List PyData} {t : Str}, t ∈ PyData.shownAll ds → ∃ d ∈ ds, t = d.shown
  | [], t, h => by simp [PyData.shownAll] at h
  | d :: r, t, h => by
    simp only [PyData.shownAll] at h
    rcases List.mem_cons.mp h with rfl | h
    · exact ⟨d, List.mem_cons_self, rfl⟩
    · obtain ⟨e, he, q⟩ := shown_mem h
      exact ⟨e, List.mem_cons_of_mem _ he, q⟩
theorem shownAll_len : ∀ ds : List PyData, (PyData.shownAll ds).length = ds.length
  | [] => by simp [PyData.shownAll]
  | d :: r => by simp [PyData.shownAll, shownAll_len r]
theorem showAll : ∀ ds : List PyData, (∀ d ∈ ds, d.showable = true) → PyData.showableAll ds = true
  | [], _ => by simp [PyData.showableAll]
  | d :: r, h => by simp [PyData.showableAll, h d List.mem_cons_self, showAll r fun u hu => h u (List.mem_cons_of_mem _ hu)]
theorem depAll (n : Nat) : ∀ ds : List PyData, (∀ d ∈ ds, d.depth ≤ n) → PyData.depthAll ds ≤ n
  | [], _ => by simp [PyData.depthAll]
  | d :: r, h => by
    have h1 := h d List.mem_cons_self
    have h2 := depAll n r fun u hu => h u (List.mem_cons_of_mem _ hu)
    simp only [PyData.depthAll]
    omega
theorem Fine.lst {ds : List PyData} {dep n m : Nat} (h : ∀ d ∈ ds, Fine d dep n) (hm : 2 + ds.length * (n + 2) ≤ m) : Fine (.list ds) (dep + 1) m := by
  refine ⟨?_, ?_, ?_⟩
  · simp only [PyData.showable]
    exact showAll ds fun d hd => (h d hd).sh
  · simp only [PyData.depth]
    exact Nat.succ_le_succ (depAll dep ds fun d hd => (h d hd).dp)
  · simp only [PyData.shown]
    have q := listText_le (PyData.shownAll ds) n fun t ht => by
      obtain ⟨d, hd, rfl⟩ := shown_mem ht
      exact (h d hd).sz
    rw [shownAll_len] at q
    exact Nat.le_trans q hm
theorem Fine.pair {a b : PyData} {dep n : Nat} (ha : Fine a dep n) (hb : Fine b dep n) : Fine (.tuple [a, b]) (dep + 1) (2 * n + 6) := by
  refine ⟨?_, ?_, ?_⟩
  · simp only [PyData.showable]
    exact showAll [a, b] fun d hd => by
      rcases List.mem_cons.mp hd with rfl | hd
      · exact ha.sh
      · rw [List.mem_singleton.mp hd]; exact hb.sh
  · simp only [PyData.depth]
    exact Nat.succ_le_succ (depAll dep [a, b] fun d hd => by
      rcases List.mem_cons.mp hd with rfl | hd
      · exact ha.dp
      · rw [List.mem_singleton.mp hd]; exact hb.dp)
  · simp only [PyData.shown, PyData.shownAll]
    exact tupText_le _ _ n ha.sz hb.sz
theorem fine_bool (b : Bool) : Fine (.bool b) 0 10 := ⟨by simp [PyData.showable], by simp [PyData.depth], by cases b <;> (simp only [PyData.shown]; decide)⟩
def strL (l : List Str) : PyData := .list (l.map .str)
theorem dq_strs {K : PySem.W.Frag} {H : Hp} : ∀ l : List Str, DqAll K H (l.map V.str) (l.map PyData.str)
  | [] => .nil
  | z :: r => .cons (.str z) (dq_strs r)
theorem dq_strL {K : PySem.W.Frag} {H : Hp} {a : Addr} {l : List Str} (h : H a = some (.lst (l.map V.str))) : Dq K H (.ref a) (strL l) := .lst h (dq_strs l)
theorem Fine.up {d : PyData} {a n b m : Nat} (h : Fine d a n) (h1 : a ≤ b) (h2 : n ≤ m) : Fine d b m := ⟨h.sh, Nat.le_trans h.dp h1, Nat.le_trans h.sz h2⟩
theorem tupTextN_le (ts : List Str) (n : Nat) (h : ∀ t ∈ ts, t.length ≤ n) : (tupleText ts).length ≤ 3 + ts.length * (n + 2) := by
  have pl := piled_le ts n h
  unfold tupleText
  rw [strLen_append, strLen_append]
  have e1 : ((("(" : String) : Str)).length = 1 := rfl
  have e3 : (((if ts.length == 1 then ",)" else ")" : String) : Str)).length ≤ 2 := by
    by_cases q : (ts.length == 1) = true
    · rw [if_pos q]
      exact Nat.le_refl _
    · rw [if_neg q]
      exact Nat.le_succ _
  by_cases e : ts = []
  · subst e
    have e4 : ((Str.ofString ", ").join ([] : List Str)).length = 0 := by decide +kernel
    rw [e1, e4]
    omega
  · have j := join_length_add ts e
    rw [e1]
    omega
theorem Fine.tup {ds : List PyData} {dep n m : Nat} (h : ∀ d ∈ ds, Fine d dep n) (hm : 3 + ds.length * (n + 2) ≤ m) : Fine (.tuple ds) (dep + 1) m := by
  refine ⟨?_, ?_, ?_⟩
  · simp only [PyData.showable]
    exact showAll ds fun d hd => (h d hd).sh
  · simp only [PyData.depth]
    exact Nat.succ_le_succ (depAll dep ds fun d hd => (h d hd).dp)
  · simp only [PyData.shown]
    have q := tupTextN_le (PyData.shownAll ds) n fun t ht => by
      obtain ⟨d, hd, rfl⟩ := shown_mem ht
      exact (h d hd).sz
    rw [shownAll_len] at q
    exact Nat.le_trans q hm
theorem fine_str {z : Str} {n : Nat} (hc : ∀ c ∈ tl z, c < 16 ^ 8) (hn : z.length ≤ n) : Fine (.str z) 0 (10 * n + 2) := by
  refine ⟨by simp [PyData.showable], by simp [PyData.depth], ?_⟩
  have q := PySem.StrLaws.reprText_len z hc
  simp only [PyData.shown]
  omega
theorem fine_non : Fine .none 0 10 := ⟨by simp [PyData.showable], by simp [PyData.depth], by simp only [PyData.shown]; decide⟩
end Z

set_option maxHeartbeats 3900000
namespace Z
open PySem PySem.Spec PyProof.Rows L2 TL RP
open C8 (pss_cut tCut pe_gc)
open CB
abbrev sSame : Stmt := top 26
def spSame (K : PySem.W.Frag) : Sp := fun vs H Q _ => ∃ (v u : V) (d : PyData), vs = [v, u] ∧ Dq K H v d ∧ Dq K H u d ∧ Fine d 20 100000 ∧ Q (.bl true) H
section
variable {P : Program} {w : World} {K : PySem.W.Frag} {mg : Str → Option Value} {base : Heap} {C CB fB fAn : Addr} {fdAn : FuncData}
theorem scSame : FnScope ["_law_found", "_law_due"] ["_law_found", "_law_due"] (defScope sSame) := ⟨rfl, rfl, rfl, by decide +kernel, rfl, by decide +kernel, by decide +kernel⟩
theorem ok_same {f : Addr} {fd : FuncData} (F : Fun K "_law_same" "_law_same" sSame f fd) (mRepr : mg "repr" = none) (SM : (base.get? sysModules).isSome = true) : FnG P w K mg base CX0 1 f fd ["_law_found", "_law_due"] (spSame K) := by
  refine okG F scSame (fun vs H Q E h => ?_) (fun cdv A outer s H vs Q E hg hr h => ?_)
  · obtain ⟨v, u, d, rfl, _⟩ := h
    rfl
  · obtain ⟨v, u, d, rfl, h1, h2, fi, k⟩ := h
    have hu := hr.units
    have sz' : d.shown.length ≤ sizeLine := Nat.le_trans fi.sz (by decide)
    refine ⟨_, pss_one (ps_ret (pe_cmpR op_eq (pe_callB (call_repr SM hg hu) (by rfl) mRepr (by decide +kernel) (pa_cons (pv 0) pa_nil)) (pe_callB (call_repr SM hg hu) (by rfl) mRepr (by decide +kernel) (pa_cons (pv 1) pa_nil)) (nomark _))), ?_⟩
    refine ⟨_, rfl, v, d, rfl, h1, fi.sh, fi.dp, sz', _, rfl, u, d, rfl, h2, fi.sh, fi.dp, sz', rfl, ?_⟩
    show Q (.bl (decide (V.str d.shown = V.str d.shown))) H
    rw [decide_eq_true rfl]
    exact k
end
end Z

set_option maxHeartbeats 3900000
namespace Z
open PySem PySem.Spec PyProof.Rows L2 TL RP LamX
open C8 (pss_cut tCut pe_gc)
open CB XW ZM TA
abbrev sLaw : Stmt := top 34
/-! a block, statement by statement -/
def Step (X : Cx) (st : Stmt) (A B : L2.St → Hp → Prop) : Prop := ∃ t, PS X st t ∧ ∀ (D : Ends) σ H, A σ H → (∀ σ' H', B σ' H' → D.nx σ' H') → t D σ H
def Steps (X : Cx) (ss : List Stmt) (A B : L2.St → Hp → Prop) : Prop := ∃ t, PSs X ss t ∧ ∀ (D : Ends) σ H, A σ H → (∀ σ' H', B σ' H' → D.nx σ' H') → t D σ H
theorem steps_cons {X : Cx} {st : Stmt} {ss : List Stmt} {A B C : L2.St → Hp → Prop} (h : Step X st A B) (r : Steps X ss B C) : Steps X (st :: ss) A C := by
  obtain ⟨t, p, q⟩ := h
  obtain ⟨u, p2, q2⟩ := r
  exact ⟨_, pss_cut p p2, fun D σ H a k => ⟨B, q _ σ H a fun _ _ b => b, fun σ' H' b => q2 D σ' H' b k⟩⟩
theorem steps_one {X : Cx} {st : Stmt} {A B : L2.St → Hp → Prop} (h : Step X st A B) : Steps X [st] A B := by
  obtain ⟨t, p, q⟩ := h
  exact ⟨_, pss_one p, fun D σ H a k => q D σ H a k⟩
/-- what a block itself asks -/
def tW (X : Cx) (ss : List Stmt) : TS := fun D σ H => ∀ (pins : List (Addr × Obj)) (s : Shared), Inv X pins σ H s → wpAny (model X.prog X.w) X.A (execs ss X.env) (SP X pins D) X.xe s
theorem psW {X : Cx} {ss : List Stmt} : PSs X ss (tW X ss) := ⟨fun pins s σ H D I h => h pins s I⟩
theorem Steps.wish {X : Cx} {ss : List Stmt} {A B : L2.St → Hp → Prop} (h : Steps X ss A B) {D : Ends} {σ : L2.St} {H : Hp} (a : A σ H) (k : ∀ σ' H', B σ' H' → D.nx σ' H') : tW X ss D σ H := by
  obtain ⟨t, p, q⟩ := h
  exact fun pins s I => p.run pins s σ H D I (q D σ H a k)
def forBody : Stmt → List Stmt
  | .For _ _ b _ _ => b
  | _ => []
abbrev bd (i : Nat) : Stmt := (forBody ((defBody sLaw).getD 1 (.Pass ⟨0, 0, 0, 0⟩))).getD i (.Pass ⟨0, 0, 0, 0⟩)
/-! heaps, beside the stream and the tables -/
def Bx (st l : Addr) (H H' : Hp) : Prop := ∀ b o, H b = some o → b ≠ st → b ≠ l → (∀ ps, o ≠ .tbl ps) → H' b = some o
theorem Bx.refl {st l : Addr} {H : Hp} : Bx st l H H := fun _ _ e _ _ _ => e
theorem Bx.trans {st l : Addr} {H H1 H2 : Hp} (a : Bx st l H H1) (b : Bx st l H1 H2) : Bx st l H H2 := fun c o h n1 n2 n => b c o (a c o h n1 n2 n) n1 n2 n
theorem Bx.but {st l : Addr} {H H' : Hp} (a : But st l H H') : Bx st l H H' := fun b o h n1 n2 _ => a b o h n1 n2
theorem Bx.same {st l : Addr} {H H' : Hp} (a : Same H H') : Bx st l H H' := fun b o h _ _ _ => a b o h
theorem Bx.ext {st l : Addr} {H H' : Hp} (a : ExtN H H') : Bx st l H H' := fun b o h _ _ n => a b o h n
theorem Strm.ext {H H' : Hp} {st l : Addr} {c : Nat} (S : Strm H st l c) (e : ExtN H H') : Strm H' st l c := by
  obtain ⟨ns, a, m, ⟨h1, h2⟩, r⟩ := S.ex
  exact ⟨ns, a, m, ⟨e _ _ h1 (by intro ps z; cases z), e _ _ h2 (by intro ps z; cases z)⟩, r⟩
theorem tabs_but {H H' : Hp} {st l : Addr} {c : Nat} {T : List (Addr × Str)} (h : Tabs T H) (S : Strm H st l c) (B : But st l H H') : Tabs T H' := fun p hp => by
  obtain ⟨ns, a, m, ⟨h1, h2⟩, _⟩ := S.ex
  obtain ⟨ps, t1, t2, t3⟩ := h p hp
  refine ⟨ps, B _ _ t1 (ne_of t1 h1 (by intro z; cases z)) (ne_of t1 h2 (by intro z; cases z)), t2, fun pos cv hc => ?_⟩
  obtain ⟨c0, e1, e2⟩ := t3 pos cv hc
  exact ⟨c0, e1, B _ _ e2 (ne_of e2 h1 fun z => by unfold CodeO at z; cases z) (ne_of e2 h2 fun z => by unfold CodeO at z; cases z)⟩
theorem Pool.bx {H H' : Hp} {st l p : Addr} {zs : List Str} (h : Pool H st l p zs) (B : Bx st l H H') : Pool H' st l p zs := ⟨B _ _ h.h h.n1 h.n2 (fun _ z => by cases z), h.n1, h.n2⟩
theorem tabs_put {H : Hp} {F : Addr} {xs ys : List V} {T : List (Addr × Str)} (h : Tabs T H) (hF : H F = some (.lst xs)) : Tabs T (upd H F (.lst ys)) := fun p hp => by
  obtain ⟨ps, t1, t2, t3⟩ := h p hp
  refine ⟨ps, by rw [upd_ne (ne_of t1 hF (by intro z; cases z))]; exact t1, t2, fun pos cv hc => ?_⟩
  obtain ⟨c0, e1, e2⟩ := t3 pos cv hc
  exact ⟨c0, e1, by rw [upd_ne (ne_of e2 hF fun z => by unfold CodeO at z; cases z)]; exact e2⟩
/-- drawn things that the package refuses -/
structure Dr (C : Str → Prop) [DecidablePred C] (K : PySem.W.Frag) (st l : Addr) (H : Hp) (v : V) (d : PyData) : Prop where
  vb : ∀ H', Bx st l H H' → VB C H' v false
  dq : ∀ H', Bx st l H H' → Dq K H' v d
  fi : Fine d 3 1000
theorem Dr.bx {C : Str → Prop} [DecidablePred C] {K : PySem.W.Frag} {st l : Addr} {H H' : Hp} {v : V} {d : PyData} (h : Dr C K st l H v d) (B : Bx st l H H') : Dr C K st l H' v d := ⟨fun H2 b => h.vb H2 (B.trans b), fun H2 b => h.dq H2 (B.trans b), h.fi⟩
theorem dr_str {C : Str → Prop} [DecidablePred C] {K : PySem.W.Frag} {st l : Addr} {H : Hp} {z : Str} (h : TxB C z false) (f : Fine (.str z) 3 1000) : Dr C K st l H (.str z) (.str z) := ⟨fun _ _ => .inl ⟨z, rfl, h⟩, fun _ _ => .str z, f⟩
theorem dr_non {C : Str → Prop} [DecidablePred C] {K : PySem.W.Frag} {st l : Addr} {H : Hp} : Dr C K st l H .non .none := ⟨fun _ _ => .inr ⟨rfl, .non⟩, fun _ _ => .non, ⟨by decide +kernel, by decide +kernel, by decide +kernel⟩⟩
theorem txb_no {C : Str → Prop} [DecidablePred C] {z : Str} (h : (decide (z.length ≤ 1000) && ((Txt.split z "/").all (fun y => decide (y.length ≤ 1000)) && (decide ((Txt.split z "/").length < 1000000) && !(Txt.split z "/").all fun y => decide (C y)))) = true) : TxB C z false := by
  simp only [Bool.and_eq_true, decide_eq_true_eq, List.all_eq_true, Bool.not_eq_true'] at h
  obtain ⟨h1, h2, h3, h4⟩ := h
  exact ⟨_, rfl, h1, fun y hy => h2 y hy, h3, h4⟩
/-- the call of a def that calls what it got -/
theorem pe_tried {X : Cx} {CP CQ fP fQ g c Tb : Addr} {fdT : FuncData} {params : Arguments} {body : Expr} {scope : Scope} {t : XK → TE} {p lpos pos : Pos} (FT : Fun X.K "_law_tried" "_law_tried" sTried g fdT) (aT : At X.K X.mg "_law_tried" g fdT ["_law_ask"])
    (BP : BPat X.K X.mg CP fP) (BQ : BPath X.K X.mg CQ fQ) (no : PySem.W.exmOne X.K (.ref CQ) (.ref CP) = some false) (TB : TabB X.base X.mg c Tb) (hcode : X.env.code = .ref c) (hg : Gl X "_law_tried") (hr : Room 8 X.A) (L : LamS X.env.scope scope) (hdef : defaultsOf params X.env = ([], []))
    (hbind : ∀ (q : Str) (cl : List (Str × Addr)) (pm cv ctv : Value), bindArgs (PySem.W.kla_fn "<lambda>" q params body scope cl pm cv ctv) ⟨[], []⟩ = pure [])
    (hbody : ∀ (A : Around) (outer : List Env) (s : Shared) (H : Hp) (E : XK) (f c' : Addr), Room 6 (A.deeper (lamEnv X scope s.heap.objs.size f c')) → PE (lamCx X A outer s H E scope f c') body (t E)) :
    PE X (.Call (.Name "_law_tried" p) [.Lambda params body scope lpos] [] pos) (tLam [(Tb, X.env.qual ++ "<lambda>")] (TTr CP CQ) t) := by
  obtain ⟨oc, od, kV, doc, pm, an, cdv, ct, osl, rfl, lk, hcd⟩ := FT.ex
  have b := aT.b
  exact pe_lamcall (T := [(Tb, X.env.qual ++ "<lambda>")]) hg aT.m aT.k lk hcd b scTried rfl (.inl rfl) (tried_gives BP BQ no) TB hcode (List.mem_singleton.mpr rfl) (fun p hp _ => by rw [List.mem_singleton.mp hp]) hr L hdef hbind hbody
/-! the names and places of the law -/
structure LV (P : Program) (w : World) (K : PySem.W.Frag) (mg : Str → Option Value) (base : Heap) (CP CQ fP fQ c Tb : Addr) (fa : Str → Addr) (fd : Str → FuncData) : Prop where
  T : TB mg
  BP : BPat K mg CP fP
  BQ : BPath K mg CQ fQ
  no : PySem.W.exmOne K (.ref CQ) (.ref CP) = some false
  TB : TabB base mg c Tb
  FT : Fun K "_law_tried" "_law_tried" sTried (fa "tried") (fd "tried")
  aT : At K mg "_law_tried" (fa "tried") (fd "tried") ["_law_ask"]
  aD : aD' K mg (fa "draw") (fd "draw")
  GD : FnOk P w K mg base CX0 1 (fa "draw") (fd "draw") ["_law_stream", "_law_many"] spDraw
  aP : At K mg "_law_pick" (fa "pick") (fd "pick") ["_law_stream", "_law_things"]
  GP : FnOk P w K mg base CX0 2 (fa "pick") (fd "pick") ["_law_stream", "_law_things"] spPick
  aPo : At K mg "_law_pool" (fa "pool") (fd "pool") ["_law_stream", "_law_many"]
  GPo : FnOk P w K mg base CX0 4 (fa "pool") (fd "pool") ["_law_stream", "_law_many"] spPool
  aPa : At K mg "_law_path" (fa "path") (fd "path") ["_law_stream", "_law_pool_here", "_law_most"]
  GPa : FnOk P w K mg base CX0 3 (fa "path") (fd "path") ["_law_stream", "_law_pool_here", "_law_most"] spPath
  aPattern : At K mg "_law_pattern" (fa "pattern") (fd "pattern") ["_law_stream", "_law_pool_here", "_law_most"]
  GPattern : FnOk P w K mg base CX0 3 (fa "pattern") (fd "pattern") ["_law_stream", "_law_pool_here", "_law_most"] spPattern
  aStood : At K mg "_law_stood_for" (fa "stood") (fd "stood") ["_law_stream", "_law_pool_here", "_law_pattern_here"]
  GStood : FnOk P w K mg base CX0 3 (fa "stood") (fd "stood") ["_law_stream", "_law_pool_here", "_law_pattern_here"] spStood
  aLMat : At K mg "_law_matches" (fa "lmat") (fd "lmat") ["_law_pattern_here", "_law_path_here"]
  GLMat : FnOk P w K mg base CX0 1 (fa "lmat") (fd "lmat") ["_law_pattern_here", "_law_path_here"] spLMat
  aMatches : At K mg "matches" (fa "matches") (fd "matches") ["pattern", "path"]
  GMatches : FnOk P w K mg base (CX P w) 6 (fa "matches") (fd "matches") ["pattern", "path"] (spMatches CP CQ)
  aSa : At K mg "_law_same" (fa "same") (fd "same") ["_law_found", "_law_due"]
  GSa : FnG P w K mg base CX0 1 (fa "same") (fd "same") ["_law_found", "_law_due"] (spSame K)
theorem scLaw : FnScope ["_law_script", "_law_stream", "_law_turn", "_law_pool_here", "_law_found", "_law_bad", "_law_odd", "_law_path_here", "_law_pattern_here"] ["_law_script"] (defScope sLaw) := ⟨rfl, rfl, rfl, by decide +kernel, rfl, by decide +kernel, by decide +kernel⟩
abbrev XL (P : Program) (w : World) (K : PySem.W.Frag) (mg : Str → Option Value) (base : Heap) (f c : Addr) (A : Around) (outer : List Env) (s : Shared) (H : Hp) (E : XK) : Cx :=
  (cxOf CX0 P w K mg base ["_law_script", "_law_stream", "_law_turn", "_law_pool_here", "_law_found", "_law_bad", "_law_odd", "_law_path_here", "_law_pattern_here"] "law" (defScope sLaw) f (.ref c) A outer s H E).nox
abbrev qL : Str := (("law" : Str) ++ ".<locals>.") ++ "<lambda>"
def J0 (Tb : Addr) (v0 : V) (st l : Addr) (c : Nat) : L2.St → Hp → Prop := fun σ H => ∃ x2 x3 x4 x5 x6 x7 x8, σ = [some v0, some (.ref st), x2, x3, x4, x5, x6, x7, x8] ∧ Strm H st l c ∧ c ≤ 5000 ∧ Tabs [(Tb, qL)] H
def J1 (Tb : Addr) (v0 : V) (st l : Addr) (c : Nat) : L2.St → Hp → Prop := fun σ H => ∃ (p : Addr) (zs : List Str) (x2 x4 x5 x6 x7 x8 : Option V) (c' : Nat), σ = [some v0, some (.ref st), x2, some (.ref p), x4, x5, x6, x7, x8] ∧ Strm H st l c' ∧ c' ≤ c + 34 ∧ c ≤ 5000 ∧ Tabs [(Tb, qL)] H ∧
  Pool H st l p zs ∧ 0 < zs.length ∧ zs.length ≤ 3 ∧ ∀ y ∈ zs, IsNm y
def J2 (Tb : Addr) (v0 : V) (st l : Addr) (c : Nat) : L2.St → Hp → Prop := fun σ H => ∃ (p : Addr) (zs row : List Str) (x2 x4 x5 x6 x7 : Option V) (c' : Nat), σ = [some v0, some (.ref st), x2, some (.ref p), x4, x5, x6, x7, some (.str (js row))] ∧ Strm H st l c' ∧ c' ≤ c + 41 ∧ c ≤ 5000 ∧ Tabs [(Tb, qL)] H ∧
  Pool H st l p zs ∧ 0 < zs.length ∧ zs.length ≤ 3 ∧ (∀ y ∈ zs, IsNm y) ∧ GoodP row ∧ row.length ≤ 6
def J3 (Tb : Addr) (v0 : V) (st l : Addr) (c : Nat) : L2.St → Hp → Prop := fun σ H => ∃ (p : Addr) (row q : List Str) (x2 x4 x5 x6 : Option V) (c' : Nat), σ = [some v0, some (.ref st), x2, some (.ref p), x4, x5, x6, some (.str (js q)), some (.str (js row))] ∧ Strm H st l c' ∧ c' ≤ c + 82 ∧ c ≤ 5000 ∧ Tabs [(Tb, qL)] H ∧
  GoodP row ∧ GoodN q
def J5 (Tb : Addr) (K : PySem.W.Frag) (v0 : V) (st l : Addr) (c : Nat) : L2.St → Hp → Prop := fun σ H => ∃ (p : Addr) (row q : List Str) (vo : V) (d : PyData) (x2 x4 x5 : Option V) (c' : Nat), σ = [some v0, some (.ref st), x2, some (.ref p), x4, x5, some vo, some (.str (js q)), some (.str (js row))] ∧ Strm H st l c' ∧ c' ≤ c + 83 ∧ c ≤ 5000 ∧ Tabs [(Tb, qL)] H ∧
  GoodP row ∧ Dr IsPt K st l H vo d
def J6 (Tb : Addr) (K : PySem.W.Frag) (v0 : V) (st l : Addr) (c : Nat) : L2.St → Hp → Prop := fun σ H => ∃ (p : Addr) (row q : List Str) (vo vb : V) (d e : PyData) (x2 x4 : Option V) (c' : Nat), σ = [some v0, some (.ref st), x2, some (.ref p), x4, some vb, some vo, some (.str (js q)), some (.str (js row))] ∧ Strm H st l c' ∧ c' ≤ c + 84 ∧ c ≤ 5000 ∧ Tabs [(Tb, qL)] H ∧
  GoodP row ∧ Dr IsPt K st l H vo d ∧ Dr IsNm K st l H vb e
def J7 (Tb : Addr) (K : PySem.W.Frag) (v0 : V) (st l : Addr) (c : Nat) (two : Bool) : L2.St → Hp → Prop := fun σ H => ∃ (p F t u : Addr) (row q : List Str) (vo vb : V) (d e : PyData) (x2 : Option V) (c' : Nat), σ = [some v0, some (.ref st), x2, some (.ref p), some (.ref F), some vb, some vo, some (.str (js q)), some (.str (js row))] ∧ Strm H st l c' ∧ c' ≤ c + 84 ∧ c ≤ 5000 ∧ Tabs [(Tb, qL)] H ∧
  GoodP row ∧ (∃ HD, Dr IsPt K st l HD vo d ∧ Dr IsNm K st l HD vb e ∧ HD F = none ∧ Bx st l HD H) ∧ F ≠ st ∧ F ≠ l ∧ H F = some (.lst (if two = true then [.ref t, .ref u] else [.ref t])) ∧ H t = some (.tup [.str "pattern", vo]) ∧ (two = true → H u = some (.tup [.str "path", vb]))
def JE (Tb : Addr) (v0 : V) (st l : Addr) (c : Nat) : L2.St → Hp → Prop := fun σ H => ∃ (x2 x3 x4 x5 x6 x7 x8 : Option V) (c' : Nat), σ = [some v0, some (.ref st), x2, x3, x4, x5, x6, x7, x8] ∧ Strm H st l c' ∧ c' ≤ c + 84 ∧ Tabs [(Tb, qL)] H
section
variable {P : Program} {w : World} {K : PySem.W.Frag} {mg : Str → Option Value} {base : Heap} {CP CQ fP fQ cL Tb : Addr} {fa : Str → Addr} {fd : Str → FuncData}
  {f : Addr} {A : Around} {outer : List Env} {s : Shared} {H : Hp} {E : XK} {v0 : V} {st l : Addr} {c : Nat}
theorem step0 (V : LV P w K mg base CP CQ fP fQ cL Tb fa fd) (hr : Room 10 (A.deeper (envOfC "law" (defScope sLaw) s.heap.objs.size f (.ref cL)))) : Step (XL P w K mg base f cL A outer s H E) (bd 0) (J0 Tb v0 st l c) (J1 Tb v0 st l c) := by
  obtain ⟨T, BP, BQ, no, TB, FT, aT, aD, GD, aP, GP, aPo, GPo, aPa, GPa, aPattern, GPattern, aStood, GStood, aLMat, GLMat, aMatches, GMatches, aSa, GSa⟩ := V
  refine ⟨_, ps_set (i := 3) scLaw.nd rfl (Or.inl rfl) (pe_call GPo (hr.mono (by decide)) rfl aPo.m aPo.k aPo.b .nil pass0 (pa_cons (pv 1) (pa_cons (pe_op op_add pe_int (pe_call GD (hr.mono (by decide)) rfl aD.m aD.k aD.b .nil pass0 (pa_cons (pv 1) (pa_cons pe_int pa_nil)))) pa_nil))), fun D σ H' hA k => ?_⟩
  obtain ⟨x2, x3, x4, x5, x6, x7, x8, rfl, S, hc, TT⟩ := hA
  refine ⟨_, rfl, _, rfl, st, l, c, 2, rfl, S, by omega, by decide, by decide, fun d H1 d0 d1 B1 S1 => ?_⟩
  refine ⟨_, _, rfl, rfl, st, l, c + 1, 2 + d, rfl, S1, by omega, by omega, by omega, fun p zs H2 c2 zl nd nm np L B2 S2 hc2 => ?_⟩
  exact k _ _ ⟨p, zs, _, _, _, _, _, _, c2, rfl, S2, by omega, hc, tabs_but TT S (B1.trans B2), L, by omega, by omega, nm⟩
theorem step1 (V : LV P w K mg base CP CQ fP fQ cL Tb fa fd) (hr : Room 10 (A.deeper (envOfC "law" (defScope sLaw) s.heap.objs.size f (.ref cL)))) : Step (XL P w K mg base f cL A outer s H E) (bd 1) (J1 Tb v0 st l c) (J2 Tb v0 st l c) := by
  obtain ⟨T, BP, BQ, no, TB, FT, aT, aD, GD, aP, GP, aPo, GPo, aPa, GPa, aPattern, GPattern, aStood, GStood, aLMat, GLMat, aMatches, GMatches, aSa, GSa⟩ := V
  refine ⟨_, ps_set (i := 8) scLaw.nd rfl (Or.inr rfl) (pe_call GPattern (hr.mono (by decide)) rfl aPattern.m aPattern.k aPattern.b .nil pass0 (pa_cons (pv 1) (pa_cons (pv 3) (pa_cons pe_int pa_nil)))), fun D σ H' hA k => ?_⟩
  obtain ⟨p, zs, x2, x4, x5, x6, x7, x8, c1, rfl, S, hc1, hc, TT, L, z0, z3, nm⟩ := hA
  refine ⟨_, rfl, _, rfl, st, l, p, c1, zs, 6, rfl, S, by omega, L, by omega, nm, by decide, by decide, fun row H2 c2 gp rl B2 S2 hc2 => ?_⟩
  exact k _ _ ⟨p, zs, row, _, _, _, _, _, c2, rfl, S2, by have : (6 : Int).toNat = 6 := rfl; omega, hc, tabs_but TT S B2, L.but B2, z0, z3, nm, gp, by omega⟩
theorem step2 (V : LV P w K mg base CP CQ fP fQ cL Tb fa fd) (hr : Room 10 (A.deeper (envOfC "law" (defScope sLaw) s.heap.objs.size f (.ref cL)))) : Step (XL P w K mg base f cL A outer s H E) (bd 2) (J2 Tb v0 st l c) (J3 Tb v0 st l c) := by
  obtain ⟨T, BP, BQ, no, TB, FT, aT, aD, GD, aP, GP, aPo, GPo, aPa, GPa, aPattern, GPattern, aStood, GStood, aLMat, GLMat, aMatches, GMatches, aSa, GSa⟩ := V
  refine ⟨_, ps_set (i := 7) scLaw.nd rfl (Or.inr rfl) (pe_ifExp (pt_cmpR op_eq (pe_call GD (hr.mono (by decide)) rfl aD.m aD.k aD.b .nil pass0 (pa_cons (pv 1) (pa_cons pe_int pa_nil))) pe_int (nomark _)) (pe_call GStood (hr.mono (by decide)) rfl aStood.m aStood.k aStood.b .nil pass0 (pa_cons (pv 1) (pa_cons (pv 3) (pa_cons (pv 8) pa_nil)))) (pe_call GPa (hr.mono (by decide)) rfl aPa.m aPa.k aPa.b .nil pass0 (pa_cons (pv 1) (pa_cons (pv 3) (pa_cons pe_int pa_nil))))), fun D σ H' hA k => ?_⟩
  obtain ⟨p, zs, row, x2, x4, x5, x6, x7, c1, rfl, S, hc1, hc, TT, L, z0, z3, nm, gp, rl⟩ := hA
  refine ⟨_, rfl, st, l, c1, 2, rfl, S, by omega, by decide, by decide, fun d H1 d0 d1 B1 S1 => ⟨rfl, _, rfl, ?_⟩⟩
  by_cases h : d = 0
  · refine iteY (congrArg V.int h) ⟨_, rfl, _, rfl, _, rfl, st, l, p, c1 + 1, zs, row, rfl, S1, by omega, L.but B1, z0, by omega, nm, gp, rl, fun q H2 c2 gn B2 S2 hc2 => ?_⟩
    exact k _ _ ⟨p, row, q, _, _, _, _, c2, rfl, S2, by omega, hc, tabs_but TT S (B1.trans B2), gp, gn⟩
  · refine iteN (fun e => h (V.int.inj e)) ⟨_, rfl, _, rfl, st, l, p, c1 + 1, zs, 5, rfl, S1, by omega, L.but B1, z0, by omega, nm, by decide, by decide, fun q H2 c2 q1 q5 mem B2 S2 hc2 => ?_⟩
    exact k _ _ ⟨p, row, q, _, _, _, _, c2, rfl, S2, by have : (5 : Int).toNat = 5 := rfl; omega, hc, tabs_but TT S (B1.trans B2), gp, fun y hy => nm y (mem y hy), fun e => by rw [e] at q1; exact absurd q1 (by decide), by omega⟩
theorem step3 (V : LV P w K mg base CP CQ fP fQ cL Tb fa fd) (hg : A.guards = some []) (hr : Room 10 (A.deeper (envOfC "law" (defScope sLaw) s.heap.objs.size f (.ref cL)))) : Step (XL P w K mg base f cL A outer s H E) (bd 3) (J3 Tb v0 st l c) (J3 Tb v0 st l c) := by
  obtain ⟨T, BP, BQ, no, TB, FT, aT, aD, GD, aP, GP, aPo, GPo, aPa, GPa, aPattern, GPattern, aStood, GStood, aLMat, GLMat, aMatches, GMatches, aSa, GSa⟩ := V
  refine ⟨_, ps_if (pt_not (pt_val (pe_callG GSa hg (hr.mono (by decide)) rfl aSa.m aSa.k aSa.b pass0 (pa_cons (pe_tried FT aT BP BQ no TB rfl rfl (hr.mono (by decide)) (lamS_by (sc := defScope sLaw) (by decide +kernel)) rfl (fun _ _ _ _ _ => rfl) (fun A outer s H E f c' hr2 => (pe_call GMatches (hr2.mono (by decide)) rfl aMatches.m aMatches.k aMatches.b .nil (passes_call (takes_of rfl rfl rfl rfl) (fun _ _ _ _ h => h)) (pa_cons (pv 8) (pa_cons (pv 7) pa_nil))))) (pa_cons (pe_tup (pa_cons pe_str (pa_cons (pe_call GLMat (hr.mono (by decide)) rfl aLMat.m aLMat.k aLMat.b .nil pass0 (pa_cons (pv 8) (pa_cons (pv 7) pa_nil))) pa_nil))) pa_nil))))) (pss_one (ps_ret pe_bl)) (pss_nil), fun D σ H' hA k => ?_⟩
  obtain ⟨p, row, q, x2, x4, x5, x6, c1, rfl, S, hc1, hc, TT, gp, gn⟩ := hA
  refine ⟨TT, fun H1 e1 T1 R hR => ⟨_, rfl, _, rfl, _, _, rfl, .inr ⟨row, rfl, gp, .inr ⟨q, rfl, gn, fun b H2 s2 th => hR (.bl b) H2 fun t ht => ?_⟩⟩⟩⟩
  have s3 := same_mk (o := .tup [.str "told", .bl b]) ht
  refine ⟨_, rfl, _, rfl, row, q, rfl, gp, gn, fun b2 H3 s4 th2 => ⟨by show 2 ≤ sizeLine; decide, fun u hu => ?_⟩⟩
  obtain rfl := th2.det th
  have s5 := same_mk (o := .tup [.str "told", .bl b2]) hu
  have fb : Fine (.bool b2) 0 10 := fine_bool b2
  have fi : Fine (.tuple [.str "told", .bool b2]) 20 100000 := (Fine.tup (ds := [.str "told", .bool b2]) (dep := 2) (n := 100) (m := 1000) (fun d hd => by
    rcases List.mem_cons.mp hd with rfl | hd
    · exact ⟨by decide +kernel, by decide +kernel, by decide +kernel⟩
    · rw [List.mem_singleton.mp hd]
      exact fb.up (by decide) (by decide)) (by show 3 + 2 * 102 ≤ 1000; decide)).up (by decide) (by decide)
  refine ⟨.ref t, .ref u, _, rfl, .tup (s5 _ _ (s4 _ _ upd_same)) (.cons (.str _) (.cons (.bl _) .nil)), .tup upd_same (.cons (.str _) (.cons (.bl _) .nil)), fi, true, rfl, ?_⟩
  have sm := (s2.trans s3).trans (s4.trans s5)
  exact k _ _ ⟨p, row, q, _, _, _, _, c1, rfl, (S.ext e1).up sm, hc1, hc, T1.ext fun b o h => sm b o h, gp, gn⟩
theorem step4 (V : LV P w K mg base CP CQ fP fQ cL Tb fa fd) (hr : Room 10 (A.deeper (envOfC "law" (defScope sLaw) s.heap.objs.size f (.ref cL)))) : Step (XL P w K mg base f cL A outer s H E) (bd 4) (J3 Tb v0 st l c) (J5 Tb K v0 st l c) := by
  obtain ⟨T, BP, BQ, no, TB, FT, aT, aD, GD, aP, GP, aPo, GPo, aPa, GPa, aPattern, GPattern, aStood, GStood, aLMat, GLMat, aMatches, GMatches, aSa, GSa⟩ := V
  refine ⟨_, ps_set (i := 6) scLaw.nd rfl (Or.inr rfl) (pe_call GP (hr.mono (by decide)) rfl aP.m aP.k aP.b .nil pass0 (pa_cons (pv 1) (pa_cons (pe_lst (pa_cons pe_non (pa_cons pe_int (pa_cons pe_str (pa_cons pe_str (pa_cons pe_str (pa_cons pe_str (pa_cons pe_str (pa_cons pe_str (pa_cons pe_str (pa_cons (pe_lst (pa_cons pe_str pa_nil)) (pa_cons pe_str (pa_cons pe_bl pa_nil))))))))))))) pa_nil))), fun D σ H' hA k => ?_⟩
  obtain ⟨p, row, q, x2, x4, x5, x6, c1, rfl, S, hc1, hc, TT, gp, gn⟩ := hA
  refine ⟨_, rfl, by show 1 ≤ sizeLine; decide, fun a ha => ⟨by show 12 ≤ sizeLine; decide, fun g hg => ?_⟩⟩
  have s1 := same_mk (o := .lst [.str "*"]) ha
  have ha1 := upd_same (H := H') (a := a) (o := .lst [.str "*"])
  have na := S.ne_new ha
  have S1 := S.up s1
  have ng := S1.ne_new hg
  have s2 := same_mk (o := .lst [.non, .int 5, .str "", .str "/", .str "a//b", .str "A", .str "a/", .str "***", .str "*a", .ref a, .str "ninesigns", .bl true]) hg
  refine .inl ⟨st, l, c1, g, _, rfl, S1.up s2, by omega, upd_same, ng.1, ng.2, by show 0 < 12; decide, by show 12 < 1000; decide, fun i x H2 hx B2 S2 => ?_⟩
  have B3 : But st l H' H2 := (But.same (s1.trans s2)).trans B2
  have ha2 : H2 a = some (.lst [.str "*"]) := B2 _ _ (s2 _ _ ha1) na.1 na.2
  have dr : ∃ d, Dr IsPt K st l H2 x d := by
    have m := List.mem_of_getElem? hx
    simp only [List.mem_cons, List.not_mem_nil, or_false] at m
    have str : ∀ z : Str, TxB IsPt z false → Fine (.str z) 3 1000 → ∃ d, Dr IsPt K st l H2 (.str z) d := fun z h f => ⟨_, dr_str h f⟩
    rcases m with rfl | rfl | rfl | rfl | rfl | rfl | rfl | rfl | rfl | rfl | rfl | rfl
    · exact ⟨_, dr_non⟩
    · exact ⟨.int 5, fun _ _ => .inr ⟨rfl, .int 5⟩, fun _ _ => .int 5, ⟨by decide +kernel, by decide +kernel, by decide +kernel⟩⟩
    · exact str _ (txb_no (by decide +kernel)) ⟨by decide +kernel, by decide +kernel, by decide +kernel⟩
    · exact str _ (txb_no (by decide +kernel)) ⟨by decide +kernel, by decide +kernel, by decide +kernel⟩
    · exact str _ (txb_no (by decide +kernel)) ⟨by decide +kernel, by decide +kernel, by decide +kernel⟩
    · exact str _ (txb_no (by decide +kernel)) ⟨by decide +kernel, by decide +kernel, by decide +kernel⟩
    · exact str _ (txb_no (by decide +kernel)) ⟨by decide +kernel, by decide +kernel, by decide +kernel⟩
    · exact str _ (txb_no (by decide +kernel)) ⟨by decide +kernel, by decide +kernel, by decide +kernel⟩
    · exact str _ (txb_no (by decide +kernel)) ⟨by decide +kernel, by decide +kernel, by decide +kernel⟩
    · exact ⟨.list [.str "*"], fun H3 b => .inr ⟨rfl, .lst (b _ _ ha2 na.1 na.2 fun _ z => by cases z)⟩, fun H3 b => .lst (b _ _ ha2 na.1 na.2 fun _ z => by cases z) (.cons (.str _) .nil), ⟨by decide +kernel, by decide +kernel, by decide +kernel⟩⟩
    · exact str _ (txb_no (by decide +kernel)) ⟨by decide +kernel, by decide +kernel, by decide +kernel⟩
    · exact ⟨.bool true, fun _ _ => .inr ⟨rfl, .bl true⟩, fun _ _ => .bl true, ⟨by decide +kernel, by decide +kernel, by decide +kernel⟩⟩
  obtain ⟨d, dr⟩ := dr
  exact k _ _ ⟨p, row, q, x, d, _, _, _, c1 + 1, rfl, S2, by omega, hc, tabs_but TT S B3, gp, dr⟩
theorem step5 (V : LV P w K mg base CP CQ fP fQ cL Tb fa fd) (hr : Room 10 (A.deeper (envOfC "law" (defScope sLaw) s.heap.objs.size f (.ref cL)))) : Step (XL P w K mg base f cL A outer s H E) (bd 5) (J5 Tb K v0 st l c) (J6 Tb K v0 st l c) := by
  obtain ⟨T, BP, BQ, no, TB, FT, aT, aD, GD, aP, GP, aPo, GPo, aPa, GPa, aPattern, GPattern, aStood, GStood, aLMat, GLMat, aMatches, GMatches, aSa, GSa⟩ := V
  refine ⟨_, ps_set (i := 5) scLaw.nd rfl (Or.inr rfl) (pe_call GP (hr.mono (by decide)) rfl aP.m aP.k aP.b .nil pass0 (pa_cons (pv 1) (pa_cons (pe_lst (pa_cons pe_non (pa_cons pe_str (pa_cons pe_str (pa_cons pe_str (pa_cons pe_str (pa_cons pe_str (pa_cons (pe_tup (pa_cons pe_str pa_nil)) (pa_cons pe_int pa_nil))))))))) pa_nil))), fun D σ H' hA k => ?_⟩
  obtain ⟨p, row, q, vo, d0, x2, x4, x5, c1, rfl, S, hc1, hc, TT, gp, dr0⟩ := hA
  refine ⟨_, rfl, by show 1 ≤ sizeLine; decide, fun a ha => ⟨by show 8 ≤ sizeLine; decide, fun g hg => ?_⟩⟩
  have s1 := same_mk (o := .tup [.str "a"]) ha
  have ha1 := upd_same (H := H') (a := a) (o := .tup [.str "a"])
  have na := S.ne_new ha
  have S1 := S.up s1
  have ng := S1.ne_new hg
  have s2 := same_mk (o := .lst [.non, .str "", .str "*", .str "a//b", .str "/a", .str "A/b", .ref a, .int 7]) hg
  refine .inl ⟨st, l, c1, g, _, rfl, S1.up s2, by omega, upd_same, ng.1, ng.2, by show 0 < 8; decide, by show 8 < 1000; decide, fun i x H2 hx B2 S2 => ?_⟩
  have B3 : But st l H' H2 := (But.same (s1.trans s2)).trans B2
  have ha2 : H2 a = some (.tup [.str "a"]) := B2 _ _ (s2 _ _ ha1) na.1 na.2
  have dr : ∃ d, Dr IsNm K st l H2 x d := by
    have m := List.mem_of_getElem? hx
    simp only [List.mem_cons, List.not_mem_nil, or_false] at m
    have str : ∀ z : Str, TxB IsNm z false → Fine (.str z) 3 1000 → ∃ d, Dr IsNm K st l H2 (.str z) d := fun z h f => ⟨_, dr_str h f⟩
    rcases m with rfl | rfl | rfl | rfl | rfl | rfl | rfl | rfl
    · exact ⟨_, dr_non⟩
    · exact str _ (txb_no (by decide +kernel)) ⟨by decide +kernel, by decide +kernel, by decide +kernel⟩
    · exact str _ (txb_no (by decide +kernel)) ⟨by decide +kernel, by decide +kernel, by decide +kernel⟩
    · exact str _ (txb_no (by decide +kernel)) ⟨by decide +kernel, by decide +kernel, by decide +kernel⟩
    · exact str _ (txb_no (by decide +kernel)) ⟨by decide +kernel, by decide +kernel, by decide +kernel⟩
    · exact str _ (txb_no (by decide +kernel)) ⟨by decide +kernel, by decide +kernel, by decide +kernel⟩
    · exact ⟨.tuple [.str "a"], fun H3 b => .inr ⟨rfl, .tup (b _ _ ha2 na.1 na.2 fun _ z => by cases z)⟩, fun H3 b => .tup (b _ _ ha2 na.1 na.2 fun _ z => by cases z) (.cons (.str _) .nil), ⟨by decide +kernel, by decide +kernel, by decide +kernel⟩⟩
    · exact ⟨.int 7, fun _ _ => .inr ⟨rfl, .int 7⟩, fun _ _ => .int 7, ⟨by decide +kernel, by decide +kernel, by decide +kernel⟩⟩
  obtain ⟨d, dr⟩ := dr
  exact k _ _ ⟨p, row, q, vo, x, d0, d, _, _, c1 + 1, rfl, S2, by omega, hc, tabs_but TT S B3, gp, dr0.bx (.but B3), dr⟩
theorem step6 (V : LV P w K mg base CP CQ fP fQ cL Tb fa fd) (hr : Room 10 (A.deeper (envOfC "law" (defScope sLaw) s.heap.objs.size f (.ref cL)))) : Step (XL P w K mg base f cL A outer s H E) (bd 6) (J6 Tb K v0 st l c) (J7 Tb K v0 st l c false) := by
  obtain ⟨T, BP, BQ, no, TB, FT, aT, aD, GD, aP, GP, aPo, GPo, aPa, GPa, aPattern, GPattern, aStood, GStood, aLMat, GLMat, aMatches, GMatches, aSa, GSa⟩ := V
  refine ⟨_, ps_set (i := 4) scLaw.nd rfl (Or.inl rfl) (pe_lst (pa_cons (pe_tried FT aT BP BQ no TB rfl rfl (hr.mono (by decide)) (lamS_by (sc := defScope sLaw) (by decide +kernel)) rfl (fun _ _ _ _ _ => rfl) (fun A outer s H E f c' hr2 => (pe_call GMatches (hr2.mono (by decide)) rfl aMatches.m aMatches.k aMatches.b .nil (passes_call (takes_of rfl rfl rfl rfl) (fun _ _ _ _ h => h)) (pa_cons (pv 6) (pa_cons (pv 5) pa_nil))))) pa_nil)), fun D σ H' hA k => ?_⟩
  obtain ⟨p, row, q, vo, vb, d0, e0, x2, x4, c1, rfl, S, hc1, hc, TT, gp, dr, er⟩ := hA
  refine ⟨TT, fun H1 e1 T1 R hR => ⟨_, rfl, _, rfl, _, _, rfl, .inl ⟨dr.vb _ (.ext e1), fun dd H2 s2 hd he => ⟨dd, vo, rfl, .inl ⟨rfl, he, fun t ht => ⟨by show 1 ≤ sizeLine; decide, fun F hF => ?_⟩⟩⟩⟩⟩⟩
  have s3 := same_mk (o := .tup [.str "pattern", vo]) ht
  have s4 := same_mk (o := .lst [.ref t]) hF
  have sm := (s2.trans s3).trans s4
  have S4 := (S.ext e1).up (s2.trans s3)
  have nF := S4.ne_new hF
  have bx : Bx st l H' (upd H2 t (.tup [.str "pattern", vo])) := (Bx.ext e1).trans (.same (s2.trans s3))
  exact k _ _ ⟨p, F, t, t, row, q, vo, vb, d0, e0, _, c1, rfl, S4.up s4, hc1, hc, T1.ext fun b o h => sm b o h, gp, ⟨_, dr.bx bx, er.bx bx, hF, .same s4⟩, nF.1, nF.2, upd_same, s4 _ _ upd_same, fun z => by cases z⟩
theorem step7 (V : LV P w K mg base CP CQ fP fQ cL Tb fa fd) (hr : Room 10 (A.deeper (envOfC "law" (defScope sLaw) s.heap.objs.size f (.ref cL)))) : Step (XL P w K mg base f cL A outer s H E) (bd 7) (J7 Tb K v0 st l c false) (J7 Tb K v0 st l c true) := by
  obtain ⟨T, BP, BQ, no, TB, FT, aT, aD, GD, aP, GP, aPo, GPo, aPa, GPa, aPattern, GPattern, aStood, GStood, aLMat, GLMat, aMatches, GMatches, aSa, GSa⟩ := V
  refine ⟨_, ps_expr (pe_bm PySem.F.plainAttrs_list PySem.F.slot_list_append PySem.F.type_list_append mt_append (pv 4) (pa_cons (pe_tried FT aT BP BQ no TB rfl rfl (hr.mono (by decide)) (lamS_by (sc := defScope sLaw) (by decide +kernel)) rfl (fun _ _ _ _ _ => rfl) (fun A outer s H E f c' hr2 => (pe_call GMatches (hr2.mono (by decide)) rfl aMatches.m aMatches.k aMatches.b .nil (passes_call (takes_of rfl rfl rfl rfl) (fun _ _ _ _ h => h)) (pa_cons (pv 8) (pa_cons (pv 5) pa_nil))))) pa_nil)), fun D σ H' hA k => ?_⟩
  obtain ⟨p, F, t, u, row, q, vo, vb, d0, e0, x2, c1, rfl, S, hc1, hc, TT, gp, ⟨HD, dr, er, dF, bD⟩, n1, n2, hF, ht, _⟩ := hA
  refine ⟨_, rfl, .inl ⟨rfl, _, SqL.of hF⟩, TT, fun H1 e1 T1 R hR => ⟨_, rfl, _, rfl, _, _, rfl, .inr ⟨row, rfl, gp, .inl ⟨er.vb _ (bD.trans (.ext e1)), fun dd H2 s2 hd he => ⟨dd, vb, rfl, .inr ⟨rfl, he, fun u hu => ?_⟩⟩⟩⟩⟩⟩
  have s3 := same_mk (o := .tup [.str "path", vb]) hu
  have sm := s2.trans s3
  have hF2 := sm _ _ (e1 _ _ hF fun _ z => by cases z)
  have ht2 := sm _ _ (e1 _ _ ht fun _ z => by cases z)
  have hu2 := upd_same (H := H2) (a := u) (o := .tup [.str "path", vb])
  have S4 := (S.ext e1).up sm
  have T2 : Tabs [(Tb, qL)] (upd H2 u (.tup [.str "path", vb])) := T1.ext fun b o h => sm b o h
  have bx : Bx st l HD (upd H2 u (.tup [.str "path", vb])) := bD.trans ((Bx.ext e1).trans (.same sm))
  generalize upd H2 u (.tup [.str "path", vb]) = H3 at hF2 ht2 hu2 S4 T2 bx ⊢
  refine ⟨F, _, _, rfl, rfl, hF2, by show 1 < sizeLine; decide, ?_⟩
  have tF : t ≠ F := ne_of ht2 hF2 (by intro z; cases z)
  have uF : u ≠ F := ne_of hu2 hF2 (by intro z; cases z)
  refine k _ _ ⟨p, F, t, u, row, q, vo, vb, d0, e0, _, c1, rfl, S4.put ⟨n1, n2⟩, hc1, hc, tabs_put T2 hF2, gp, ⟨HD, dr, er, dF, fun b o h m1 m2 m3 => ?_⟩, n1, n2, upd_same, ?_, fun _ => ?_⟩
  · rw [upd_ne fun e => by rw [e, dF] at h; cases h]
    exact bx b o h m1 m2 m3
  · rw [upd_ne tF]
    exact ht2
  · rw [upd_ne uF]
    exact hu2
theorem step8 (V : LV P w K mg base CP CQ fP fQ cL Tb fa fd) (hg : A.guards = some []) (hr : Room 10 (A.deeper (envOfC "law" (defScope sLaw) s.heap.objs.size f (.ref cL)))) : Step (XL P w K mg base f cL A outer s H E) (bd 8) (J7 Tb K v0 st l c true) (JE Tb v0 st l c) := by
  obtain ⟨T, BP, BQ, no, TB, FT, aT, aD, GD, aP, GP, aPo, GPo, aPa, GPa, aPattern, GPattern, aStood, GStood, aLMat, GLMat, aMatches, GMatches, aSa, GSa⟩ := V
  refine ⟨_, ps_if (pt_not (pt_val (pe_callG GSa hg (hr.mono (by decide)) rfl aSa.m aSa.k aSa.b pass0 (pa_cons (pv 4) (pa_cons (pe_lst (pa_cons (pe_tup (pa_cons pe_str (pa_cons (pv 6) pa_nil))) (pa_cons (pe_tup (pa_cons pe_str (pa_cons (pv 5) pa_nil))) pa_nil))) pa_nil))))) (pss_one (ps_ret pe_bl)) (pss_nil), fun D σ H' hA k => ?_⟩
  obtain ⟨p, F, t, u, row, q, vo, vb, d0, e0, x2, c1, rfl, S, hc1, hc, TT, gp, ⟨HD, dr, er, dF, bD⟩, n1, n2, hF, ht, hu⟩ := hA
  refine ⟨_, rfl, _, rfl, by show 2 ≤ sizeLine; decide, fun a ha => ⟨_, rfl, by show 2 ≤ sizeLine; decide, fun b hb => ⟨by show 2 ≤ sizeLine; decide, fun g hg => ?_⟩⟩⟩
  have s1 := same_mk (o := .tup [.str "pattern", vo]) ha
  have s2 := same_mk (o := .tup [.str "path", vb]) hb
  have s3 := same_mk (o := .lst [.ref a, .ref b]) hg
  have sm := (s1.trans s2).trans s3
  have ha3 := s3 _ _ (s2 _ _ (upd_same (H := H') (a := a) (o := .tup [.str "pattern", vo])))
  have hb3 := s3 _ _ (upd_same (H := upd H' a (.tup [.str "pattern", vo])) (a := b) (o := .tup [.str "path", vb]))
  have hg3 := upd_same (H := upd (upd H' a (.tup [.str "pattern", vo])) b (.tup [.str "path", vb])) (a := g) (o := .lst [.ref a, .ref b])
  generalize upd (upd (upd H' a (.tup [.str "pattern", vo])) b (.tup [.str "path", vb])) g (.lst [.ref a, .ref b]) = H3 at s3 sm ha3 hb3 hg3 ⊢
  have bx : Bx st l HD H3 := bD.trans (.same sm)
  have fi : Fine (.list [.tuple [.str "pattern", d0], .tuple [.str "path", e0]]) 20 100000 := (Fine.lst (ds := [.tuple [.str "pattern", d0], .tuple [.str "path", e0]]) (dep := 4) (n := 2006) (m := 5000) (fun d hd => by
    rcases List.mem_cons.mp hd with rfl | hd
    · exact Fine.pair ⟨by decide +kernel, by decide +kernel, by decide +kernel⟩ dr.fi
    · rw [List.mem_singleton.mp hd]
      exact Fine.pair ⟨by decide +kernel, by decide +kernel, by decide +kernel⟩ er.fi) (by show 2 + 2 * 2008 ≤ 5000; decide)).up (by decide) (by decide)
  refine ⟨.ref F, .ref g, _, rfl, .lst (sm _ _ hF) (.cons (.tup (sm _ _ ht) (.cons (.str _) (.cons (dr.dq _ bx) .nil))) (.cons (.tup (sm _ _ (hu rfl)) (.cons (.str _) (.cons (er.dq _ bx) .nil))) .nil)),
    .lst hg3 (.cons (.tup ha3 (.cons (.str _) (.cons (dr.dq _ bx) .nil))) (.cons (.tup hb3 (.cons (.str _) (.cons (er.dq _ bx) .nil))) .nil)), fi, true, rfl, ?_⟩
  exact k _ _ ⟨_, _, _, _, _, _, _, c1, rfl, S.up sm, hc1, TT.ext fun b o h => sm b o h⟩
/-- a turn -/
theorem turn (V : LV P w K mg base CP CQ fP fQ cL Tb fa fd) (hg : A.guards = some []) (hr : Room 10 (A.deeper (envOfC "law" (defScope sLaw) s.heap.objs.size f (.ref cL)))) :
    Steps (XL P w K mg base f cL A outer s H E) (forBody ((defBody sLaw).getD 1 (.Pass ⟨0, 0, 0, 0⟩))) (J0 Tb v0 st l c) (JE Tb v0 st l c) :=
  steps_cons (step0 V hr) (steps_cons (step1 V hr) (steps_cons (step2 V hr) (steps_cons (step3 V hg hr) (steps_cons (step4 V hr) (steps_cons (step5 V hr) (steps_cons (step6 V hr) (steps_cons (step7 V hr) (steps_one (step8 V hg hr)))))))))
def spLaw (K : PySem.W.Frag) (Tb : Addr) : Sp := fun vs H Q _ => ∃ (a : Addr) (ns : List Int), vs = [.ref a] ∧ ns.length ≤ 63 ∧ SqL K H a (ns.map V.int) ∧ TabS H Tb qL ∧ ∀ H', Q (.bl true) H'
/-- a def whose code object is known -/
theorem okGC {x qual : Str} {st : Stmt} {f c : Addr} {fd : FuncData} {N ps : List Str} {k : Nat} {sp : Sp} (F : Fun K x qual st f fd) (S : FnScope N ps (defScope st))
    (hc : ∀ {oc kV doc pm cdv ct : Value} {od an : Option Addr} {osl : Array (Option Value)}, K.lookup f = some ⟨oc, od, .func (PySem.W.fnOf x qual (defArgs st) (defBody st) (defScope st) .none kV doc pm an cdv ct), osl⟩ → cdv = .ref c)
    (len : ∀ vs H Q E, sp vs H Q E → vs.length = ps.length)
    (body : ∀ (A : Around) (outer : List Env) (s : Shared) (H : Hp) (vs : List V) (Q : VK) (E : XK), A.guards = some [] → Room k (A.deeper (envOfC qual (defScope st) s.heap.objs.size f (.ref c))) → sp vs H Q E →
      ∃ t, PSs (cxOf CX0 P w K mg base N qual (defScope st) f (.ref c) A outer s H E).nox (defBody st) t ∧ t { nx := fun _ H' => Q .non H', rt := Q } (L2.start N vs) H) : FnG P w K mg base CX0 (k + 1) f fd ps sp := by
  obtain ⟨oc, od, kV, doc, pm, an, cdv, ct, osl, rfl, lk, hcd⟩ := F.ex
  obtain rfl := hc lk
  refine ⟨len, fun A outer s H args us vs Q E hg hr e0 hb rv q => ?_⟩
  refine LamX.run_ofS lk hcd S hr e0 hb rv (len _ _ _ _ q) fun hr' => ?_
  obtain ⟨t, h1, h2⟩ := body A outer s H vs Q E hg hr' q
  exact ⟨t, h1.nox, h2⟩
theorem ok_law {f : Addr} {fdl : FuncData} (F : Fun K "law" "law" sLaw f fdl) (hc : ∀ {oc kV doc pm cdv ct : Value} {od an : Option Addr} {osl : Array (Option Value)}, K.lookup f = some ⟨oc, od, .func (PySem.W.fnOf "law" "law" (defArgs sLaw) (defBody sLaw) (defScope sLaw) .none kV doc pm an cdv ct), osl⟩ → cdv = .ref cL)
    (VV : LV P w K mg base CP CQ fP fQ cL Tb fa fd) : FnG P w K mg base CX0 11 f fdl ["_law_script"] (spLaw K Tb) := by
  refine okGC F scLaw hc (fun vs H Q E h => ?_) (fun A outer s H vs Q E hg hr h => ?_)
  · obtain ⟨a, ns, rfl, _⟩ := h
    rfl
  · have V0 := VV
    have T := VV.T
    obtain ⟨a, ns, rfl, hl, hS, hT, fin⟩ := h
    refine ⟨_, pss_cut (ps_set (i := 1) scLaw.nd rfl (Or.inl rfl) (pe_lst (pa_cons (pe_callTy call_list_of (by rfl) T.list (by decide +kernel) (pa_cons (pv 0) pa_nil)) (pa_cons pe_int (pa_cons pe_int (pa_cons pe_int pa_nil))))))
      (pss_cut (ps_for PassesOwn.never rfl (pi_range1 rfl T.range (pa_cons pe_int pa_nil)) (pg_name (i := 2) scLaw.nd rfl (Or.inl rfl)) (psW (ss := forBody ((defBody sLaw).getD 1 (.Pass ⟨0, 0, 0, 0⟩)))))
      (pss_one (ps_ret pe_bl))), ?_⟩
    refine ⟨fun σ H' => ∃ st l, σ = [some (.ref a), some (.ref st), none, none, none, none, none, none, none] ∧ Strm H' st l 0 ∧ Tabs [(Tb, qL)] H',
      ⟨_, rfl, a, _, rfl, .inl hS, fun l hl0 => ⟨by show 4 ≤ sizeLine; decide, fun st hst => ⟨st, l, rfl, ?_, ?_⟩⟩⟩, ?_⟩
    · have e : upd (upd H l (.lst (ns.map V.int))) st (.lst [.ref l, .int 0, .int 0, .int 0]) l = some (.lst (ns.map V.int)) := same_mk hst _ _ upd_same
      exact ⟨ns, 0, 0, ⟨upd_same, e⟩, hl, by decide, by decide, by decide⟩
    · have T0 : Tabs [(Tb, qL)] H := fun p hp => by rw [List.mem_singleton.mp hp]; exact hT
      have sm := (same_mk (o := .lst (ns.map V.int)) hl0).trans (same_mk (o := .lst [.ref l, .int 0, .int 0, .int 0]) hst)
      exact T0.ext fun b o h => sm b o h
    rintro _ H0 ⟨st, l, rfl, S0, T0⟩
    refine ⟨fun _ _ => True, ?_, ?_⟩
    · refine ⟨10, rfl, by decide, by decide, for_range (lo := 0) (n := 10) (fun i σ H' => ∃ x2 x3 x4 x5 x6 x7 x8 c, σ = [some (.ref a), some (.ref st), x2, x3, x4, x5, x6, x7, x8] ∧ Strm H' st l c ∧ c ≤ 84 * i ∧ Tabs [(Tb, qL)] H')
        ⟨none, none, none, none, none, none, none, 0, rfl, S0, Nat.le_refl _, T0⟩ ?_ (fun _ _ _ => trivial)⟩
      rintro i _ H1 hi ⟨x2, x3, x4, x5, x6, x7, x8, c, rfl, S1, hc1, T1⟩
      refine Steps.wish (turn V0 hg hr (v0 := .ref a) (st := st) (l := l) (c := c)) ⟨_, _, _, _, _, _, _, rfl, S1, by omega, T1⟩ ?_
      rintro σ' H' ⟨y2, y3, y4, y5, y6, y7, y8, c', rfl, S', hc', T'⟩
      exact ⟨y2, y3, y4, y5, y6, y7, y8, c', rfl, S', by omega, T'⟩
    · rintro σ H1 _
      exact fin _
end
end Z

set_option maxHeartbeats 3900000
/-! The end of a law whose defs are called where no repr is under way; tables of code objects. -/
namespace EG
open PySem PySem.Spec PyProof.Rows L2 LamX RP
section
variable {P : Program} {w : World} {K : PySem.W.Frag} {tabs : List Addr} {a : Addr} {ob : Obj} {xs : List V}
/-- tracked at the start: the empty tables, and the script where the written part does not hold it -/
def track (K : PySem.W.Frag) (tabs : List Addr) (a : Addr) (ob : Obj) (xs : List V) : Hp := fun b =>
  if b ∈ tabs then some (.tbl #[]) else if b = a ∧ K.lookup a = none then some (.frz ob (.lst xs)) else none
theorem track_cases (b : Addr) : (b ∈ tabs ∧ track K tabs a ob xs b = some (.tbl #[])) ∨ (b ∉ tabs ∧ b = a ∧ K.lookup a = none ∧ track K tabs a ob xs b = some (.frz ob (.lst xs))) ∨
    (b ∉ tabs ∧ (b = a → K.lookup a ≠ none) ∧ track K tabs a ob xs b = none) := by
  unfold track
  by_cases h1 : b ∈ tabs
  · exact .inl ⟨h1, if_pos h1⟩
  · by_cases h2 : b = a ∧ K.lookup a = none
    · exact .inr (.inl ⟨h1, h2.1, h2.2, by rw [if_neg h1, if_pos h2]⟩)
    · exact .inr (.inr ⟨h1, fun e z => h2 ⟨e, z⟩, by rw [if_neg h1, if_neg h2]⟩)
end
theorem end_call {P : Program} {w : World} {K : PySem.W.Frag} {mg mb : Str → Option Value} {k : Nat} {fa a : Addr} {cs : List (Addr × Addr)} {fd : FuncData} {x : Str} {sp : Sp} {s : Shared} {us : List Value} {ns : List Int}
    (kin : K.In s.heap) (gn : s.heap.Ns mainGlobals mg) (bn : s.heap.Ns builtinsNs mb) (bb : ∀ y : Str, y ≠ "__name__" → mb y = bootBuiltins y) (nl : s.heap.NoLimit) (ng : s.gens = #[])
    (tE : ∀ p ∈ cs, s.heap.get? p.2 = some { cls := .none, data := .fields #[] }) (tK : ∀ p ∈ cs, K.lookup p.2 = none) (tC : ∀ p ∈ cs, PySem.W.CodeHd s.heap p.1 p.2)
    (sys : ∃ (o : Obj) (es : Array DictEntry) (n : Nat), s.heap.get? sysModules = some o ∧ o.data = .dict es n)
    (mod : ∃ (m : Addr) (o : Obj), mg "__builtins__" = some (.ref m) ∧ m ≠ builtinsNs ∧ s.heap.get? m = some o ∧ o.cls = .type "module" ∧ o.dict = some builtinsNs ∧ o.data = .plain)
    (ia : s.heap.get? a = some { cls := .type "list", data := .seq us.toArray }) (ii : IntsAre us ns) (il : ns.length ≤ sizeLine) (room : Room k callerA)
    (F : ∀ base : Heap, K.In base → base.Ns mainGlobals mg → (∀ p ∈ cs, TabB base mg p.1 p.2) → (base.get? sysModules).isSome = true → FnG P w K mg base CX0 k fa fd [x] sp) (hb : ∀ (t : Shared) (u : Value), BindsTo t fd ⟨[u], []⟩ [(x, u)])
    (hsp : ∀ H : Hp, (∀ p ∈ cs, H p.2 = some (.tbl #[])) → SqL K H a (ns.map V.int) → sp [.ref a] H (fun v _ => v = .bl true) fun _ _ _ => False) :
    codeAny (model P w) callerA (.call (.ref fa) ⟨[.ref a], []⟩) (fun r t => r = .ok (.ret (.bool true)) ∧ OldK s.heap t.heap ∧ t.os = s.os ∧ AllBare t.gens) s := by
  have rv := vals_ints ii
  have tE' : ∀ b ∈ cs.map (·.2), s.heap.get? b = some { cls := .none, data := .fields #[] } := fun b hb => by
    obtain ⟨p, hp, rfl⟩ := List.mem_map.mp hb
    exact tE p hp
  generalize hob : ({ cls := .type "list", data := .seq us.toArray } : Obj) = ob at ia
  have na : a ∉ cs.map (·.2) := fun z => by
    have q := (tE' a z).symm.trans ia
    rw [← hob] at q
    cases q
  generalize hH : track K (cs.map (·.2)) a ob (ns.map V.int) = H
  have tc := fun b => track_cases (K := K) (tabs := cs.map (·.2)) (a := a) (ob := ob) (xs := ns.map V.int) b
  rw [hH] at tc
  -- what the heap holds is as tracked
  have ok : HOk P w H s.heap := fun b o e => by
    rcases tc b with ⟨h1, h2⟩ | ⟨h1, h2, h3, h4⟩ | ⟨_, _, h4⟩
    · rw [h2] at e
      cases e
      exact tE' b h1
    · rw [h4] at e
      cases e
      subst h2
      exact ⟨ia, by rw [List.length_map]; exact il, us, _, rv, ia.trans (congrArg some hob.symm)⟩
    · rw [h4] at e
      cases e
  -- other objects are not tracked
  have free : ∀ {b : Addr} {o : Obj}, s.heap.get? b = some o → o ≠ ob → o.data ≠ .fields #[] → H b = none := fun {b o} e d1 d2 => by
    rcases tc b with ⟨h1, _⟩ | ⟨_, h2, _, _⟩ | ⟨_, _, h4⟩
    · rw [tE' b h1] at e
      cases e
      exact (d2 rfl).elim
    · rw [h2, ia] at e
      exact (d1 (Option.some.inj e).symm).elim
    · exact h4
  have down : ∀ {b : Addr} {o : Obj}, s.heap.get? b = some o → o ≠ ob → o.data ≠ .fields #[] → (hidT s.heap H).get? b = some o := fun e d1 d2 => hidT_get e (free e d1 d2)
  have dict : ∀ {b : Addr} {m : Str → Option Value}, s.heap.Ns b m → (hidT s.heap H).Ns b m := fun {b m} ⟨o, es, ep, e, d, r⟩ =>
    ⟨o, es, ep, down e (fun z => by rw [z, ← hob] at d; cases d) (fun z => by rw [d] at z; cases z), d, r⟩
  have kB : K.In (hidT s.heap H) := fun b o e => hidT_get (kin b o e) (by
    rcases tc b with ⟨h1, _⟩ | ⟨_, h2, h3, _⟩ | ⟨_, _, h4⟩
    · obtain ⟨p, hp, rfl⟩ := List.mem_map.mp h1
      rw [tK p hp] at e
      cases e
    · rw [h2, h3] at e
      cases e
    · exact h4)
  have tabB : ∀ p ∈ cs, TabB (hidT s.heap H) mg p.1 p.2 := fun p hp => by
    obtain ⟨m, o, m1, m2, m3, m4, m5, m6⟩ := mod
    have dm : m ≠ mainGlobals := fun z => by
      obtain ⟨o', es, ep, e, d, _⟩ := gn
      rw [z, e] at m3
      cases m3
      rw [d] at m6
      cases m6
    have dp : m ≠ p.2 := fun z => by
      rw [z, tE p hp] at m3
      cases m3
      cases m6
    obtain ⟨oc, vs, file, tf, fl, tg, inF, tx, tt, c1, c2, c3, c4, cr⟩ := tC p hp
    have cne : oc ≠ ob := fun z => by
      rw [z, ← hob] at c3
      cases c3
    have cnf : oc.data ≠ .fields #[] := fun z => by
      rw [c3] at z
      cases z
      simp at c4
    have mne : o ≠ ob := fun z => by
      rw [z, ← hob] at m6
      cases m6
    have mnf : o.data ≠ .fields #[] := fun z => by
      rw [m6] at z
      cases z
    refine ⟨⟨oc, vs, file, tf, fl, tg, inF, tx, tt, down c1 cne cnf, c2, c3, c4, cr⟩, ⟨m, o, m1, m2, dm, dp, down m3 mne mnf, m4, m5, m6⟩, fun z => ?_⟩
    obtain ⟨o', es, ep, e, d, _⟩ := gn
    rw [z, tE p hp] at e
    cases e
    cases d
  have sysB : ((hidT s.heap H).get? sysModules).isSome = true := by
    obtain ⟨o, es, n, h1, h2⟩ := sys
    have q := down h1 (fun z => by rw [z, ← hob] at h2; cases h2) (fun z => by rw [h2] at z; cases z)
    rw [q]
    rfl
  have e0 : Env0 P w K mg (hidT s.heap H) callerA [] s H :=
    ⟨rfl, ⟨kB, dict gn, ⟨mb, dict bn, bb⟩, let ⟨mc, l1, l2⟩ := nl; ⟨mc, dict l1, l2⟩⟩, fun b o e => of_hidT e, Nat.le_of_eq (hidT_size _ _), trivial, fun b z => absurd (show b ∈ ([] : List Addr) from z) (by simp), ok, .of_eq ng⟩
  have seq : SqL K H a (ns.map V.int) := by
    rcases tc a with ⟨h1, _⟩ | ⟨_, _, _, h4⟩ | ⟨_, h3, _⟩
    · exact (na h1).elim
    · exact .inl (.inr ⟨ob, h4⟩)
    · cases q : K.lookup a with
      | none => exact (h3 rfl q).elim
      | some o =>
        have z := kin a o q
        rw [ia] at z
        cases z
        rw [← hob] at q
        exact .inr ⟨_, us.toArray, _, q, rfl, rfl, rfl, by rw [List.size_toArray, ii.length]; exact il, by simpa using rv⟩
  have tabs : ∀ p ∈ cs, H p.2 = some (.tbl #[]) := fun p hp => by
    have hm : p.2 ∈ cs.map (·.2) := List.mem_map.mpr ⟨p, hp, rfl⟩
    rcases tc p.2 with ⟨_, h2⟩ | ⟨h1, _⟩ | ⟨h1, _⟩
    · exact h2
    · exact (h1 hm).elim
    · exact (h1 hm).elim
  refine codeAny_mono ((F _ kB (dict gn) tabB sysB).run callerA [] s H ⟨[.ref a], []⟩ [.ref a] [.ref a] _ _ rfl room e0 (hb s (.ref a)) (.cons rfl .nil) (hsp H tabs seq)) fun r t h => ?_
  cases r with
  | error e => exact (show False from h).elim
  | ok fl =>
    cases fl with
    | next => exact False.elim h
    | brk => exact False.elim h
    | cont => exact False.elim h
    | ret u =>
      obtain ⟨v, H', os, bare, un, ok', r', q⟩ := h
      have q' : v = .bl true := q
      subst q'
      obtain rfl : u = Value.bool true := r'
      have old : ∀ b o, b ∉ cs.map (·.2) → s.heap.get? b = some o → t.heap.get? b = some o := fun b o nb e => by
        rcases tc b with ⟨h1, _⟩ | ⟨_, h2, h3, h4⟩ | ⟨_, _, h4⟩
        · exact (nb h1).elim
        · have z := un.frzs b _ _ h4
          obtain ⟨e2, _⟩ := ok' b _ z
          rw [h2, ia] at e
          cases e
          exact e2
        · exact un.keep b o e h4 (fun z => absurd (show b ∈ ([] : List Addr) from z) (by simp)) (by simp)
      have more : ∀ p ∈ cs, ∃ m : Array Value, t.heap.get? p.2 = some { cls := .none, data := .fields m } := fun p hp => by
        obtain ⟨m, z⟩ := un.tbls p.2 #[] (tabs p hp)
        exact ⟨_, ok' p.2 _ z⟩
      refine ⟨rfl, ⟨fun b o e => ?_, fun b o e => ?_⟩, os, bare⟩
      · by_cases z : b ∈ cs.map (·.2)
        · obtain ⟨p, hp, rfl⟩ := List.mem_map.mp z
          obtain ⟨m, hm⟩ := more p hp
          rw [tE p hp] at e
          cases e
          exact .inr (.inl ⟨((tC p hp).tab (tE p hp)).isCodeTable, rfl, #[], m, rfl, by rw [Array.empty_append]; exact hm⟩)
        · exact .inl (old b o z e)
      · by_cases z : b ∈ cs.map (·.2)
        · obtain ⟨p, hp, rfl⟩ := List.mem_map.mp z
          obtain ⟨m, hm⟩ := more p hp
          exact ⟨_, hm⟩
        · exact ⟨o, old b o z e⟩
/-- a law: F gives the written part, the tables, the function object, the promise over every base -/
theorem walkG {l : PySem.W.OpenLaw} {n k : Nat} {q : Program} {loose : List Str} {XP : (Str → Option Value) → Heap → Prop} {YP : World → Heap → Prop} {d : DefRec} {x : Str}
    (hn : l.most = some n) (hn2 : n ≤ sizeLine) (hdf : d.params.defaults = []) (room : Room k callerA)
    (F : ∀ (w : World) (mg : Str → Option Value) (fa : Addr) (h : Heap), YP w h → h.Ns mainGlobals mg → mg d.name = some (.ref fa) →
      ∃ (K : PySem.W.Frag) (cs : List (Addr × Addr)) (fd : FuncData) (sp : Sp), K.In h ∧ (∀ p ∈ cs, h.get? p.2 = some { cls := .none, data := .fields #[] }) ∧ (∀ p ∈ cs, K.lookup p.2 = none) ∧ (∀ p ∈ cs, PySem.W.CodeHd h p.1 p.2) ∧ (∃ (o : Obj) (es : Array DictEntry) (n : Nat), h.get? sysModules = some o ∧ o.data = .dict es n) ∧
        (∀ (s : Shared) (u : Value), BindsTo s fd ⟨[u], []⟩ [(x, u)]) ∧
        (∀ (H : Hp) (a : Addr) (ns : List Int), ns.length ≤ n → (∀ z ∈ ns, Builtin.Int.intBits z ≤ 1048576) → (∀ p ∈ cs, H p.2 = some (.tbl #[])) → SqL K H a (ns.map V.int) → sp [.ref a] H (fun v _ => v = .bl true) fun _ _ _ => False) ∧
        ∀ base : Heap, K.In base → base.Ns mainGlobals mg → (∀ p ∈ cs, TabB base mg p.1 p.2) → (base.get? sysModules).isSome = true → FnG l.prog w K mg base CX0 k fa fd [x] sp) :
    PySem.W.WalkO q loose XP YP l.row.toRowW d [] (fun f vs => PySem.call f vs) := by
  refine Att.attach_callB hn hdf fun w s₀ s mg mb fa o pm cd doc a vs ns G Y ho hd hcd hmg hobj hints hlen hbits hg => ?_
  obtain ⟨K, cs, fd, sp, KX, h1, h2, h3, h4, hb, hsp, hF⟩ := F w mg fa _ Y G.T.g hmg
  exact end_call KX G.T.g G.T.b G.T.builtins G.T.nolimit hg h1 h2 h3 h4 G.T.bmain hobj hints (Nat.le_trans hlen hn2) room hF hb fun H => hsp H a ns hlen hbits
end EG

set_option maxHeartbeats 0
namespace Z
open PySem PySem.Spec PyProof.Rows L2 EG RP XW
def oexB (K : PySem.W.Frag) (C : Addr) : Bool := match K.lookup C with
  | some ⟨.type t, _, .cls cd, sl⟩ => decide (t = "type") && ((match cd.mro with
      | .ref C' :: bm => decide (C' = C) && PySem.HandSPX.refsVE bm
      | _ => false) && (cd.hasDict && (!cd.hasDel && (match sl.toList with
      | [_, _, _, _, some (.builtin n), _] => decide (n = "ValueError.__new__")
      | _ => false))))
  | _ => false
theorem oexB_ok {K : PySem.W.Frag} {C : Addr} (h : oexB K C = true) : ∃ nm q N bs bm sn sub ab col dd k0 k1 k2 k3 k5, K.lookup C = some (excClassObj nm q C N bs bm true sn sub ab col dd k0 k1 k2 k3 k5 "ValueError.__new__") ∧ PySem.HandSPX.refsVE bm = true := by
  unfold oexB at h
  split at h
  · rename_i t dd cd sl ho
    obtain ⟨h1, h⟩ := He.ba h
    obtain ⟨h2, h⟩ := He.ba h
    obtain ⟨h3, h⟩ := He.ba h
    obtain ⟨h4, h5⟩ := He.ba h
    split at h2
    · rename_i C' bm hm
      split at h5
      · rename_i k0 k1 k2 k3 n k5 hs
        obtain ⟨h6, h7⟩ := He.ba h2
        have e1 : t = "type" := of_decide_eq_true h1
        have e2 : C' = C := of_decide_eq_true h6
        have e3 : n = "ValueError.__new__" := of_decide_eq_true h5
        have e4 : sl = #[k0, k1, k2, k3, some (.builtin n), k5] := by
          have := congrArg List.toArray hs
          simpa using this
        obtain ⟨nm, bs, mro, ns, qn, hd, sn, sub, ab, col, del⟩ := cd
        dsimp only at hm h3 h4
        have e5 : del = false := by simpa using h4
        rw [e1, e4, hm, h3, e5, e2, e3] at ho
        exact ⟨nm, qn, ns, bs, bm, sn, sub, ab, col, dd, k0, k1, k2, k3, k5, ho, h7⟩
      · cases h5
    · cases h2
  · cases h
def eqV (a b : Option (Option Value)) : Bool := decide (a = b)
def eclB (K : PySem.W.Frag) (C : Addr) (fl : Str) : Bool := oexB K C && (eqV (PySem.W.findIn K (.ref C) "__setattr__") (some (some (.builtin "object.__setattr__"))) && (decide (PySem.W.subIn K (.ref C) (.type "BaseException") = some true) && (decide (PySem.W.typeIn K (.ref C) = some (.type "type")) &&
  (PySem.W.keepIn K (.ref C) && (eqV (PySem.W.findIn K (.ref C) "__init__") (some (some (.ref (He.ma K C "__init__")))) && (decide (PySem.W.typeIn K (.ref (He.ma K C "__init__")) = some (.type "function")) && (eqV (PySem.W.findIn K (.ref C) fl) (some none) &&
  (xfB K C && decide (PySem.W.exmOne K (.ref C) (.ref C) = some true)))))))))
def exB (K : PySem.W.Frag) : Bool := eclB K (He.ga K "BadPattern") "thing" && (eclB K (He.ga K "BadPath") "path" && decide (PySem.W.exmOne K (.ref (He.ga K "BadPath")) (.ref (He.ga K "BadPattern")) = some false))
def dG (x : Str) (i : Nat) : He.DefD := ⟨(x, none), x, x, defArgs (top i), defBody (top i), defScope (top i), [], []⟩
def dI (x m q : Str) (i j : Nat) (ds : List He.Dv) : He.DefD := ⟨(x, some m), m, q, defArgs (inClass (top i) j), defBody (inClass (top i) j), defScope (inClass (top i) j), ds, []⟩
def fnL : List He.DefD := ([dG "is_name" 8, dG "is_path" 9, dG "matches" 13, dG "is_pattern" 14, dG "is_part" 15, dG "rows_of" 16, dG "some_matches" 17, dG "state_behind" 18, dG "moved" 19, dG "places_behind" 20, dG "settled" 21, dG "is_through" 22] : List He.DefD) ++ ([dG "_law_draw" 24, dG "_law_pick" 25, dG "_law_same" 26, dG "_law_fresh" 27, dG "_law_pool" 28, dG "_law_path" 29, dG "_law_pattern" 30, dG "_law_stood_for" 31, dG "_law_matches" 32, dG "_law_tried" 33, dG "law" 34, dI "BadPath" "__init__" "BadPath.__init__" 2 0 []] : List He.DefD) ++ ([dI "BadPattern" "__init__" "BadPattern.__init__" 3 0 []] : List He.DefD)
def gloL : List Str := (["is_name", "is_path", "matches", "is_pattern", "is_part", "rows_of", "some_matches", "state_behind", "moved", "places_behind", "settled", "is_through"] : List PySem.Str) ++ (["_law_draw", "_law_pick", "_law_same", "_law_fresh", "_law_pool", "_law_path", "_law_pattern", "_law_stood_for", "_law_matches", "_law_tried", "law", "BadPath"] : List PySem.Str) ++ (["BadPattern"] : List PySem.Str)
def freeL : List Str := (["int", "len", "range", "list", "tuple", "any", "all", "sorted", "isinstance", "enumerate", "zip", "str"] : List Str) ++ (["repr", "set"] : List Str)
def conL : List He.Fa := ([.str "STROKE" "/", .str "LETTERS" "abcdefghijklmnopqrstuvwxyz", .int "LONGEST" 8, .str "ONE" "*", .str "MANY" "**"] : List He.Fa)
def faL : List He.Fa := (gloL.map fun x => He.Fa.glo x) ++ ((freeL.map fun x => He.Fa.free x) ++ conL)
def tfL : List He.Defn := [("law", none)]
def isD (o : Option Obj) : Bool := match o with
  | some ⟨_, _, .dict _ _, _⟩ => true
  | _ => false
def hkL : PySem.W.Hook where
  α := He.AlX × Bool
  obs := fun s => (He.obsX 5 faL fnL [] tfL exB s.heap.get?, isD (s.heap.get? sysModules))
  val := fun w => (He.valX fnL [] w, true)
  says := fun w h => (∃ K : PySem.W.Frag, K.In h ∧ He.SaysX faL fnL [] tfL exB w h K) ∧ ∃ (o : Obj) (es : Array DictEntry) (n : Nat), h.get? sysModules = some o ∧ o.data = .dict es n
  of := fun w s e => by
    refine ⟨(He.hookX 5 faL fnL [] tfL exB).of w s (congrArg (fun z : He.AlX × Bool => z.1) e), ?_⟩
    have e2 : isD (s.heap.get? sysModules) = true := congrArg (fun z : He.AlX × Bool => z.2) e
    unfold isD at e2
    split at e2
    · rename_i c d es n sl ho
      exact ⟨_, es, n, ho, rfl⟩
    · cases e2
  keeps := fun w h h' ⟨a, o, es, n, h1, h2⟩ k => ⟨(He.hookX 5 faL fnL [] tfL exB).keeps w h h' a k, o, es, n, k _ _ h1, h2⟩
abbrev RL : PySem.W.OpenRow := PySem.W.OpenLaw.row PySem.Challenge.rw_trueagain_k47_patterns_matched
def obL (s : PySem.W.SharedT) : hkL.α := (He.obsX 5 faL fnL [] tfL exB (HandSHeadRun.getT s), isD (HandSHeadRun.getT s sysModules))
theorem obL_eq (s : PySem.W.SharedT) : obL s = hkL.obs s.abs := by
  have e : HandSHeadRun.getT s = s.abs.heap.get? := funext (HandSHeadRun.getT_eq s)
  show (He.obsX 5 faL fnL [] tfL exB (HandSHeadRun.getT s), isD (HandSHeadRun.getT s sysModules)) = _
  rw [e]
  rfl
def looseL : List PySem.Str := (["AgainError", "BadPath", "BadPattern", "is_name", "is_path", "matches", "is_pattern", "is_part", "rows_of", "some_matches", "state_behind", "moved"] : List PySem.Str) ++ (["places_behind", "settled", "is_through", "_law_draw", "_law_pick", "_law_same", "_law_fresh", "_law_pool", "_law_path", "_law_pattern", "_law_stood_for", "_law_matches"] : List PySem.Str) ++ (["_law_tried", "LETTERS", "LONGEST", "STROKE", "ONE", "MANY"] : List PySem.Str)
theorem runL (w : World) : HandSHeadRun.RunEq RL (PySem.W.view RL.prog [34]) hkL obL 20000 looseL w := by
  intro os
  kernel_rfl
end Z

set_option maxHeartbeats 0
namespace Z
open PySem PySem.Spec PyProof.Rows L2 EG RP XW
theorem fun_of {K : PySem.W.Frag} {x q : Str} {st : Stmt} {f : Addr} {fd : FuncData} (F : FunD K x q (defArgs st) (defBody st) (defScope st) [] [] f fd) : Fun K x q st f fd := by
  obtain ⟨oc, od, dV, kV, doc, pm, an, cdv, ct, osl, rfl, lk, hcd, hD, hK⟩ := F.ex
  rcases hD with ⟨_, rfl⟩ | ⟨e, _⟩
  · exact ⟨⟨oc, od, kV, doc, pm, an, cdv, ct, osl, rfl, lk, hcd⟩, F.kp⟩
  · exact absurd rfl e
theorem ecl_of {K : PySem.W.Frag} {C : Addr} {mg : Str → Option Value} {nm fl : Str} (h : eclB K C fl = true) (m : mg nm = some (.ref C)) : XW.ECl K mg nm fl C (He.ma K C "__init__") := by
  obtain ⟨h1, h⟩ := He.ba h
  obtain ⟨h2, h⟩ := He.ba h
  obtain ⟨h3, h⟩ := He.ba h
  obtain ⟨h4, h⟩ := He.ba h
  obtain ⟨h5, h⟩ := He.ba h
  obtain ⟨h6, h⟩ := He.ba h
  obtain ⟨h7, h⟩ := He.ba h
  obtain ⟨h8, h⟩ := He.ba h
  obtain ⟨h9, h10⟩ := He.ba h
  exact ⟨m, ⟨oexB_ok h1, of_decide_eq_true h2, of_decide_eq_true h3, of_decide_eq_true h4, h5⟩, of_decide_eq_true h6, of_decide_eq_true h7, of_decide_eq_true h8, xfB_ok h9, of_decide_eq_true h10⟩
section
variable {P : Program} {w : World} {K : PySem.W.Frag} {h : Heap} {mg : Str → Option Value} {f : Addr}
theorem whole (X : K.In h) (G : h.Ns mainGlobals mg) (hfa : mg ("law" : Str) = some (.ref f)) (c : He.SaysX faL fnL [] tfL exB w h K) :
    ∃ fd : FuncData, (∀ (s : Shared) (u : Value), BindsTo s fd ⟨[u], []⟩ [("_law_script", u)]) ∧ ∀ base : Heap, K.In base → base.Ns mainGlobals mg → (∀ p ∈ [He.cT K ("law", none)], LamX.TabB base mg p.1 p.2) → (base.get? sysModules).isSome = true → FnG P w K mg base CX0 11 f fd ["_law_script"] (spLaw K (He.cT K ("law", none)).2) := by
  have D := c.t.d
  have ex := c.more
  have gl : ∀ x ∈ gloL, mg x = some (.ref (He.ga K x)) := fun x hx => He.glo_ok X G (D.facts (f := .glo x) (List.mem_append_left _ (List.mem_map.mpr ⟨x, hx, rfl⟩)))
  have fr : ∀ x ∈ freeL, mg x = none := fun x hx => He.free_ok X G (D.facts (f := .free x) (List.mem_append_right _ (List.mem_append_left _ (List.mem_map.mpr ⟨x, hx, rfl⟩))))
  have co : ∀ x ∈ conL, x.ok K = true := fun x hx => D.facts (List.mem_append_right _ (List.mem_append_right _ hx))
  have e := hfa.symm.trans (gl "law" (by decide +kernel))
  cases e
  obtain ⟨d0, U0⟩ := D.def_ 0 (d := dG "is_name" 8) rfl
  have F0 : Fun K "is_name" "is_name" (top 8) (He.ga K "is_name") d0 := fun_of U0
  have b0 : L2.Binds K d0 ["thing"] [] := F0.binds fun _ _ _ _ _ _ us hl => match us, hl with | [_], _ => rfl
  have a0 : At K mg "is_name" (He.ga K "is_name") d0 ["thing"] := ⟨gl _ (by decide +kernel), F0.kp, b0⟩
  obtain ⟨d1, U1⟩ := D.def_ 1 (d := dG "is_path" 9) rfl
  have F1 : Fun K "is_path" "is_path" (top 9) (He.ga K "is_path") d1 := fun_of U1
  have b1 : L2.Binds K d1 ["thing"] [] := F1.binds fun _ _ _ _ _ _ us hl => match us, hl with | [_], _ => rfl
  have a1 : At K mg "is_path" (He.ga K "is_path") d1 ["thing"] := ⟨gl _ (by decide +kernel), F1.kp, b1⟩
  obtain ⟨d2, U2⟩ := D.def_ 2 (d := dG "matches" 13) rfl
  have F2 : Fun K "matches" "matches" (top 13) (He.ga K "matches") d2 := fun_of U2
  have b2 : L2.Binds K d2 ["pattern", "path"] [] := F2.binds fun _ _ _ _ _ _ us hl => match us, hl with | [_, _], _ => rfl
  have a2 : At K mg "matches" (He.ga K "matches") d2 ["pattern", "path"] := ⟨gl _ (by decide +kernel), F2.kp, b2⟩
  obtain ⟨d3, U3⟩ := D.def_ 3 (d := dG "is_pattern" 14) rfl
  have F3 : Fun K "is_pattern" "is_pattern" (top 14) (He.ga K "is_pattern") d3 := fun_of U3
  have b3 : L2.Binds K d3 ["thing"] [] := F3.binds fun _ _ _ _ _ _ us hl => match us, hl with | [_], _ => rfl
  have a3 : At K mg "is_pattern" (He.ga K "is_pattern") d3 ["thing"] := ⟨gl _ (by decide +kernel), F3.kp, b3⟩
  obtain ⟨d4, U4⟩ := D.def_ 4 (d := dG "is_part" 15) rfl
  have F4 : Fun K "is_part" "is_part" (top 15) (He.ga K "is_part") d4 := fun_of U4
  have b4 : L2.Binds K d4 ["text"] [] := F4.binds fun _ _ _ _ _ _ us hl => match us, hl with | [_], _ => rfl
  have a4 : At K mg "is_part" (He.ga K "is_part") d4 ["text"] := ⟨gl _ (by decide +kernel), F4.kp, b4⟩
  obtain ⟨d5, U5⟩ := D.def_ 5 (d := dG "rows_of" 16) rfl
  have F5 : Fun K "rows_of" "rows_of" (top 16) (He.ga K "rows_of") d5 := fun_of U5
  have b5 : L2.Binds K d5 ["patterns"] [] := F5.binds fun _ _ _ _ _ _ us hl => match us, hl with | [_], _ => rfl
  have a5 : At K mg "rows_of" (He.ga K "rows_of") d5 ["patterns"] := ⟨gl _ (by decide +kernel), F5.kp, b5⟩
  obtain ⟨d6, U6⟩ := D.def_ 6 (d := dG "some_matches" 17) rfl
  have F6 : Fun K "some_matches" "some_matches" (top 17) (He.ga K "some_matches") d6 := fun_of U6
  have b6 : L2.Binds K d6 ["rows", "path"] [] := F6.binds fun _ _ _ _ _ _ us hl => match us, hl with | [_, _], _ => rfl
  have a6 : At K mg "some_matches" (He.ga K "some_matches") d6 ["rows", "path"] := ⟨gl _ (by decide +kernel), F6.kp, b6⟩
  obtain ⟨d7, U7⟩ := D.def_ 7 (d := dG "state_behind" 18) rfl
  have F7 : Fun K "state_behind" "state_behind" (top 18) (He.ga K "state_behind") d7 := fun_of U7
  have b7 : L2.Binds K d7 ["rows", "names"] [] := F7.binds fun _ _ _ _ _ _ us hl => match us, hl with | [_, _], _ => rfl
  have a7 : At K mg "state_behind" (He.ga K "state_behind") d7 ["rows", "names"] := ⟨gl _ (by decide +kernel), F7.kp, b7⟩
  obtain ⟨d8, U8⟩ := D.def_ 8 (d := dG "moved" 19) rfl
  have F8 : Fun K "moved" "moved" (top 19) (He.ga K "moved") d8 := fun_of U8
  have b8 : L2.Binds K d8 ["rows", "state", "name"] [] := F8.binds fun _ _ _ _ _ _ us hl => match us, hl with | [_, _, _], _ => rfl
  have a8 : At K mg "moved" (He.ga K "moved") d8 ["rows", "state", "name"] := ⟨gl _ (by decide +kernel), F8.kp, b8⟩
  obtain ⟨d9, U9⟩ := D.def_ 9 (d := dG "places_behind" 20) rfl
  have F9 : Fun K "places_behind" "places_behind" (top 20) (He.ga K "places_behind") d9 := fun_of U9
  have b9 : L2.Binds K d9 ["row", "places", "name"] [] := F9.binds fun _ _ _ _ _ _ us hl => match us, hl with | [_, _, _], _ => rfl
  have a9 : At K mg "places_behind" (He.ga K "places_behind") d9 ["row", "places", "name"] := ⟨gl _ (by decide +kernel), F9.kp, b9⟩
  obtain ⟨d10, U10⟩ := D.def_ 10 (d := dG "settled" 21) rfl
  have F10 : Fun K "settled" "settled" (top 21) (He.ga K "settled") d10 := fun_of U10
  have b10 : L2.Binds K d10 ["row", "places"] [] := F10.binds fun _ _ _ _ _ _ us hl => match us, hl with | [_, _], _ => rfl
  have a10 : At K mg "settled" (He.ga K "settled") d10 ["row", "places"] := ⟨gl _ (by decide +kernel), F10.kp, b10⟩
  obtain ⟨d11, U11⟩ := D.def_ 11 (d := dG "is_through" 22) rfl
  have F11 : Fun K "is_through" "is_through" (top 22) (He.ga K "is_through") d11 := fun_of U11
  have b11 : L2.Binds K d11 ["rows", "state"] [] := F11.binds fun _ _ _ _ _ _ us hl => match us, hl with | [_, _], _ => rfl
  have a11 : At K mg "is_through" (He.ga K "is_through") d11 ["rows", "state"] := ⟨gl _ (by decide +kernel), F11.kp, b11⟩
  obtain ⟨d12, U12⟩ := D.def_ 12 (d := dG "_law_draw" 24) rfl
  have F12 : Fun K "_law_draw" "_law_draw" (top 24) (He.ga K "_law_draw") d12 := fun_of U12
  have b12 : L2.Binds K d12 ["_law_stream", "_law_many"] [] := F12.binds fun _ _ _ _ _ _ us hl => match us, hl with | [_, _], _ => rfl
  have a12 : At K mg "_law_draw" (He.ga K "_law_draw") d12 ["_law_stream", "_law_many"] := ⟨gl _ (by decide +kernel), F12.kp, b12⟩
  obtain ⟨d13, U13⟩ := D.def_ 13 (d := dG "_law_pick" 25) rfl
  have F13 : Fun K "_law_pick" "_law_pick" (top 25) (He.ga K "_law_pick") d13 := fun_of U13
  have b13 : L2.Binds K d13 ["_law_stream", "_law_things"] [] := F13.binds fun _ _ _ _ _ _ us hl => match us, hl with | [_, _], _ => rfl
  have a13 : At K mg "_law_pick" (He.ga K "_law_pick") d13 ["_law_stream", "_law_things"] := ⟨gl _ (by decide +kernel), F13.kp, b13⟩
  obtain ⟨d14, U14⟩ := D.def_ 14 (d := dG "_law_same" 26) rfl
  have F14 : Fun K "_law_same" "_law_same" (top 26) (He.ga K "_law_same") d14 := fun_of U14
  have b14 : L2.Binds K d14 ["_law_found", "_law_due"] [] := F14.binds fun _ _ _ _ _ _ us hl => match us, hl with | [_, _], _ => rfl
  have a14 : At K mg "_law_same" (He.ga K "_law_same") d14 ["_law_found", "_law_due"] := ⟨gl _ (by decide +kernel), F14.kp, b14⟩
  obtain ⟨d15, U15⟩ := D.def_ 15 (d := dG "_law_fresh" 27) rfl
  have F15 : Fun K "_law_fresh" "_law_fresh" (top 27) (He.ga K "_law_fresh") d15 := fun_of U15
  have b15 : L2.Binds K d15 ["_law_stream", "_law_taken"] [] := F15.binds fun _ _ _ _ _ _ us hl => match us, hl with | [_, _], _ => rfl
  have a15 : At K mg "_law_fresh" (He.ga K "_law_fresh") d15 ["_law_stream", "_law_taken"] := ⟨gl _ (by decide +kernel), F15.kp, b15⟩
  obtain ⟨d16, U16⟩ := D.def_ 16 (d := dG "_law_pool" 28) rfl
  have F16 : Fun K "_law_pool" "_law_pool" (top 28) (He.ga K "_law_pool") d16 := fun_of U16
  have b16 : L2.Binds K d16 ["_law_stream", "_law_many"] [] := F16.binds fun _ _ _ _ _ _ us hl => match us, hl with | [_, _], _ => rfl
  have a16 : At K mg "_law_pool" (He.ga K "_law_pool") d16 ["_law_stream", "_law_many"] := ⟨gl _ (by decide +kernel), F16.kp, b16⟩
  obtain ⟨d17, U17⟩ := D.def_ 17 (d := dG "_law_path" 29) rfl
  have F17 : Fun K "_law_path" "_law_path" (top 29) (He.ga K "_law_path") d17 := fun_of U17
  have b17 : L2.Binds K d17 ["_law_stream", "_law_pool_here", "_law_most"] [] := F17.binds fun _ _ _ _ _ _ us hl => match us, hl with | [_, _, _], _ => rfl
  have a17 : At K mg "_law_path" (He.ga K "_law_path") d17 ["_law_stream", "_law_pool_here", "_law_most"] := ⟨gl _ (by decide +kernel), F17.kp, b17⟩
  obtain ⟨d18, U18⟩ := D.def_ 18 (d := dG "_law_pattern" 30) rfl
  have F18 : Fun K "_law_pattern" "_law_pattern" (top 30) (He.ga K "_law_pattern") d18 := fun_of U18
  have b18 : L2.Binds K d18 ["_law_stream", "_law_pool_here", "_law_most"] [] := F18.binds fun _ _ _ _ _ _ us hl => match us, hl with | [_, _, _], _ => rfl
  have a18 : At K mg "_law_pattern" (He.ga K "_law_pattern") d18 ["_law_stream", "_law_pool_here", "_law_most"] := ⟨gl _ (by decide +kernel), F18.kp, b18⟩
  obtain ⟨d19, U19⟩ := D.def_ 19 (d := dG "_law_stood_for" 31) rfl
  have F19 : Fun K "_law_stood_for" "_law_stood_for" (top 31) (He.ga K "_law_stood_for") d19 := fun_of U19
  have b19 : L2.Binds K d19 ["_law_stream", "_law_pool_here", "_law_pattern_here"] [] := F19.binds fun _ _ _ _ _ _ us hl => match us, hl with | [_, _, _], _ => rfl
  have a19 : At K mg "_law_stood_for" (He.ga K "_law_stood_for") d19 ["_law_stream", "_law_pool_here", "_law_pattern_here"] := ⟨gl _ (by decide +kernel), F19.kp, b19⟩
  obtain ⟨d20, U20⟩ := D.def_ 20 (d := dG "_law_matches" 32) rfl
  have F20 : Fun K "_law_matches" "_law_matches" (top 32) (He.ga K "_law_matches") d20 := fun_of U20
  have b20 : L2.Binds K d20 ["_law_pattern_here", "_law_path_here"] [] := F20.binds fun _ _ _ _ _ _ us hl => match us, hl with | [_, _], _ => rfl
  have a20 : At K mg "_law_matches" (He.ga K "_law_matches") d20 ["_law_pattern_here", "_law_path_here"] := ⟨gl _ (by decide +kernel), F20.kp, b20⟩
  obtain ⟨d21, U21⟩ := D.def_ 21 (d := dG "_law_tried" 33) rfl
  have F21 : Fun K "_law_tried" "_law_tried" (top 33) (He.ga K "_law_tried") d21 := fun_of U21
  have b21 : L2.Binds K d21 ["_law_ask"] [] := F21.binds fun _ _ _ _ _ _ us hl => match us, hl with | [_], _ => rfl
  have a21 : At K mg "_law_tried" (He.ga K "_law_tried") d21 ["_law_ask"] := ⟨gl _ (by decide +kernel), F21.kp, b21⟩
  obtain ⟨d22, U22⟩ := D.def_ 22 (d := dG "law" 34) rfl
  have F22 : Fun K "law" "law" (top 34) (He.ga K "law") d22 := fun_of U22
  obtain ⟨d23, U23⟩ := D.def_ 23 (d := dI "BadPath" "__init__" "BadPath.__init__" 2 0 []) rfl
  have F23 : Fun K "__init__" "BadPath.__init__" (inClass (top 2) 0) (He.ma K (He.ga K "BadPath") "__init__") d23 := fun_of U23
  have b23 : L2.Binds K d23 ["self", "path"] [] := F23.binds fun _ _ _ _ _ _ us hl => match us, hl with | [_, _], _ => rfl
  obtain ⟨d24, U24⟩ := D.def_ 24 (d := dI "BadPattern" "__init__" "BadPattern.__init__" 3 0 []) rfl
  have F24 : Fun K "__init__" "BadPattern.__init__" (inClass (top 3) 0) (He.ma K (He.ga K "BadPattern") "__init__") d24 := fun_of U24
  have b24 : L2.Binds K d24 ["self", "thing"] [] := F24.binds fun _ _ _ _ _ _ us hl => match us, hl with | [_, _], _ => rfl
  have bL : ∀ (s : Shared) (u : Value), BindsTo s d22 ⟨[u], []⟩ [("_law_script", u)] := by
    obtain ⟨oc, od, kV, doc, pm, an, cdv, ct, osl, rfl, lk, hcd⟩ := F22.ex
    exact fun s u => .of_eq rfl
  refine ⟨d22, bL, fun base KB GB hTB SM => ?_⟩
  obtain ⟨x1, x2⟩ := He.ba ex
  obtain ⟨x2, x3⟩ := He.ba x2
  have T : TB mg := ⟨(fr _ (by decide +kernel)), (fr _ (by decide +kernel)), (fr _ (by decide +kernel)), (fr _ (by decide +kernel)), (fr _ (by decide +kernel)), (fr _ (by decide +kernel)), (fr _ (by decide +kernel)), (fr _ (by decide +kernel)), (fr _ (by decide +kernel)), (fr _ (by decide +kernel)), (fr _ (by decide +kernel)), (fr _ (by decide +kernel))⟩
  have T0 : TPk mg := ⟨T, He.str_ok X G (co _ (List.mem_cons_self ..)), He.str_ok X G (co _ (List.mem_cons_of_mem _ (List.mem_cons_self ..))), He.int_ok X G (co _ (List.mem_cons_of_mem _ (List.mem_cons_of_mem _ (List.mem_cons_self ..))))⟩
  obtain ⟨t1, mONE⟩ := He.str_ok X G (co _ (List.mem_cons_of_mem _ (List.mem_cons_of_mem _ (List.mem_cons_of_mem _ (List.mem_cons_self ..)))))
  obtain ⟨t2, mMANY⟩ := He.str_ok X G (co _ (List.mem_cons_of_mem _ (List.mem_cons_of_mem _ (List.mem_cons_of_mem _ (List.mem_cons_of_mem _ (List.mem_cons_self ..))))))
  have BP : BPat K mg (He.ga K "BadPattern") (He.ma K (He.ga K "BadPattern") "__init__") := ecl_of x1 (gl _ (by decide +kernel))
  have BQ : BPath K mg (He.ga K "BadPath") (He.ma K (He.ga K "BadPath") "__init__") := ecl_of x2 (gl _ (by decide +kernel))
  have GBP := ok_pini (P := P) (w := w) (base := base) F24 BP
  have GBQ := ok_qini (P := P) (w := w) (base := base) F23 BQ
  have GN := ok_isName (P := P) (w := w) (base := base) F0 T0
  have GIPath := ok_isPathV (P := P) (w := w) (base := base) F1 T0 a0 GN
  have GIPart := ok_isPart (P := P) (w := w) (base := base) F4 mONE mMANY a0 GN
  have GIPat := ok_isPat (P := P) (w := w) (base := base) F3 T0 a4 GIPart
  have GRows := ok_rowsOf (P := P) (w := w) (base := base) F5 T0 a3 GIPat BP b24 GBP
  have GSet := ok_settled (P := P) (w := w) (base := base) F10 T mMANY
  have GPl := ok_places (P := P) (w := w) (base := base) F9 T mONE mMANY a10 GSet
  have GMov := ok_moved (P := P) (w := w) (base := base) F8 T a9 GPl
  have GThr := ok_through (P := P) (w := w) (base := base) F11 T
  have GBeh := ok_behind (P := P) (w := w) (base := base) F7 T a10 GSet a8 GMov
  have GSome := ok_some (P := P) (w := w) (base := base) F6 T0 a7 GBeh a11 GThr
  have GMat := ok_matches (P := P) (w := w) (base := base) F2 a5 GRows a1 GIPath a6 GSome BQ b23 GBQ
  have GD : FnOk P w K mg base CX0 1 (He.ga K "_law_draw") d12 ["_law_stream", "_law_many"] spDraw := ok_draw F12 ⟨(fr _ (by decide +kernel))⟩
  have GPk := ok_pick (P := P) (w := w) (base := base) F13 ⟨T.int, T.len, T.range, T.list, a12.m, a12.k, a12.b⟩ GD
  have GSa := ok_same (P := P) (w := w) (base := base) F14 (fr _ (by decide +kernel)) SM
  have GFr := ok_fresh (P := P) (w := w) (base := base) F15 T a12 a13 GD GPk
  have GPo := ok_pool (P := P) (w := w) (base := base) F16 T a15 GFr
  have GPa := ok_path (P := P) (w := w) (base := base) F17 T a12 a13 GD GPk
  have GPat := ok_pattern (P := P) (w := w) (base := base) F18 T a12 a13 GD GPk
  have GSt := ok_stood (P := P) (w := w) (base := base) F19 T a12 a13 GD GPk
  have GLM := ok_lmat (P := P) (w := w) (base := base) F20 T (fr _ (by decide +kernel))
  let fa : Str → Addr := fun m => if m = "tried" then He.ga K "_law_tried" else if m = "draw" then He.ga K "_law_draw" else if m = "pick" then He.ga K "_law_pick" else if m = "pool" then He.ga K "_law_pool" else if m = "path" then He.ga K "_law_path" else if m = "pattern" then He.ga K "_law_pattern" else if m = "stood" then He.ga K "_law_stood_for" else if m = "lmat" then He.ga K "_law_matches" else if m = "matches" then He.ga K "matches" else He.ga K "_law_same"
  let fdd : Str → FuncData := fun m => if m = "tried" then d21 else if m = "draw" then d12 else if m = "pick" then d13 else if m = "pool" then d16 else if m = "path" then d17 else if m = "pattern" then d18 else if m = "stood" then d19 else if m = "lmat" then d20 else if m = "matches" then d2 else d14
  have tb := hTB _ (List.mem_singleton.mpr rfl)
  have V0 : LV P w K mg base (He.ga K "BadPattern") (He.ga K "BadPath") (He.ma K (He.ga K "BadPattern") "__init__") (He.ma K (He.ga K "BadPath") "__init__") (He.cT K ("law", none)).1 (He.cT K ("law", none)).2 fa fdd :=
    { T := T, BP := BP, BQ := BQ, no := of_decide_eq_true x3, TB := tb, FT := F21, aT := a21, aD := a12, GD := GD, aP := a13, GP := GPk, aPo := a16, GPo := GPo, aPa := a17, GPa := GPa, aPattern := a18, GPattern := GPat,
      aStood := a19, GStood := GSt, aLMat := a20, GLMat := GLM, aMatches := a2, GMatches := GMat, aSa := a14, GSa := GSa }
  refine ok_law F22 (fun lk => ?_) V0
  obtain ⟨oc, od, kV, doc, pm, an, cdv, ct, osl, rfl, lk2, hcd⟩ := F22.ex
  rw [lk] at lk2
  cases lk2
  obtain ⟨c0, rfl⟩ := He.codeIn_ref hcd
  have ec : He.codeOf K ("law", none) = c0 := He.codeOf_eq lk rfl
  exact congrArg Value.ref ec.symm
end
end Z

set_option maxHeartbeats 0
open PySem PySem.W PySem.Calls PyProof.Rows
theorem PySem.Challenge.cw_trueagain_k47_patterns_matched_holds : PySem.Challenge.rw_trueagain_k47_patterns_matched.Holds := by
  w_on; o_law
  refine HandSHeadRun.head_any (r := Z.RL) (q := view Z.RL.prog [34]) (H := Z.hkL) (ob := Z.obL) (M := 20000) (loose := Z.looseL) (d := HandSHeadRun.topDef Z.RL.prog 34) (kwd := []) Z.obL_eq
    (by kernel_rfl) (fun s => by kernel_rfl) Z.runL (by kernel_rfl) (by kernel_rfl) (by kernel_rfl) (by rfl) (by first | assumption | decide +kernel) (by decide +kernel) ⟨rfl, rfl, rfl, rfl, rfl, by decide +kernel⟩ ?hw ?hc
  case hw => w_witness2
  case hc =>
    refine EG.walkG (l := PySem.Challenge.rw_trueagain_k47_patterns_matched) (n := 63) (k := 11) (x := "_law_script") rfl (by decide) (by kernel_rfl) ⟨rfl, by decide, by decide⟩ ?F
    intro w mg fa h Y GG hmg0
    obtain ⟨⟨K, KX, c⟩, sys⟩ := Y
    have hmg : mg ("law" : PySem.Str) = some (.ref fa) := by
      have e : (HandSHeadRun.topDef Z.RL.prog 34).name = ("law" : PySem.Str) := by kernel_rfl
      rw [← e]
      exact hmg0
    obtain ⟨fd, hb, hF⟩ := Z.whole (P := PySem.Challenge.rw_trueagain_k47_patterns_matched.prog) (w := w) KX GG hmg c
    have mem : ∀ p ∈ [He.cT K ("law", none)], ∃ x ∈ Z.tfL, p = He.cT K x := fun p hp => by
      obtain ⟨x, hx, q⟩ := List.mem_map.mp (show p ∈ Z.tfL.map (He.cT K) from hp)
      exact ⟨x, hx, q.symm⟩
    exact ⟨K, [He.cT K ("law", none)], fd, Z.spLaw K (He.cT K ("law", none)).2, KX, fun p hp => (by obtain ⟨x, hx, rfl⟩ := mem p hp; exact c.empty _ hx), fun p hp => (by obtain ⟨x, hx, rfl⟩ := mem p hp; exact c.out _ hx), fun p hp => (by obtain ⟨x, hx, rfl⟩ := mem p hp; exact codeHd_of_K KX (c.hd _ hx)), sys, hb,
      fun H a ns hl _ hT hS => ⟨a, ns, rfl, hl, hS, LamX.TabS.nil (hT _ (List.mem_singleton.mpr rfl)), fun _ => rfl⟩, hF⟩
