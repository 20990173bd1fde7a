import PyProof.Rows.All
import Wide.All
import OpenK.AllK
import Wide.FinOn
import HandS.ForMost
import HandS.Wide
import HandS.Codes
import HandS.Conv
import HandS.Deep
import PySem.Challenge.RW_trueagain_k24_rules_told
import HandS.Walk
import HandS.IsInst
import HandS.StrMore
import HandS.SetKeys
import HandS.DictTup
import PyProof.DictMoreH
import HandS.OwnEq
import KE.KOpsOwn
import PyProof.InstNe
import HandS.IterVal
import HandS.OwnIter
import HandS.Exc
import HandS.TryOnly
import HandS.WordsExc
import HandS.ExcInit
import HandS.ExcField
import HandS.ExcOwn
import PyProof.ReprRoads
import HandS.Lambda
import HandS.DictEq
import PyProof.EqKinds
import HandS.EndTab
import HandS.Head0
import HandS.Head1
import HandS.Head2
import HandS.HeadEnd
import HandS.HeadHook1
import HandS.HeadHook2
import HandS.HeadHook3
import HandS.HeadHook4
import HandS.Defaults
set_option Elab.async false
set_option linter.all false
set_option maxRecDepth 100000
set_option maxHeartbeats 3900000
namespace R
open PySem PySem.Spec PyProof.Rows L2
open C8 (pss_cut tCut pe_gc)
def top (i : Nat) : Stmt := PySem.Challenge.pw_trueagain_k24_rules_told.main.body.getD i (.Pass ⟨0, 0, 0, 0⟩)
abbrev sDraw : Stmt := top 9
abbrev sPick : Stmt := top 10
abbrev sMixed : Stmt := top 11
abbrev sSame : Stmt := top 12
/-! the stream: its list of what is left, the number that is being used up, the count of draws, the mixed number -/
def SV (H : Hp) (st l : Addr) (ns : List Int) (a c m : Int) : Prop := H st = some (.lst [.ref l, .int a, .int c, .int m]) ∧ H l = some (.lst (ns.map V.int))
theorem SV.ne {H : Hp} {st l : Addr} {ns : List Int} {a c m : Int} (S : SV H st l ns a c m) : st ≠ l := by
  refine ne_of S.1 S.2 fun z => ?_
  have z2 : [V.ref l, V.int a, V.int c, V.int m] = ns.map V.int := HO.lst.inj z
  cases ns with
  | nil => cases z2
  | cons n r =>
    rw [List.map_cons] at z2
    have := (List.cons.inj z2).1
    cases this
def Good (H : Hp) (st l : Addr) (c : Int) : Prop := ∃ (ns : List Int) (a m : Int), SV H st l ns a c m ∧ ns.length ≤ 63 ∧ 0 ≤ a ∧ 0 ≤ m ∧ m < 2147483647
structure Strm (H : Hp) (st l : Addr) (c : Nat) : Prop where
  ex : Good H st l (c : Int)
theorem Strm.ne {H : Hp} {st l : Addr} {c : Nat} (S : Strm H st l c) : st ≠ l := by
  obtain ⟨ns, a, m, h, _⟩ := S.ex
  exact h.ne
/-- all but the stream is as it was -/
def But (st l : Addr) (H H' : Hp) : Prop := ∀ b o, H b = some o → b ≠ st → b ≠ l → H' b = some o
theorem But.refl {st l : Addr} {H : Hp} : But st l H H := fun _ _ e _ _ => e
theorem But.st {st l : Addr} {H H' : Hp} {o : HO} (B : But st l H H') : But st l H (upd H' st o) := fun b u e h1 h2 => by
  rw [upd_ne h1]
  exact B b u e h1 h2
theorem But.li {st l : Addr} {H H' : Hp} {o : HO} (B : But st l H H') : But st l H (upd H' l o) := fun b u e h1 h2 => by
  rw [upd_ne h2]
  exact B b u e h1 h2
theorem But.new {st l p : Addr} {H H' : Hp} {o : HO} (B : But st l H H') (h : H' p = none) : But st l H (upd H' p o) := fun b u e h1 h2 => by
  have q := B b u e h1 h2
  rw [upd_ne (ne_of_none q h)]
  exact q
theorem SV.st {H : Hp} {st l : Addr} {ns : List Int} {a c m a' c' m' : Int} {xs : List V} (S : SV H st l ns a c m) (e : xs = [.ref l, .int a', .int c', .int m']) : SV (upd H st (.lst xs)) st l ns a' c' m' := by
  subst e
  refine ⟨upd_same, ?_⟩
  rw [upd_ne S.ne.symm]
  exact S.2
theorem SV.new {H : Hp} {st l p : Addr} {ns : List Int} {a c m : Int} {o : HO} (S : SV H st l ns a c m) (h : H p = none) : SV (upd H p o) st l ns a c m := by
  refine ⟨?_, ?_⟩
  · rw [upd_ne (ne_of_none S.1 h)]
    exact S.1
  · rw [upd_ne (ne_of_none S.2 h)]
    exact S.2
theorem SV.li {H : Hp} {st l : Addr} {ns ns' : List Int} {a c m : Int} {xs : List V} (S : SV H st l ns a c m) (e : xs = ns'.map V.int) : SV (upd H l (.lst xs)) st l ns' a c m := by
  subst e
  refine ⟨?_, upd_same⟩
  rw [upd_ne S.ne]
  exact S.1
def spDraw : Sp := fun vs H Q _ => ∃ (st l : Addr) (c : Nat) (many : Int), vs = [.ref st, .int many] ∧ Strm H st l c ∧ c ≤ 1000000 ∧ 0 < many ∧ many < 1000000 ∧
  ∀ (d : Int) (H' : Hp), 0 ≤ d → d < many → But st l H H' → Strm H' st l (c + 1) → Q (.int d) H'
structure TDraw (mg : Str → Option Value) : Prop where
  int : mg "int" = none
section
variable {P : Program} {w : World} {K : PySem.W.Frag} {mg : Str → Option Value} {base : Heap}
theorem dp_ints {H : Hp} : ∀ ns : List Int, DpAll K H (ns.map V.int) (ns.map PyData.int)
  | [] => .nil
  | n :: r => .cons (.int n) (dp_ints r)
theorem scD : FnScope ["_law_stream", "_law_many", "_law_digit", "_law_mixed_here"] ["_law_stream", "_law_many"] (defScope sDraw) := ⟨rfl, rfl, rfl, by decide +kernel, rfl, by decide +kernel, by decide +kernel⟩
theorem ok_draw {f : Addr} {fd : FuncData} (F : Fun K "_law_draw" "_law_draw" sDraw f fd) (T : TDraw mg) : FnOk P w K mg base CX0 1 f fd ["_law_stream", "_law_many"] spDraw := by
  refine F.ok scD (fun vs H Q E h => ?_) (fun cdv A outer s H vs Q E hr h => ?_)
  · obtain ⟨st, l, c, many, rfl, _⟩ := h
    rfl
  · obtain ⟨st, l, c, many, rfl, S, hc, hm0, hm1, k⟩ := h
    have hu := hr.units
    refine ⟨_, pss_cut (ps_asg (pe_op op_add (pe_ix ix_list (pv 0) pe_int (fun _ _ => rfl)) pe_int) (pg_sub (pv 0) pe_int set_list))
      (pss_cut (ps_if (PW.pt (pw_and (pt_cmpR op_eq (pe_ix ix_list (pv 0) pe_int (fun _ _ => rfl)) pe_int (nomark _)) (pw_and1 (pt_cmpR (op_neD hu) (pe_ix ix_list (pv 0) pe_int (fun _ _ => rfl)) (pe_lst pa_nil) (nomark _)))))
        (pss_cut (ps_asg (pe_bm PySem.F.plainAttrs_list PySem.F.slot_list_pop PySem.F.type_list_pop mt_popAt (pe_ix ix_list (pv 0) pe_int (fun _ _ => rfl)) (pa_cons pe_int pa_nil)) (pg_sub (pv 0) pe_int set_list))
          (pss_one (ps_if (pt_cmpR op_lt (pe_ix ix_list (pv 0) pe_int (fun _ _ => rfl)) (pe_op op_pow pe_int pe_int) (nomark _))
            (pss_cut (ps_asg (pe_op op_mod (pe_callTy call_int1 (by rfl) T.int (by decide +kernel) (pa_cons (pe_op op_add (pe_op op_add (pe_op op_mul (pe_ix ix_list (pv 0) pe_int (fun _ _ => rfl)) pe_int) (pe_ix ix_list (pv 0) pe_int (fun _ _ => rfl))) pe_int) pa_nil)) pe_int) (pg_sub (pv 0) pe_int set_list))
              (pss_one (ps_asg pe_int (pg_sub (pv 0) pe_int set_list)))) pss_nil)))
        pss_nil)
      (pss_cut (ps_if (pt_cmpR op_gt (pe_ix ix_list (pv 0) pe_int (fun _ _ => rfl)) pe_int (nomark _))
        (pss_cons (ps_set (i := 2) scD.nd rfl (Or.inl rfl) (pe_op op_mod (pe_callTy call_int1 (by rfl) T.int (by decide +kernel) (pa_cons (pe_ix ix_list (pv 0) pe_int (fun _ _ => rfl)) pa_nil)) (pv 1)))
          (pss_cons (ps_asg (pe_op op_fdivW (pe_ix ix_list (pv 0) pe_int (fun _ _ => rfl)) (pv 1)) (pg_sub (pv 0) pe_int set_list))
            (pss_one (ps_ret (pv 2))))) pss_nil)
      (pss_cons (ps_set (i := 3) scD.nd rfl (Or.inl rfl) (pe_op op_mod (pe_op op_pow (pe_op op_add (pe_op op_add (pe_ix ix_list (pv 0) pe_int (fun _ _ => rfl)) (pe_op op_mul pe_int (pe_ix ix_list (pv 0) pe_int (fun _ _ => rfl)))) pe_int) pe_int) pe_int))
        (pss_one (ps_ret (pe_op op_mod (pe_op op_mod (pe_op op_pow (pe_op op_add (pe_op op_add (pe_op op_mul (pv 3) pe_int)
            (pe_op op_mul (pe_op op_mul pe_int (pe_ix ix_list (pv 0) pe_int (fun _ _ => rfl))) (pe_ix ix_list (pv 0) pe_int (fun _ _ => rfl)))) pe_int) pe_int) pe_int) (pv 1))))))), ?_⟩
    obtain ⟨ns, a, m, hS, hns, ha, hm, hm2⟩ := S.ex
    -- stream[2] = stream[2] + 1
    refine ⟨fun σ H' => σ = [some (.ref st), some (.int many), none, none] ∧ But st l H H' ∧ SV H' st l ns a ((c + 1 : Nat) : Int) m,
      ⟨_, rfl, st, _, _, _, rfl, rfl, SqL.of hS.1, rfl, _, _, rfl, rfl, _, rfl, st, _, 2, 2, rfl, rfl, hS.1, rfl, rfl, But.refl.st, hS.st rfl⟩, ?_⟩
    rintro _ H1 ⟨rfl, B1, S1⟩
    -- if stream[1] == 0 and stream[0] != []: ..
    refine ⟨fun σ H' => σ = [some (.ref st), some (.int many), none, none] ∧ But st l H H' ∧ Good H' st l ((c + 1 : Nat) : Int),
      ⟨_, rfl, st, _, _, _, rfl, rfl, SqL.of S1.1, rfl, rfl, _, rfl, ?_⟩, ?_⟩
    · refine ite2 (fun ea => ?_) (fun _ => iteF ⟨rfl, B1, ns, a, m, S1, hns, ha, hm, hm2⟩)
      refine ⟨_, rfl, st, _, _, _, rfl, rfl, SqL.of S1.1, rfl, Nat.zero_le _, fun p hp => ?_⟩
      have S2 := S1.new (o := .lst []) hp
      have B2 := B1.new (o := .lst []) hp
      refine ⟨.list (ns.map .int), .list [], .lst (SqL.of S2.2) ?_, .lst (SqL.of upd_same) .nil, ?_, rfl, _, rfl, ?_⟩
      · exact dp_ints ns
      · exact PySem.W.shaped_ints ns
      · cases ns with
        | nil => exact iteF ⟨rfl, B2, [], a, m, S2, hns, ha, hm, hm2⟩
        | cons n r =>
          refine iteT ?_
          have hns' : r.length ≤ 63 := by
            rw [List.length_cons] at hns
            omega
          have e0 : seqIndex? 0 (((n :: r).map V.int).length) = some 0 := by
            rw [List.length_map, List.length_cons]
            simp [seqIndex?]
          -- stream[1] = stream[0].pop(0)
          refine ⟨fun σ H' => σ = [some (.ref st), some (.int many), none, none] ∧ But st l H H' ∧ SV H' st l r n ((c + 1 : Nat) : Int) m,
            ⟨_, rfl, st, _, _, _, rfl, rfl, SqL.of S2.1, rfl, .inl ⟨rfl, _, SqL.of S2.2⟩, l, _, 0, 0, _, rfl, rfl, S2.2, by decide, by decide, e0, rfl, _, rfl, st, _, 1, 1, rfl, rfl, (S2.li (ns' := r) rfl).1, rfl, rfl, B2.li.st, (S2.li (ns' := r) rfl).st rfl⟩, ?_⟩
          rintro _ H3 ⟨rfl, B3, S3⟩
          -- if stream[1] < 10 ** 18: ..
          refine ⟨_, rfl, st, _, _, _, rfl, rfl, SqL.of S3.1, rfl, _, _, rfl, rfl, ⟨by decide, by decide, by decide⟩, _, _, rfl, rfl, _, rfl, ?_⟩
          refine ite2 (fun lt => ?_) (fun ge => ?_)
          · refine ⟨fun σ H' => σ = [some (.ref st), some (.int many), none, none] ∧ But st l H H' ∧ ∃ m' : Int, SV H' st l r n ((c + 1 : Nat) : Int) m' ∧ 0 ≤ m' ∧ m' < 2147483647,
              ⟨_, rfl, st, _, _, _, rfl, rfl, SqL.of S3.1, rfl, _, _, rfl, rfl, .inr ⟨by decide, by decide⟩, _, rfl, st, _, _, _, rfl, rfl, SqL.of S3.1, rfl, _, _, rfl, rfl, _, _, rfl, rfl, .inl ⟨_, rfl, _, _, rfl, rfl, (by show (0 : Int) < 2147483647; decide),
                _, rfl, st, _, 3, 3, rfl, rfl, S3.1, rfl, rfl, B3.st, _, S3.st rfl, Int.emod_nonneg _ (by decide), Int.emod_lt_of_pos _ (by decide)⟩⟩, ?_⟩
            rintro _ H4 ⟨rfl, B4, m', S4, h1, h2⟩
            exact ⟨_, rfl, st, _, 1, 1, rfl, rfl, S4.1, rfl, rfl, B4.st, r, 0, m', S4.st rfl, hns', by decide, h1, h2⟩
          · have ge' : ¬ n < (10 : Int) ^ (18 : Int).toNat := fun z => ge (decide_eq_true z)
            have e : (10 : Int) ^ (18 : Int).toNat = 1000000000000000000 := by decide
            rw [e] at ge'
            exact ⟨rfl, B3, r, n, m, S3, hns', by omega, hm, hm2⟩
    · rintro _ H3 ⟨rfl, B3, ns3, a3, m3, S3, hns3, ha3, hm3, hm33⟩
      have ml : many.natAbs.log2 < 9000 := by
        have := PySem.Flt.log2_lt_of (k := 20) (by decide) (show many.natAbs < 2 ^ 20 by omega)
        omega
      -- if stream[1] > 0: ..
      refine ⟨fun σ H' => σ = [some (.ref st), some (.int many), none, none] ∧ But st l H H' ∧ Good H' st l ((c + 1 : Nat) : Int),
        ⟨_, rfl, st, _, _, _, rfl, rfl, SqL.of S3.1, rfl, _, _, rfl, rfl, _, rfl, ?_⟩, ?_⟩
      · refine ite2 (fun _ => ?_) (fun _ => ⟨rfl, B3, ns3, a3, m3, S3, hns3, ha3, hm3, hm33⟩)
        refine ⟨_, rfl, st, _, _, _, rfl, rfl, SqL.of S3.1, rfl, .inl ⟨_, rfl, _, rfl, _, _, rfl, rfl, hm0, ?_⟩⟩
        refine ⟨_, rfl, st, _, _, _, rfl, rfl, SqL.of S3.1, rfl, _, rfl, _, _, rfl, rfl, ⟨hm0, ml⟩, _, rfl, st, _, 1, 1, rfl, rfl, S3.1, rfl, _, rfl, ?_⟩
        exact k _ _ (Int.emod_nonneg _ (by omega)) (Int.emod_lt_of_pos _ hm0) B3.st ⟨ns3, a3 / many, m3, S3.st rfl, hns3, Int.ediv_nonneg ha3 (by omega), hm3, hm33⟩
      · rintro _ H4 ⟨rfl, B4, ns4, a4, m4, S4, hns4, ha4, hm4, hm44⟩
        refine ⟨_, rfl, st, _, _, _, rfl, rfl, SqL.of S4.1, rfl, _, rfl, st, _, _, _, rfl, rfl, SqL.of S4.1, rfl, _, _, rfl, rfl, .inl ⟨by decide, by decide⟩, _, _, rfl, rfl, _, _, rfl, rfl, _, _, rfl, rfl, ⟨by decide, by decide, by omega⟩, _, _, rfl, rfl, (by show (0 : Int) < 2147483629; decide), ?_⟩
        generalize hx : (m4 + 104729 * ((c + 1 : Nat) : Int) + 17) ^ (5 : Int).toNat % 2147483629 = x
        have x0 : 0 ≤ x := by
          rw [← hx]
          exact Int.emod_nonneg _ (by decide)
        have x1 : x < 2147483629 := by
          rw [← hx]
          exact Int.emod_lt_of_pos _ (by decide)
        have cc : 40503 * ((c + 1 : Nat) : Int) * ((c + 1 : Nat) : Int) ≤ 40503 * 1000001 * 1000001 := Int.mul_le_mul (by omega) (by omega) (by omega) (by decide)
        have c0 : 0 ≤ 40503 * ((c + 1 : Nat) : Int) * ((c + 1 : Nat) : Int) := Int.mul_nonneg (by omega) (by omega)
        refine ⟨_, rfl, _, _, rfl, rfl, .inr ⟨by decide, by decide⟩, _, rfl, st, _, _, _, rfl, rfl, SqL.of S4.1, rfl, _, _, rfl, rfl, .inl ⟨by decide, by decide⟩, _, rfl, st, _, _, _, rfl, rfl, SqL.of S4.1, rfl, _, _, rfl, rfl, .inr ⟨by omega, by omega⟩,
          _, _, rfl, rfl, _, _, rfl, rfl, _, _, rfl, rfl, ⟨by decide, by decide, by omega⟩, _, _, rfl, rfl, (by show (0 : Int) < 1000000007; decide), _, rfl, _, _, rfl, rfl, hm0, ?_⟩
        exact k _ _ (Int.emod_nonneg _ (by omega)) (Int.emod_lt_of_pos _ hm0) B4 ⟨ns4, a4, m4, S4, hns4, ha4, hm4, hm44⟩
end
theorem at_int {α : Type} {xs : List α} {d : Int} (d0 : 0 ≤ d) (d1 : d < xs.length) : ∃ (i : Nat) (x : α), xs[i]? = some x ∧ atI xs d = some x := by
  obtain ⟨n, rfl⟩ := Int.eq_ofNat_of_zero_le d0
  have hlt : n < xs.length := by omega
  exact ⟨n, xs[n], List.getElem?_eq_getElem hlt, atI_nat (List.getElem?_eq_getElem hlt)⟩
theorem But.trans {st l : Addr} {H H1 H2 : Hp} (a : But st l H H1) (b : But st l H1 H2) : But st l H H2 := fun c o h n1 n2 => b c o (a c o h n1 n2) n1 n2
theorem But.same {st l : Addr} {H H1 : Hp} (a : Same H H1) : But st l H H1 := fun c o h _ _ => a c o h
theorem Strm.up {H H' : Hp} {st l : Addr} {c : Nat} (S : Strm H st l c) (e : Same H H') : Strm H' st l c := by
  obtain ⟨ns, a, m, ⟨h1, h2⟩, r⟩ := S.ex
  exact ⟨ns, a, m, ⟨e _ _ h1, e _ _ h2⟩, r⟩
theorem same_new {H : Hp} {p : Addr} {o : HO} (h : H p = none) : Same H (upd H p o) := fun a u e => by
  rw [upd_ne (ne_of_none e h)]
  exact e
theorem Strm.ne_new {H : Hp} {st l p : Addr} {c : Nat} (S : Strm H st l c) (h : H p = none) : p ≠ st ∧ p ≠ l := by
  obtain ⟨ns, a, m, ⟨h1, h2⟩, r⟩ := S.ex
  exact ⟨(ne_of_none h1 h).symm, (ne_of_none h2 h).symm⟩
theorem But.put {st l p : Addr} {H H' : Hp} {o : HO} (a : But st l H H') (h : H p = none) : But st l H (upd H' p o) := fun c u e n1 n2 => by
  rw [upd_ne (ne_of_none e h)]
  exact a c u e n1 n2
theorem Strm.put {H : Hp} {st l p : Addr} {c : Nat} {o : HO} (S : Strm H st l c) (n : p ≠ st ∧ p ≠ l) : Strm (upd H p o) st l c := by
  obtain ⟨ns, a, m, ⟨h1, h2⟩, r⟩ := S.ex
  exact ⟨ns, a, m, ⟨by rw [upd_ne n.1.symm]; exact h1, by rw [upd_ne n.2.symm]; exact h2⟩, r⟩
def spPickL : Sp := fun vs H Q _ => ∃ (st l : Addr) (c : Nat) (p : Addr) (xs : List V), vs = [.ref st, .ref p] ∧ Strm H st l c ∧ c ≤ 1000000 ∧ H p = some (.lst xs) ∧ p ≠ st ∧ p ≠ l ∧ 0 < xs.length ∧ xs.length < 1000 ∧
  ∀ (i : Nat) (x : V) (H' : Hp), xs[i]? = some x → But st l H H' → Strm H' st l (c + 1) → Q x H'
def spPickS : Sp := fun vs H Q _ => ∃ (st l : Addr) (c : Nat) (z : Str), vs = [.ref st, .str z] ∧ Strm H st l c ∧ c ≤ 1000000 ∧ 0 < z.length ∧ z.length < 1000 ∧
  ∀ (ch : Nat) (H' : Hp), ch ∈ z.cps.toList → But st l H H' → Strm H' st l (c + 1) → Q (.str ⟨#[ch]⟩) H'
def spPick : Sp := fun vs H Q E => spPickL vs H Q E ∨ spPickS vs H Q E
/-- what the small defs lean on -/
structure TG1 (K : PySem.W.Frag) (mg : Str → Option Value) (fD : Addr) (fdD : FuncData) : Prop where
  int : mg "int" = none
  len : mg "len" = none
  range : mg "range" = none
  list : mg "list" = none
  mD : mg "_law_draw" = some (.ref fD)
  kD : PySem.W.keepIn K (.ref fD) = true
  bD : L2.Binds K fdD ["_law_stream", "_law_many"] []
section
variable {P : Program} {w : World} {K : PySem.W.Frag} {mg : Str → Option Value} {base : Heap} {fD : Addr} {fdD : FuncData}
theorem scP : FnScope ["_law_stream", "_law_things"] ["_law_stream", "_law_things"] (defScope sPick) := ⟨rfl, rfl, rfl, by decide +kernel, rfl, by decide +kernel, by decide +kernel⟩
theorem ok_pick {f : Addr} {fd : FuncData} (F : Fun K "_law_pick" "_law_pick" sPick f fd) (T : TG1 K mg fD fdD) (GD : FnOk P w K mg base CX0 1 fD fdD ["_law_stream", "_law_many"] spDraw) : FnOk P w K mg base CX0 2 f fd ["_law_stream", "_law_things"] spPick := by
  refine F.ok scP (fun vs H Q E h => ?_) (fun cdv A outer s H vs Q E hr h => ?_)
  · rcases h with ⟨st, l, c, p, xs, rfl, _⟩ | ⟨st, l, c, z, rfl, _⟩
    · rfl
    · rfl
  · rcases h with ⟨st, l, c, p, xs, rfl, S, hc, hp, n1, n2, h0, h1, k⟩ | ⟨st, l, c, z, rfl, S, hc, h0, h1, k⟩
    · refine ⟨_, pss_one (ps_ret (pe_ix ix_list (pv 1) (pe_call GD hr rfl T.mD T.kD T.bD .nil pass0 (pa_cons (pv 0) (pa_cons (pe_callB call_len_seq (by rfl) T.len PySem.boot_len (pa_cons (pv 1) pa_nil)) pa_nil))) (fun _ _ => rfl))), ?_⟩
      refine ⟨_, rfl, _, rfl, _, rfl, p, xs, rfl, .inl (SqL.of hp), st, l, c, _, rfl, S, hc, by omega, by omega, fun d H' d0 d1 B S' => ?_⟩
      have hp' := B _ _ hp n1 n2
      obtain ⟨i, x, hx, ha⟩ := at_int d0 d1
      exact ⟨p, xs, d, x, rfl, rfl, SqL.of hp', ha, k _ _ _ hx B S'⟩
    · refine ⟨_, pss_one (ps_ret (pe_ix ix_str (pv 1) (pe_call GD hr rfl T.mD T.kD T.bD .nil pass0 (pa_cons (pv 0) (pa_cons (pe_callB call_len_str (by rfl) T.len PySem.boot_len (pa_cons (pv 1) pa_nil)) pa_nil))) (fun _ _ => rfl))), ?_⟩
      have hzs : z.length ≤ sizeLine := Nat.le_of_lt (Nat.lt_of_lt_of_le h1 (by decide))
      refine ⟨_, rfl, _, rfl, _, rfl, z, rfl, hzs, st, l, c, _, rfl, S, hc, by omega, by omega, fun d H' d0 d1 B S' => ?_⟩
      have el : z.cps.toList.length = z.length := by simp [Str.length]
      obtain ⟨i, x, hx, ha⟩ := at_int (xs := z.cps.toList) d0 (by rw [el]; exact d1)
      exact ⟨z, d, x, rfl, rfl, hzs, ha, k _ _ (List.mem_of_getElem? hx) B S'⟩
end
end R

set_option maxHeartbeats 3900000
namespace CB
open PySem PySem.Spec PyProof.Rows L2
/-! comprehensions whose turns add to the heap alone: one rule for all walks -/
theorem same_mk {H : Hp} {p : Addr} {o : HO} (h : H p = none) : Same H (upd H p o) := fun a u e => by
  rw [upd_ne (ne_of_none e h)]
  exact e
theorem same_ch {H H' : Hp} {p : Addr} {o : HO} (a : Same H H') (h : H p = none) : Same H (upd H' p o) := fun c u e => by
  rw [upd_ne (ne_of_none e h)]
  exact a c u e
section
variable {J : It} {n : Nat} {G : Hp → Prop} {Y : Nat → Hp → V → Hp → Prop} {j : Nat} {te : TE} {σ : L2.St} {H1 : Hp} {D : Addr} {Qd : Hp → Prop}
theorem wipe1 (x : V) : wipe ((wipe σ [j]).set j (some x)) [j] = wipe σ [j] := by
  show ((σ.set j none).set j (some x)).set j none = σ.set j none
  simp
theorem lcW (w : Walk J n G Y) (ys : List V) (hn : ys.length = n) (hs : n < 1000000) (hD : H1 D = none) (hG : ∀ H', Same H1 H' → G H')
    (turn : ∀ (i : Nat) (x y : V) (H2 H3 : Hp), ys[i]? = some y → Same H1 H2 → Y i H2 x H3 → ∀ Q1 : VK, (∀ H4, Same H2 H4 → Q1 y H4) → te ((wipe σ [j]).set j (some x)) H3 Q1)
    (hd : ∀ H', Same H1 H' → H' D = some (.lst ys) → Qd H') :
    ∃ W : Nat → Nat → Hp → Prop, (∃ m, W 0 m (upd H1 D (.lst []))) ∧ ∀ i m H, W i m H →
      (J.stop i H ∧ Qd H) ∨ (J.go i H ∧ ∃ Nx : Hp → Prop, (∀ H', Nx H' → ∃ m', m' < m ∧ W (i + 1) m' H') ∧ ∀ x H', J.yld i H x H' → gName j x (wipe σ [j]) H' fun σ2 H2 => wipe σ2 [j] = wipe σ [j] ∧ tYes σ2 H2 fun b H3 =>
        if b = true then te σ2 H3 fun y H4 => ∃ acc, H4 D = some (.lst acc) ∧ acc.length < sizeLine ∧ Nx (upd H4 D (.lst (acc ++ [y]))) else Nx H3) := by
  subst hn
  refine lc_it w (fun i H' => Same H1 H' ∧ H' D = some (.lst (ys.take i))) ⟨same_mk hD, upd_same⟩ (fun i H' _ q => hG H' q.1) ?_ ?_
  · rintro i x H2 H3 hi ⟨s2, hd2⟩ y
    have hy : ys[i]? = some ys[i] := List.getElem?_eq_getElem hi
    refine ⟨wipe1 x, ?_⟩
    refine turn i x ys[i] H2 H3 hy s2 y _ fun H4 s4 => ⟨_, s4 _ _ hd2, ?_, same_ch (s2.trans s4) hD, ?_⟩
    · rw [List.length_take]
      exact Nat.lt_of_lt_of_le (show min i ys.length < 1000000 by omega) (by decide)
    · rw [upd_same, List.take_succ, hy]
      rfl
  · rintro H' ⟨s, h⟩
    rw [List.take_length] at h
    exact hd H' s h
end
section
variable {K : PySem.W.Frag} {α : Type} {j : Nat} {te : TE} {σ : L2.St} {H1 : Hp} {D a : Addr} {Qd : Hp → Prop}
theorem map_two {α : Type} {zs : List α} {u g : α → V} {i : Nat} {x y : V} (hx : (zs.map u)[i]? = some x) (hy : (zs.map g)[i]? = some y) : ∃ z ∈ zs, x = u z ∧ y = g z := by
  rw [List.getElem?_map] at hx hy
  match e : zs[i]? with
  | none =>
    rw [e] at hx
    cases hx
  | some z =>
    rw [e] at hx hy
    cases hx
    cases hy
    exact ⟨z, List.mem_of_getElem? e, rfl, rfl⟩
theorem lc_mapL (zs : List α) (u g : α → V) (hs : zs.length < 1000000) (hD : H1 D = none) (ha : SqL K H1 a (zs.map u))
    (turn : ∀ z ∈ zs, ∀ H2, Same H1 H2 → ∀ Q1 : VK, (∀ H4, Same H2 H4 → Q1 (g z) H4) → te ((wipe σ [j]).set j (some (u z))) H2 Q1) (hd : ∀ H', Same H1 H' → H' D = some (.lst (zs.map g)) → Qd H') :
    ∃ W : Nat → Nat → Hp → Prop, (∃ m, W 0 m (upd H1 D (.lst []))) ∧ ∀ i m H, W i m H →
      ((Itl K a).stop i H ∧ Qd H) ∨ ((Itl K a).go i H ∧ ∃ Nx : Hp → Prop, (∀ H', Nx H' → ∃ m', m' < m ∧ W (i + 1) m' H') ∧ ∀ x H', (Itl K a).yld i H x H' → gName j x (wipe σ [j]) H' fun σ2 H2 => wipe σ2 [j] = wipe σ [j] ∧ tYes σ2 H2 fun b H3 =>
        if b = true then te σ2 H3 fun y H4 => ∃ acc, H4 D = some (.lst acc) ∧ acc.length < sizeLine ∧ Nx (upd H4 D (.lst (acc ++ [y]))) else Nx H3) := by
  refine lcW (walk_list (K := K) (a := a) (xs := zs.map u)) (zs.map g) (by rw [List.length_map, List.length_map]) (by rw [List.length_map]; exact hs) hD (fun H' s => s.seq ha) ?_ hd
  rintro i x y H2 H3 hy s ⟨rfl, hx⟩ Q1 k
  obtain ⟨z, hz, rfl, rfl⟩ := map_two hx hy
  exact turn z hz _ s Q1 k
theorem sameT {H H' : Hp} {xs : List V} (e : Same H H') (h : SqT K H a xs) : SqT K H' a xs := by
  rcases h with (h | ⟨o, h⟩) | h
  · exact .inl (.inl (e _ _ h))
  · exact .inl (.inr ⟨o, e _ _ h⟩)
  · exact .inr h
theorem lc_mapT (zs : List α) (u g : α → V) (hs : zs.length < 1000000) (hD : H1 D = none) (ha : SqT K H1 a (zs.map u))
    (turn : ∀ z ∈ zs, ∀ H2, Same H1 H2 → ∀ Q1 : VK, (∀ H4, Same H2 H4 → Q1 (g z) H4) → te ((wipe σ [j]).set j (some (u z))) H2 Q1) (hd : ∀ H', Same H1 H' → H' D = some (.lst (zs.map g)) → Qd H') :
    ∃ W : Nat → Nat → Hp → Prop, (∃ m, W 0 m (upd H1 D (.lst []))) ∧ ∀ i m H, W i m H →
      ((Itt K a).stop i H ∧ Qd H) ∨ ((Itt K a).go i H ∧ ∃ Nx : Hp → Prop, (∀ H', Nx H' → ∃ m', m' < m ∧ W (i + 1) m' H') ∧ ∀ x H', (Itt K a).yld i H x H' → gName j x (wipe σ [j]) H' fun σ2 H2 => wipe σ2 [j] = wipe σ [j] ∧ tYes σ2 H2 fun b H3 =>
        if b = true then te σ2 H3 fun y H4 => ∃ acc, H4 D = some (.lst acc) ∧ acc.length < sizeLine ∧ Nx (upd H4 D (.lst (acc ++ [y]))) else Nx H3) := by
  refine lcW (walk_tup (K := K) (a := a) (xs := zs.map u)) (zs.map g) (by rw [List.length_map, List.length_map]) (by rw [List.length_map]; exact hs) hD (fun H' s => sameT s ha) ?_ hd
  rintro i x y H2 H3 hy s ⟨rfl, hx⟩ Q1 k
  obtain ⟨z, hz, rfl, rfl⟩ := map_two hx hy
  exact turn z hz _ s Q1 k
theorem lc_mapS (z : Str) (g : Nat → V) (hs : z.length < 1000000) (hD : H1 D = none)
    (turn : ∀ c ∈ z.cps.toList, ∀ H2, Same H1 H2 → ∀ Q1 : VK, (∀ H4, Same H2 H4 → Q1 (g c) H4) → te ((wipe σ [j]).set j (some (.str ⟨#[c]⟩))) H2 Q1) (hd : ∀ H', Same H1 H' → H' D = some (.lst (z.cps.toList.map g)) → Qd H') :
    ∃ W : Nat → Nat → Hp → Prop, (∃ m, W 0 m (upd H1 D (.lst []))) ∧ ∀ i m H, W i m H →
      ((Its z).stop i H ∧ Qd H) ∨ ((Its z).go i H ∧ ∃ Nx : Hp → Prop, (∀ H', Nx H' → ∃ m', m' < m ∧ W (i + 1) m' H') ∧ ∀ x H', (Its z).yld i H x H' → gName j x (wipe σ [j]) H' fun σ2 H2 => wipe σ2 [j] = wipe σ [j] ∧ tYes σ2 H2 fun b H3 =>
        if b = true then te σ2 H3 fun y H4 => ∃ acc, H4 D = some (.lst acc) ∧ acc.length < sizeLine ∧ Nx (upd H4 D (.lst (acc ++ [y]))) else Nx H3) := by
  refine lcW (walk_str (z := z)) (z.cps.toList.map g) (by rw [List.length_map, Array.length_toList]) hs hD (fun _ _ => trivial) ?_ hd
  rintro i x y H2 H3 hy s ⟨rfl, c, hc, rfl⟩ Q1 k
  rw [List.getElem?_map, Array.getElem?_toList, hc] at hy
  cases hy
  exact turn c (by rw [Array.mem_toList_iff]; exact Array.mem_of_getElem? hc) _ s Q1 k
/-- all and any over such a list -/
theorem all_of {H : Hp} {Q : VK} (zs : List α) (f : α → Bool) (h : H D = some (.lst (zs.map fun z => .bl (f z)))) (q : Q (.bl (zs.all f)) H) : rAll K [.ref D] H Q :=
  ⟨D, zs.map f, rfl, SqL.of (by rw [h, List.map_map]; rfl), by rw [List.all_map]; exact q⟩
theorem any_of {H : Hp} {Q : VK} (zs : List α) (f : α → Bool) (h : H D = some (.lst (zs.map fun z => .bl (f z)))) (q : Q (.bl (zs.any f)) H) : rAny K [.ref D] H Q :=
  ⟨D, zs.map f, rfl, SqL.of (by rw [h, List.map_map]; rfl), by rw [List.any_map]; exact q⟩
end
/-! methods of built-in types beneath a comprehension's binder: the written part given by hand -/
section
variable {X : Cx} {o e : Expr} {es : List Expr} {to : TE} {t : TA} {name : Str} {apos cpos : Pos} {T id : String} {r : V → List V → Hp → VK → Prop}
theorem pe_bmK (K0 : PySem.W.Frag) (hK : X.K = K0) (pa : PlainAttrs T) (slot : Slot T name id) (hty : typeOf (.builtin id) = pure (.type "method_descriptor")) (hm : MtR X id r) (ho : PE X o to) (ha : PA X (e :: es) t)
    (hb : attributeBase o name X.env (eval o X.env) = eval o X.env := by rfl)
    (hf : ((backTo cpos (starEach (e :: es) X.env)).all (fun x => !x.1) && (backToKw cpos (keywordEach [] X.env)).all (fun x => x.1.isSome) && decide ((e :: es).length + ([] : List Keyword).length + (if ([] : List Keyword).isEmpty then 0 else 1) < 30)) = true := by rfl)
    (hl : (apos.endLine == cpos.line) = true := by rfl) (hs : starEach (e :: es) X.env = (false, eval e X.env) :: starEach es X.env := by rfl) (hp : (backTo cpos (starEach es X.env)).any (·.1) = false := by rfl) :
    PE X (.Call (.Attribute o name apos) (e :: es) [] cpos) (tBM K0 T r to t) := by
  subst hK
  exact pe_bm pa slot hty hm ho ha hb hf hl hs hp
theorem pe_bm0K (K0 : PySem.W.Frag) (hK : X.K = K0) (pa : PlainAttrs T) (slot : Slot T name id) (hty : typeOf (.builtin id) = pure (.type "method_descriptor")) (hm : MtR X id r) (ho : PE X o to)
    (hb : attributeBase o name X.env (eval o X.env) = eval o X.env := by rfl) (hl : (apos.endLine == cpos.line) = true := by rfl) : PE X (.Call (.Attribute o name apos) [] [] cpos) (tBM0 K0 T r to) := by
  subst hK
  exact pe_bm0 pa slot hty hm ho hb hl
end
section
variable {X : Cx} {K0 : PySem.W.Frag}
theorem pg_tupK {es : List Expr} {k : Nat} {t : TGs} {n : Nat} {pos : Pos} (hK : X.K = K0) (hc : X.calm = true) (h : PGs X es t) (hn : (assignEach es X.env).length = n := by rfl) (hs : (assignEach es X.env).findIdx? (·.1) = none := by rfl) : PG X (.Tuple es k pos) (gTup K0 n t) := by
  subst hK
  exact pg_tup hc h hn hs
theorem ix_listK (hK : X.K = K0) : IxR X (rIxL K0) := by
  subst hK
  exact ix_list
theorem ix_tupK (hK : X.K = K0) : IxR X (rIxT K0) := by
  subst hK
  exact ix_tup
theorem in_seqK (hK : X.K = K0) : OpR X (compareOp .In) (rIn K0 false) := by
  subst hK
  exact op_in_seq
theorem notIn_seqK (hK : X.K = K0) : OpR X (compareOp .NotIn) (rIn K0 true) := by
  subst hK
  exact op_notIn_seq
theorem eqDK (hK : X.K = K0) (hu : X.A.units + 64 < cLine) : OpR X (compareOp .Eq) (rEqD K0) := by
  subst hK
  exact op_eqD hu
theorem neDK (hK : X.K = K0) (hu : X.A.units + 64 < cLine) : OpR X (compareOp .NotEq) (rNeD K0) := by
  subst hK
  exact op_neD hu
end
/-! a row: a tuple or a list -/
def RowAt (H : Hp) (v : V) (xs : List V) : Prop := ∃ a, v = .ref a ∧ (H a = some (.tup xs) ∨ H a = some (.lst xs))
theorem RowAt.up {H H' : Hp} {v : V} {xs : List V} (h : RowAt H v xs) (s : Same H H') : RowAt H' v xs := by
  obtain ⟨a, e, h | h⟩ := h
  · exact ⟨a, e, .inl (s _ _ h)⟩
  · exact ⟨a, e, .inr (s _ _ h)⟩
def rIxRow : R2 := fun x y H Q => ∃ xs i v, RowAt H x xs ∧ y = .int i ∧ atI xs i = some v ∧ Q v H
def rLenRow : List V → Hp → VK → Prop := fun vs H Q => ∃ x xs, vs = [x] ∧ RowAt H x xs ∧ Q (.int (xs.length : Int)) H
/-- isinstance(x, (list, tuple)) -/
def LT (H : Hp) (v : V) (b : Bool) : Prop := (b = true ∧ ∃ xs, RowAt H v xs) ∨ (b = false ∧ (v = .non ∨ (∃ z, v = .str z) ∨ (∃ i, v = .int i) ∨ ∃ c, v = .bl c))
def rLT : List V → Hp → VK → Prop := fun vs H Q => ∃ v tp b, vs = [v, .ref tp] ∧ H tp = some (.tup [.ty "list", .ty "tuple"]) ∧ LT H v b ∧ Q (.bl b) H
def rTupRow : List V → Hp → VK → Prop := fun vs H Q => ∃ v xs, vs = [v] ∧ RowAt H v xs ∧ ∀ a H', Same H H' → H' a = some (.tup xs) → Q (.ref a) H'
section
variable {X : Cx}
theorem ix_row : IxR X rIxRow := by
  intro value slice pins s σ H x y v u Q I rx ry h hs
  obtain ⟨xs, i, w, ⟨a, rfl, h1 | h1⟩, rfl, ha, q⟩ := h
  · exact ix_tup (X := X) value slice pins s σ H _ _ v u Q I rx ry ⟨a, xs, i, w, rfl, rfl, SqT.of h1, ha, q⟩ hs
  · exact ix_list (X := X) value slice pins s σ H _ _ v u Q I rx ry ⟨a, xs, i, w, rfl, rfl, SqL.of h1, ha, q⟩ hs
theorem call_len_row : CallR X (.builtin "len") rLenRow := by
  intro pins s σ H xs us Q I r h
  obtain ⟨x, ys, rfl, ⟨a, rfl, h1 | h1⟩, q⟩ := h
  · exact call_len_seq (X := X) pins s σ H _ us Q I r ⟨a, ys, rfl, .inr (SqT.of h1), q⟩
  · exact call_len_seq (X := X) pins s σ H _ us Q I r ⟨a, ys, rfl, .inl (SqL.of h1), q⟩
theorem kitLT {K : PySem.W.Frag} {n : String} {b c : Bool} (h1 : kitB n "list" = some b) (h2 : kitB n "tuple" = some c) : PySem.W.kitAny K (.type n) [.type "list", .type "tuple"] = some (b || c) :=
  kitAny_cons (kit_ty h1) (fun e => by
    subst e
    exact kitAny_cons (kit_ty h2) (fun e2 => by
      subst e2
      exact kitAny_nil) (fun e2 => by
      subst e2
      rfl)) (fun e => by
    subst e
    rfl)
theorem isi_LT : CallR X (.builtin "isinstance") rLT := by
  intro pins s σ H xs us Q I r h
  obtain ⟨v, tp, b, rfl, ht, hl, q⟩ := h
  have go : ∀ (n : String) (c : Bool), TyX X.K H v (.type n) → PySem.W.kitAny X.K (.type n) [.type "list", .type "tuple"] = some c → Q (.bl c) H → wpAny (model X.prog X.w) X.A (call (.builtin "isinstance") us) (EP X pins σ Q) X.xe s := fun n c t k q =>
    call_isiT (X := X) pins s σ H _ us Q I r ⟨v, tp, _, .type n, [.type "list", .type "tuple"], c, rfl, ht, .cons (.ty "list") (.cons (.ty "tuple") .nil), t, k, q⟩
  rcases hl with ⟨rfl, ys, a, rfl, h1 | h1⟩ | ⟨rfl, rfl | ⟨z, rfl⟩ | ⟨i, rfl⟩ | ⟨c, rfl⟩⟩
  · exact go "tuple" true (.base (.tup h1)) (kitLT (b := false) (c := true) (by decide +kernel) (by decide +kernel)) q
  · exact go "list" true (.base (.lst h1)) (kitLT (b := true) (c := false) (by decide +kernel) (by decide +kernel)) q
  · exact go "NoneType" false (.base .non) (kitLT (b := false) (c := false) (by decide +kernel) (by decide +kernel)) q
  · exact go "str" false (.base (.str z)) (kitLT (b := false) (c := false) (by decide +kernel) (by decide +kernel)) q
  · exact go "int" false (.base (.int i)) (kitLT (b := false) (c := false) (by decide +kernel) (by decide +kernel)) q
  · exact go "bool" false (.base (.bl c)) (kitLT (b := false) (c := false) (by decide +kernel) (by decide +kernel)) q
theorem call_tup_row : CallR X (.type "tuple") rTupRow := by
  intro pins s σ H xs us Q I r h
  obtain ⟨v, ys, rfl, ⟨a, rfl, h1 | h1⟩, q⟩ := h
  · exact call_tuple_of (X := X) pins s σ H _ us Q I r ⟨a, ys, rfl, .inr ⟨SqT.of h1, q a H (Same.refl H) h1⟩⟩
  · exact call_tuple_of (X := X) pins s σ H _ us Q I r ⟨a, ys, rfl, .inl ⟨SqL.of h1, fun l hl => q l _ (same_mk hl) upd_same⟩⟩
/-- a walk over a name that holds a tuple or a list -/
def iSeqV (K : PySem.W.Frag) (i : Nat) : TI := fun σ H R => ∃ a, σ[i]? = some (some (.ref a)) ∧ ((∃ xs, SqT K H a xs ∧ R (Itt K a) H) ∨ ∃ xs, SqL K H a xs ∧ R (Itl K a) H)
theorem pi_seqv {tg l : Expr} {i : Nat} (hl : PE X l (tVar i)) : PI X tg l (iSeqV X.K i) := by
  refine ⟨fun pins s σ H R I h => ?_⟩
  obtain ⟨a, ha, ⟨xs, q, r⟩ | ⟨xs, q, r⟩⟩ := h
  · exact (pi_tup hl).run pins s σ H R I ⟨_, ha, a, rfl, ⟨xs, q⟩, r⟩
  · exact (pi_list hl).run pins s σ H R I ⟨_, ha, a, rfl, ⟨xs, q⟩, r⟩
end
section
variable {K : PySem.W.Frag} {α : Type} {i j : Nat} {te : TE} {σ : L2.St} {H : Hp} {v : V} {Q : VK}
theorem lc_row (zs : List α) (u g : α → V) (hi : σ[i]? = some (some v)) (h : RowAt H v (zs.map u)) (hs : zs.length < 1000000)
    (turn : ∀ z ∈ zs, ∀ H2, Same H H2 → ∀ Q1 : VK, (∀ H4, Same H2 H4 → Q1 (g z) H4) → te ((wipe σ [j]).set j (some (u z))) H2 Q1) (hd : ∀ D H', Same H H' → H D = none → H' D = some (.lst (zs.map g)) → Q (.ref D) H') :
    tLc (iSeqV K i) (gName j) tYes te [j] σ H Q := by
  obtain ⟨a, rfl, h1 | h1⟩ := h
  · exact ⟨a, hi, .inl ⟨_, SqT.of h1, fun D hD => lc_mapT zs u g hs hD (SqT.of h1) turn fun H' s h2 => hd D H' s hD h2⟩⟩
  · exact ⟨a, hi, .inr ⟨_, SqL.of h1, fun D hD => lc_mapL zs u g hs hD (SqL.of h1) turn fun H' s h2 => hd D H' s hD h2⟩⟩
theorem all_row (zs : List α) (u : α → V) (f : α → Bool) (hi : σ[i]? = some (some v)) (h : RowAt H v (zs.map u)) (hs : zs.length < 1000000)
    (turn : ∀ z ∈ zs, ∀ H2, Same H H2 → ∀ Q1 : VK, (∀ H4, Same H2 H4 → Q1 (.bl (f z)) H4) → te ((wipe σ [j]).set j (some (u z))) H2 Q1) (hd : ∀ H', Same H H' → Q (.bl (zs.all f)) H') :
    tCB (rAll K) (tCons (tLc (iSeqV K i) (gName j) tYes te [j]) tNil) σ H Q := by
  show tLc (iSeqV K i) (gName j) tYes te [j] σ H fun v H1 => rAll K [v] H1 Q
  exact lc_row zs u (fun z => .bl (f z)) hi h hs turn fun D H' s _ hD => all_of zs f hD (hd H' s)
theorem any_row (zs : List α) (u : α → V) (f : α → Bool) (hi : σ[i]? = some (some v)) (h : RowAt H v (zs.map u)) (hs : zs.length < 1000000)
    (turn : ∀ z ∈ zs, ∀ H2, Same H H2 → ∀ Q1 : VK, (∀ H4, Same H2 H4 → Q1 (.bl (f z)) H4) → te ((wipe σ [j]).set j (some (u z))) H2 Q1) (hd : ∀ H', Same H H' → Q (.bl (zs.any f)) H') :
    tCB (rAny K) (tCons (tLc (iSeqV K i) (gName j) tYes te [j]) tNil) σ H Q := by
  show tLc (iSeqV K i) (gName j) tYes te [j] σ H fun v H1 => rAny K [v] H1 Q
  exact lc_row zs u (fun z => .bl (f z)) hi h hs turn fun D H' s _ hD => any_of zs f hD (hd H' s)
theorem set_row {y : Nat} {D0 : Ends} (zs : List α) (u g : α → V) (hi : σ[i]? = some (some v)) (h : RowAt H v (zs.map u)) (hs : zs.length < 1000000)
    (turn : ∀ z ∈ zs, ∀ H2, Same H H2 → ∀ Q1 : VK, (∀ H4, Same H2 H4 → Q1 (g z) H4) → te ((wipe σ [j]).set j (some (u z))) H2 Q1) (hd : ∀ D H', Same H H' → H D = none → H' D = some (.lst (zs.map g)) → D0.nx (σ.set y (some (.ref D))) H') :
    tAsg (tLc (iSeqV K i) (gName j) tYes te [j]) (gName y) D0 σ H := by
  show tLc (iSeqV K i) (gName j) tYes te [j] σ H fun x H1 => D0.nx (σ.set y (some x)) H1
  exact lc_row zs u g hi h hs turn hd
theorem iteY {c A B : Prop} [Decidable c] (h : c) (a : A) : if decide c = true then A else B := by
  rw [if_pos (decide_eq_true h)]
  exact a
theorem iteN {c A B : Prop} [Decidable c] (h : ¬ c) (b : B) : if decide c = true then A else B := by
  rw [if_neg (by rw [decide_eq_false h]; exact Bool.false_ne_true)]
  exact b
theorem cut_1 (xs : List V) : cutV xs (some 1) none = xs.drop 1 := by
  show (xs.drop (HT.sIx xs.length 0 (some ((1 : Nat) : Int)))).take (HT.sIx xs.length xs.length none - HT.sIx xs.length 0 (some ((1 : Nat) : Int))) = xs.drop 1
  rw [HT.sIx_nat, HT.sIx_none]
  by_cases h : 1 ≤ xs.length
  · rw [Nat.min_eq_left h, List.take_of_length_le (by rw [List.length_drop]; exact Nat.le_refl _)]
  · rw [List.drop_eq_nil_of_le (by omega), List.drop_eq_nil_of_le (by omega)]
    exact List.take_nil
end
/-! two names for each item: zip, enumerate -/
section
variable {J : It} {n : Nat} {G : Hp → Prop} {fx fy : Nat → Option V} {i j : Nat} {te : TE} {σ : L2.St} {H1 : Hp} {D : Addr} {Qd : Hp → Prop} {K : PySem.W.Frag}
theorem wipe2 (hij : i ≠ j) (x y : V) : wipe (((wipe σ [i, j]).set i (some x)).set j (some y)) [i, j] = wipe σ [i, j] := by
  show (((((σ.set j none).set i none).set i (some x)).set j (some y)).set j none).set i none = (σ.set j none).set i none
  rw [List.set_set, List.set_set, List.set_comm _ _ hij, List.set_set, List.set_set]
theorem lcW2 (w : Walk J n G (YPair fx fy)) (hij : i ≠ j) (ys : List V) (hn : ys.length = n) (hs : n < 1000000) (hD : H1 D = none) (hG : ∀ H', Same H1 H' → G H')
    (turn : ∀ (m : Nat) (x x' y : V) (H2 : Hp), ys[m]? = some y → fx m = some x → fy m = some x' → Same H1 H2 → ∀ Q1 : VK, (∀ H4, Same H2 H4 → Q1 y H4) → te (((wipe σ [i, j]).set i (some x)).set j (some x')) H2 Q1)
    (hd : ∀ H', Same H1 H' → H' D = some (.lst ys) → Qd H') :
    ∃ W : Nat → Nat → Hp → Prop, (∃ m, W 0 m (upd H1 D (.lst []))) ∧ ∀ k m H, W k m H →
      (J.stop k H ∧ Qd H) ∨ (J.go k H ∧ ∃ Nx : Hp → Prop, (∀ H', Nx H' → ∃ m', m' < m ∧ W (k + 1) m' H') ∧ ∀ x H', J.yld k H x H' → gTup K 2 (gCons (gName i) (gCons (gName j) gNil)) x (wipe σ [i, j]) H' fun σ2 H2 => wipe σ2 [i, j] = wipe σ [i, j] ∧ tYes σ2 H2 fun b H3 =>
        if b = true then te σ2 H3 fun y H4 => ∃ acc, H4 D = some (.lst acc) ∧ acc.length < sizeLine ∧ Nx (upd H4 D (.lst (acc ++ [y]))) else Nx H3) := by
  subst hn
  refine lc_it w (fun i H' => Same H1 H' ∧ H' D = some (.lst (ys.take i))) ⟨same_mk hD, upd_same⟩ (fun i H' _ q => hG H' q.1) ?_ ?_
  · rintro m x H2 H3 hi ⟨s2, hd2⟩ ⟨T, x1, x2, rfl, hT, rfl, e1, e2⟩
    have hy : ys[m]? = some ys[m] := List.getElem?_eq_getElem hi
    refine ⟨T, _, rfl, SqT.of upd_same, rfl, x1, _, rfl, x2, _, rfl, rfl, wipe2 hij x1 x2, ?_⟩
    have s3 : Same H2 (upd H2 T (.tup [x1, x2])) := same_mk hT
    refine turn m x1 x2 ys[m] _ hy e1 e2 (s2.trans s3) _ fun H4 s4 => ⟨_, s4 _ _ (s3 _ _ hd2), ?_, same_ch ((s2.trans s3).trans s4) hD, ?_⟩
    · rw [List.length_take]
      exact Nat.lt_of_lt_of_le (show min m ys.length < 1000000 by omega) (by decide)
    · rw [upd_same, List.take_succ, hy]
      rfl
  · rintro H' ⟨s, h⟩
    rw [List.take_length] at h
    exact hd H' s h
end
/-! values told by what is true of them, where only tuples count -/
section
variable {J : It} {n : Nat} {G : Hp → Prop} {Y : Nat → Hp → V → Hp → Prop} {j : Nat} {te : TE} {σ : L2.St} {H1 : Hp} {D : Addr} {Qd : Hp → Prop}
def TupS (H H' : Hp) : Prop := ∀ b xs, H b = some (.tup xs) → H' b = some (.tup xs)
theorem TupS.of {H H' : Hp} (s : Same H H') : TupS H H' := fun b xs h => s b _ h
theorem lcR (w : Walk J n G Y) (R : Nat → V → Hp → Prop) (mono : ∀ i y H H', TupS H H' → R i y H → R i y H') (hs : n < 1000000) (hD : H1 D = none) (hG : ∀ H', Same H1 H' → G H')
    (turn : ∀ (i : Nat) (x : V) (H2 H3 : Hp), i < n → Same H1 H2 → Y i H2 x H3 → ∀ Q1 : VK, (∀ y H4, Same H2 H4 → R i y H4 → Q1 y H4) → te ((wipe σ [j]).set j (some x)) H3 Q1)
    (hd : ∀ ys H', ys.length = n → Same H1 H' → H' D = some (.lst ys) → (∀ i y, ys[i]? = some y → R i y H') → Qd H') :
    ∃ W : Nat → Nat → Hp → Prop, (∃ m, W 0 m (upd H1 D (.lst []))) ∧ ∀ i m H, W i m H →
      (J.stop i H ∧ Qd H) ∨ (J.go i H ∧ ∃ Nx : Hp → Prop, (∀ H', Nx H' → ∃ m', m' < m ∧ W (i + 1) m' H') ∧ ∀ x H', J.yld i H x H' → gName j x (wipe σ [j]) H' fun σ2 H2 => wipe σ2 [j] = wipe σ [j] ∧ tYes σ2 H2 fun b H3 =>
        if b = true then te σ2 H3 fun y H4 => ∃ acc, H4 D = some (.lst acc) ∧ acc.length < sizeLine ∧ Nx (upd H4 D (.lst (acc ++ [y]))) else Nx H3) := by
  refine lc_it w (fun i H' => Same H1 H' ∧ ∃ ys, ys.length = i ∧ H' D = some (.lst ys) ∧ ∀ m y, ys[m]? = some y → R m y H') ⟨same_mk hD, [], rfl, upd_same, fun m y h => by cases h⟩ (fun i H' _ q => hG H' q.1) ?_ ?_
  · rintro i x H2 H3 hi ⟨s2, ys, hl, hd2, hr⟩ y
    refine ⟨wipe1 x, ?_⟩
    refine turn i x H2 H3 hi s2 y _ fun v H4 s4 r => ?_
    have hd4 := s4 _ _ hd2
    have up : TupS H4 (upd H4 D (.lst (ys ++ [v]))) := fun b xs h => by
      rw [upd_ne (ne_of h hd4 (by intro z; cases z))]
      exact h
    refine ⟨_, hd4, Nat.lt_of_lt_of_le (show ys.length < 1000000 by omega) (by decide), same_ch (s2.trans s4) hD, ys ++ [v], by rw [List.length_append, hl]; rfl, upd_same, fun m z hm => ?_⟩
    by_cases e : m < ys.length
    · rw [List.getElem?_append_left e] at hm
      exact mono _ _ _ _ up (mono _ _ _ _ (TupS.of s4) (hr m z hm))
    · rw [List.getElem?_append_right (by omega)] at hm
      have e2 : m = ys.length := by
        have := (List.getElem?_eq_some_iff.mp hm).1
        rw [List.length_singleton] at this
        omega
      subst e2
      rw [Nat.sub_self] at hm
      cases hm
      rw [hl]
      exact mono _ _ _ _ up r
  · rintro H' ⟨s, ys, hl, h, hr⟩
    exact hd ys H' hl s h hr
end
section
variable {K : PySem.W.Frag} {i j : Nat} {te : TE} {σ : L2.St} {H : Hp} {v : V} {Q : VK}
theorem lcR_row (xs : List V) (R : Nat → V → Hp → Prop) (mono : ∀ i y H H', TupS H H' → R i y H → R i y H') (hi : σ[i]? = some (some v)) (h : RowAt H v xs) (hs : xs.length < 1000000)
    (turn : ∀ (m : Nat) (x : V) (H2 : Hp), xs[m]? = some x → Same H H2 → ∀ Q1 : VK, (∀ y H4, Same H2 H4 → R m y H4 → Q1 y H4) → te ((wipe σ [j]).set j (some x)) H2 Q1)
    (hd : ∀ D ys H', ys.length = xs.length → Same H H' → H D = none → H' D = some (.lst ys) → (∀ i y, ys[i]? = some y → R i y H') → Q (.ref D) H') : tLc (iSeqV K i) (gName j) tYes te [j] σ H Q := by
  obtain ⟨a, rfl, h1 | h1⟩ := h
  · refine ⟨a, hi, .inl ⟨_, SqT.of h1, fun D hD => lcR (walk_tup (K := K) (a := a) (xs := xs)) R mono hs hD (fun H' s => sameT s (SqT.of h1)) ?_ fun ys H' l s h2 r => hd D ys H' l s hD h2 r⟩⟩
    rintro m x H2 H3 hm s ⟨rfl, hx⟩ Q1 k
    exact turn m x _ hx s Q1 k
  · refine ⟨a, hi, .inr ⟨_, SqL.of h1, fun D hD => lcR (walk_list (K := K) (a := a) (xs := xs)) R mono hs hD (fun H' s => s.seq (SqL.of h1)) ?_ fun ys H' l s h2 r => hd D ys H' l s hD h2 r⟩⟩
    rintro m x H2 H3 hm s ⟨rfl, hx⟩ Q1 k
    exact turn m x _ hx s Q1 k
theorem setR_row {y : Nat} {D0 : Ends} (xs : List V) (R : Nat → V → Hp → Prop) (mono : ∀ i y H H', TupS H H' → R i y H → R i y H') (hi : σ[i]? = some (some v)) (h : RowAt H v xs) (hs : xs.length < 1000000)
    (turn : ∀ (m : Nat) (x : V) (H2 : Hp), xs[m]? = some x → Same H H2 → ∀ Q1 : VK, (∀ y H4, Same H2 H4 → R m y H4 → Q1 y H4) → te ((wipe σ [j]).set j (some x)) H2 Q1)
    (hd : ∀ D ys H', ys.length = xs.length → Same H H' → H D = none → H' D = some (.lst ys) → (∀ i y, ys[i]? = some y → R i y H') → D0.nx (σ.set y (some (.ref D))) H') : tAsg (tLc (iSeqV K i) (gName j) tYes te [j]) (gName y) D0 σ H := by
  show tLc (iSeqV K i) (gName j) tYes te [j] σ H fun x H1 => D0.nx (σ.set y (some x)) H1
  exact lcR_row xs R mono hi h hs turn hd
end
end CB

set_option maxHeartbeats 3900000
namespace CB
open PySem PySem.Spec PyProof.Rows L2 PyProof.V
/-! two rules that were lacking: a text times 0 or 1; setdefault by a tuple -/
def rMulS : R2 := fun x y H Q => ∃ (z : Str) (b : Bool), x = .str z ∧ y = .int (b2i b) ∧ z.length ≤ sizeLine ∧ Q (.str (if b = true then z else "")) H
section
variable {X : Cx}
theorem op_mulS : OpR X (binaryOp .Mult) rMulS := by
  intro pins s σ H x y v u Q I rx ry h
  obtain ⟨z, b, rfl, rfl, hz, q⟩ := h
  obtain ⟨t, rfl⟩ := rx
  obtain ⟨t', rfl⟩ := ry
  cases b with
  | false => exact P.mul_str_none (by decide) (by decide) ⟨.str "", H, I.tok _, ⟨_, rfl⟩, q⟩
  | true =>
    refine P.mul_str (by decide) (fun _ h => by cases h) (fun _ h => by cases h) ?_
    show (Made.val (.str z t)).post _ s
    exact ⟨.str z, H, I, ⟨_, rfl⟩, q⟩
/-- d.setdefault(k, x), k a tuple of texts and ints -/
def rSetdT : V → List V → Hp → VK → Prop := fun x xs H Q => ∃ (a : Addr) (kvs : List (List L2.Key × V)) (k : List L2.Key) (b : Addr) (d : V), x = .ref a ∧ xs = [.ref b, d] ∧ H a = some (.dT kvs) ∧ H b = some (.tup (k.map kV)) ∧ kvs.length < sizeLine ∧
  (∀ v, valV kvs k = some v → Q v H) ∧ (valV kvs k = none → Q d (upd H a (.dT (putK kvs k d))))
theorem mt_setdT (hu : X.A.units + 1 < cLine) : MtR X "dict.setdefault" rSetdT := by
  intro pins s σ H x xs v us Q I rx rxs h
  obtain ⟨a, kvs, k, b, d, rfl, rfl, ha, hb, hl, q1, q2⟩ := h
  cases rx
  obtain ⟨u1, u2, rfl, r1, r2⟩ := vals2 rxs
  cases r1
  obtain ⟨z, hd, xs', rel, dd⟩ := dt_of I.hok ha
  have hz : xs'.length ≤ sizeLine := by
    rw [← Paired.length rel]
    exact z
  refine call_setdefault_heap (knd := tupleKind (mixKind X.prog X.w)) (k := k) (tupleKind_room_in1 hu) (key_of I.hok hb) hd dd (fun p hp => ?_) (fun hn h' dd' hs => ?_) hz
  · have r := rel.val k
    rw [hp] at r
    obtain ⟨v0, ev, rv⟩ : ∃ v0, valV kvs k = some v0 ∧ RelV v0 p.2 := by
      cases ev : valV kvs k with
      | none =>
        rw [ev] at r
        exact (show False from r).elim
      | some v0 =>
        rw [ev] at r
        exact ⟨v0, rfl, r⟩
    exact ⟨v0, H, I.tok _, rv, q1 v0 ev⟩
  · have r := rel.val k
    rw [hn] at r
    have e : valV kvs k = none := by
      cases ev : valV kvs k with
      | none => rfl
      | some v0 =>
        rw [ev] at r
        exact (show False from r).elim
    obtain ⟨o, es, ep, hq, h2, h3, h4, _, h5⟩ := dd'
    have hl2 : (putK kvs k d).length ≤ sizeLine := by
      have := length_putK kvs k d
      omega
    refine ⟨d, _, d_write (ob := .dT (putK kvs k d)) I (by rw [ha]; exact True.intro) hs ⟨o, hq⟩ ⟨hl2, hd, _, (rel.put k hb r2).keeps fun c ys ec => ?_, o, es, ep, hq, h2, h3, h4, h5⟩, r2, q2 e⟩
    rw [upd_ne (ne_of ec ha (fun z => nomatch z))]
    exact ec
variable {K0 : PySem.W.Frag}
theorem len_seqK (hK : X.K = K0) : CallR X (.builtin "len") (fun xs H Q => ∃ p ys, xs = [V.ref p] ∧ (SqL K0 H p ys ∨ SqT K0 H p ys) ∧ Q (V.int (ys.length : Int)) H) := by
  subst hK
  exact call_len_seq
theorem sl_listK (hK : X.K = K0) : SlR X (rSlL K0) := by
  subst hK
  exact sl_list
def tJoinK (K0 : PySem.W.Frag) (to te : TE) : TE := tM1 (fun x xs H Q => ∃ a p, ∃ ys : List Str, x = .str a ∧ xs = [.ref p] ∧ (SqL K0 H p (ys.map V.str) ∨ SqT K0 H p (ys.map V.str)) ∧ (ys.map (·.length)).sum + ys.length * a.length ≤ 16777216 ∧ Q (.str (Txt.join a ys)) H) to te
theorem pe_joinK {o e : Expr} {to te : TE} {apos pos : Pos} (hK : X.K = K0) (ho : PE X o to) (he : PE X e te) (h1 : starEach [e] X.env = [(false, eval e X.env)] := by rfl) (h2 : attributeBase o "join" X.env (eval o X.env) = eval o X.env := by rfl)
    (h3 : (apos.endLine == pos.line) = true := by rfl) : PE X (.Call (.Attribute o "join" apos) [e] [] pos) (tJoinK K0 to te) := by
  subst hK
  exact pe_join ho he h1 h2 h3
end
end CB

set_option maxHeartbeats 3900000
namespace R
open PySem PySem.Spec PyProof.Rows L2 TL
open C8 (pss_cut tCut pe_gc)
open CB
/-- a def as others call it -/
structure At (K : PySem.W.Frag) (mg : Str → Option Value) (x : Str) (f : Addr) (fd : FuncData) (ps : List Str) : Prop where
  m : mg x = some (.ref f)
  k : PySem.W.keepIn K (.ref f) = true
  b : L2.Binds K fd ps []
structure TB (mg : Str → Option Value) : Prop where
  int : mg "int" = none
  len : mg "len" = none
  range : mg "range" = none
  list : mg "list" = none
  tuple : mg "tuple" = none
  any : mg "any" = none
  all : mg "all" = none
  isinstance : mg "isinstance" = none
  enumerate : mg "enumerate" = none
  str : mg "str" = none
  repr : mg "repr" = none
  iter : mg "iter" = none
abbrev aD' (K : PySem.W.Frag) (mg : Str → Option Value) (f : Addr) (fd : FuncData) := At K mg "_law_draw" f fd ["_law_stream", "_law_many"]
/-- a list, where the stream is none of it -/
structure Pool (H : Hp) (st l p : Addr) (zs : List V) : Prop where
  h : H p = some (.lst zs)
  n1 : p ≠ st
  n2 : p ≠ l
theorem Pool.but {H H' : Hp} {st l p : Addr} {zs : List V} (h : Pool H st l p zs) (B : But st l H H') : Pool H' st l p zs := ⟨B _ _ h.h h.n1 h.n2, h.n1, h.n2⟩
theorem er_perm {α : Type} : ∀ (l : List α) (m : Nat) (h : m < l.length), (l[m] :: l.eraseIdx m).Perm l
  | x :: r, 0, _ => List.Perm.refl _
  | x :: r, m + 1, h => by
    have hm : m < r.length := by simpa using h
    have ih := er_perm r m hm
    show (r[m]'hm :: x :: r.eraseIdx m).Perm (x :: r)
    exact (List.Perm.swap x (r[m]'hm) (r.eraseIdx m)).trans (List.Perm.cons x ih)
def spMixed : Sp := fun vs H Q _ => ∃ (st l p : Addr) (c : Nat) (zs : List V), vs = [.ref st, .ref p] ∧ Strm H st l c ∧ c ≤ 900000 ∧ Pool H st l p zs ∧ zs.length < 1000 ∧
  ∀ (D : Addr) (ys : List V) (H' : Hp), ys.Perm zs → H D = none → Pool H' st l D ys → But st l H H' → Strm H' st l (c + zs.length) → Q (.ref D) H'
section
variable {P : Program} {w : World} {K : PySem.W.Frag} {mg : Str → Option Value} {base : Heap} {fD fP fPa fFr fMx fTe fLo : Addr} {fdD fdP fdPa fdFr fdMx fdTe fdLo : FuncData}
theorem scMx : FnScope ["_law_stream", "_law_things", "_law_left", "_law_k"] ["_law_stream", "_law_things"] (defScope sMixed) := ⟨rfl, rfl, rfl, by decide +kernel, rfl, by decide +kernel, by decide +kernel⟩
theorem ok_mixed {f : Addr} {fd : FuncData} (F : Fun K "_law_mixed" "_law_mixed" sMixed f fd) (T : TB mg) (aD : aD' K mg fD fdD) (GD : FnOk P w K mg base CX0 1 fD fdD ["_law_stream", "_law_many"] spDraw) : FnOk P w K mg base CX0 2 f fd ["_law_stream", "_law_things"] spMixed := by
  refine F.ok scMx (fun vs H Q E h => ?_) (fun cdv A outer s H vs Q E hr h => ?_)
  · obtain ⟨st, l, p, c, zs, rfl, _⟩ := h
    rfl
  · obtain ⟨st, l, p, c, zs, rfl, S, hc, L, z1, k⟩ := h
    refine ⟨_, pss_cons (ps_set (i := 2) scMx.nd rfl (Or.inr rfl) (pe_callTy call_list_of (by rfl) T.list (by decide +kernel) (pa_cons (pv 1) pa_nil)))
            (pss_one (ps_ret (pe_lc (own := [("_law_k", 3)]) (g := gName 3) (tt := tYes) rfl scMx.nd (pi_range1 rfl T.range (pa_cons (pe_callB call_len_seq (by rfl) T.len PySem.boot_len (pa_cons (pv 2) pa_nil)) pa_nil)) (blkOk_by (own := [("_law_k", 3)]) (N := ["_law_stream", "_law_things", "_law_left", "_law_k"]) (sc := defScope sMixed) (by decide +kernel)) (fun _ _ _ _ _ => (pg_name (i := 3) scMx.nd rfl (Or.inl rfl))) (fun _ _ _ _ _ => pts_nil) (fun _ _ _ _ _ => (by exact (pe_bmK K rfl PySem.F.plainAttrs_list PySem.F.slot_list_pop PySem.F.type_list_pop mt_popAt (pv 2) (pa_cons (pe_call GD (hr.mono (by decide)) rfl aD.m aD.k aD.b .nil pass0 (pa_cons (pv 0) (pa_cons (pe_callB (len_seqK (K0 := K) rfl) (by rfl) T.len PySem.boot_len (pa_cons (pv 2) pa_nil)) pa_nil))) pa_nil))))))), ?_⟩
    refine ⟨_, rfl, p, _, rfl, .inl (SqL.of L.h), fun u hu => ?_⟩
    have nu := S.ne_new hu
    have S0 := S.up (same_mk (o := .lst zs) hu)
    refine ⟨_, rfl, u, _, rfl, .inl (SqL.of upd_same), _, rfl, by omega, by omega, fun D hD => ?_⟩
    have nD := S0.ne_new hD
    have uD : u ≠ D := ne_of_none upd_same hD
    have s01 : Same H (upd H u (.lst zs)) := same_mk hu
    have hDH : H D = none := s01.free hD
    refine lc_range (lo := 0) (n := ((zs.length : Nat) : Int).toNat) (fun i H' => But st l H H' ∧ Strm H' st l (c + i) ∧ ∃ rem ys : List V, ys.length = i ∧ (ys ++ rem).Perm zs ∧ H' u = some (.lst rem) ∧ H' D = some (.lst ys))
      ⟨But.same (s01.trans (same_mk hD)), S0.up (same_mk hD), zs, [], rfl, List.Perm.refl _, by rw [upd_ne uD]; exact upd_same, upd_same⟩ ?_ ?_
    · rintro i H' hi ⟨B', S', rem, ys, hy, pm, hu', hD'⟩
      have hi' : i < zs.length := by simpa using hi
      have rl : rem.length = zs.length - i := by
        have := pm.length_eq
        rw [List.length_append] at this
        omega
      refine ⟨rfl, _, rfl, .inl ⟨rfl, _, SqL.of hu'⟩, _, rfl, _, rfl, u, _, rfl, .inl (SqL.of hu'), st, l, c + i, _, rfl, S', by omega, by omega, by omega, fun d H'' d0 d1 B'' S'' => ?_⟩
      obtain ⟨m, rfl⟩ := Int.eq_ofNat_of_zero_le d0
      have hm : m < rem.length := by omega
      have hu2 := B'' _ _ hu' nu.1 nu.2
      have hD2 := B'' _ _ hD' nD.1 nD.2
      have sx : seqIndex? (m : Int) rem.length = some m := by
        have h0 : ¬ ((m : Int) < 0) := by omega
        simp [seqIndex?, h0, hm]
      refine ⟨u, _, m, m, rem[m], rfl, rfl, hu2, by omega, by omega, sx, List.getElem?_eq_getElem hm, _, by rw [upd_ne uD.symm]; exact hD2, ?_, ?_, ?_, rem.eraseIdx m, ys ++ [rem[m]], ?_, ?_, ?_, ?_⟩
      · rw [hy]
        exact Nat.lt_of_lt_of_le (show i < 1000 by omega) (by decide)
      · intro b o hb n1 n2
        by_cases e1 : b = D
        · rw [e1, hDH] at hb
          cases hb
        · rw [upd_ne e1]
          by_cases e2 : b = u
          · rw [e2, hu] at hb
            cases hb
          · rw [upd_ne e2]
            exact B'' _ _ (B' _ _ hb n1 n2) n1 n2
      · exact (S''.put nu).put nD
      · rw [List.length_append, hy]
        rfl
      · rw [List.append_assoc]
        exact (List.Perm.append_left ys (er_perm rem m hm)).trans pm
      · rw [upd_ne uD, upd_same]
      · exact upd_same
    · rintro H' ⟨B', S', rem, ys, hy, pm, hu', hD'⟩
      have hy' : ys.length = zs.length := by simpa using hy
      have rl : rem.length = 0 := by
        have := pm.length_eq
        rw [List.length_append] at this
        omega
      rw [List.length_eq_zero_iff.mp rl, List.append_nil] at pm
      exact k D ys H' pm hDH ⟨hD', nD.1, nD.2⟩ B' (by simpa using S')
end
end R

set_option maxHeartbeats 3900000
/-! operators by the text's own methods: rules for ~o, o | u, o & u, x in o, len(o), o == u -/
namespace OW
open PySem PySem.Spec PyProof.Rows L2 PySem.F
section
variable {X : Cx} {k : Nat} {C f : Addr} {fd : FuncData} {ps : List Str} {sp : Sp} {CX : CXT} {E : XK}
/-- what stands where an instance is tracked -/
theorem inst_at {pins : List (Addr × Obj)} {σ : L2.St} {H : Hp} {s : Shared} {a dx : Addr} {fs : List (Str × V)} (I : Inv X pins σ H s) (ha : H a = some (.ins C dx fs)) : ∃ ox od, PySem.W.InstAt s.heap a ox C od := by
  obtain ⟨mA, J, _⟩ := ins_get I.hok ha
  obtain ⟨od, J, _⟩ := J.look
  exact ⟨_, _, J⟩
theorem cmp_back {pins : List (Addr × Obj)} {σ : L2.St} {Q : VK} {A : Around} {m : Sem Value} {Es : Value → Shared → Prop} {s : Shared} (h : wpAny (model X.prog X.w) A m (EP X pins σ Q) Es s) : wpAny (model X.prog X.w) A m (PySem.W.CmpBack (EP X pins σ Q)) Es s :=
  wpAny_mono h (fun u s' hq => by
    obtain ⟨v, H', I', rv, q⟩ := hq
    have e : EP X pins σ Q u s' := ⟨v, H', I', rv, q⟩
    cases v with
    | non => cases rv; exact e
    | bl b => cases rv; exact e
    | int i => obtain ⟨t, rfl⟩ := rv; exact e
    | str z => obtain ⟨t, rfl⟩ := rv; exact e
    | byt z => obtain ⟨t, rfl⟩ := rv; exact e
    | flt z => obtain ⟨t, rfl⟩ := rv; exact e
    | ref z => cases rv; exact e
    | ty z => cases rv; exact e) fun _ _ e => e
/-- a call of a def from within an operation -/
theorem run_in {A : Around} {pins : List (Addr × Obj)} {σ : L2.St} {H : Hp} {s : Shared} {Q : VK} {us : List Value} {vs : List V} (F : FnOk X.prog X.w X.K X.mg X.base CX k f fd ps sp) (sb : Sub X k A) (hb : Binds X.K fd ps []) (hx : Passes CX X E)
    (I : Inv X pins σ H s) (r : Vals vs us) (h : sp vs H Q E) : wpAny (model X.prog X.w) A (call (.ref f) us) (EP X pins σ Q) X.xe s := by
  have e0 : Env0 X.prog X.w X.K X.mg X.base A X.stack s H := by
    have e := I.env0
    exact ⟨by rw [sb.fr]; exact e.frames, e.mod, e.bs, e.bsz, e.funs, e.frf, e.hok, e.bare⟩
  have hl : us.length = ps.length := by rw [← r.length]; exact F.len _ _ _ _ h
  refine wpAny_call (codeAny_mono (F.run A X.stack s H ⟨us, []⟩ us vs Q E sb.room e0 (by
    have := hb s us I.kIn (by simpa using hl)
    simpa using this) r h) fun r s' hq => ?_)
  cases r with
  | error e => exact hx pins σ H s e s' I hq
  | ok fl =>
    cases fl with
    | ret w =>
      obtain ⟨z, H', I', rz, q⟩ := I.after hq
      exact ⟨z, H', I', rz, q⟩
    | next => exact False.elim hq
    | brk => exact False.elim hq
    | cont => exact False.elim hq
/-- ~o -/
def rInv (C : Addr) (sp : Sp) (E : XK) : V → Hp → VK → Prop := fun x H Q => ∃ a dx fs, x = .ref a ∧ H a = some (.ins C dx fs) ∧ sp [.ref a] H Q E
theorem un_inv (F : FnOk X.prog X.w X.K X.mg X.base CX k f fd ps sp) (hr : Room k X.A) (hb : Binds X.K fd ps []) (hx : Passes CX X E) (M : Meth X.K C "__invert__" f) : UnR X (unaryOp .Invert) (rInv C sp E) := by
  intro pins s σ H x v Q I rx h
  obtain ⟨a, dx, fs, rfl, ha, q⟩ := h
  cases rx
  obtain ⟨ox, od, J⟩ := inst_at I ha
  obtain ⟨m, hF⟩ := I.fr
  exact PySem.W.ksp_inv hF I.ok.mod.kin J M.at_ M.fn (run_fn F hr hb .nil hx I (vs := [.ref a]) (.cons rfl .nil) q)
/-- x in o -/
def rInO (C : Addr) (sp : Sp) (E : XK) : R2 := fun x y H Q => ∃ a dx fs, y = .ref a ∧ H a = some (.ins C dx fs) ∧ sp [.ref a, x] H (fun v H' => ∃ b, v = .bl b ∧ Q (.bl b) H') E
theorem op_inO (F : FnOk X.prog X.w X.K X.mg X.base CX k f fd ps sp) (hr : Room k X.A) (hb : Binds X.K fd ps []) (hx : Passes CX X E) (M : Meth X.K C "__contains__" f) : OpR X (compareOp .In) (rInO C sp E) := by
  intro pins s σ H x y v u Q I rx ry h
  obtain ⟨a, dx, fs, rfl, ha, q⟩ := h
  cases ry
  obtain ⟨ox, od, J⟩ := inst_at I ha
  have K0 := I.kIn
  show wpAny (model X.prog X.w) X.A (do return .bool (← contains (.ref a) v)) (EP X pins σ Q) X.xe s
  refine wpAny_bind ?_
  unfold contains
  refine wpAny_holding ?_
  have e0 : stdlibNamesSay? (.ref a) v = none := rfl
  rw [e0]
  refine wpAny_bind (wpAny_bind (J.type.here ((PySem.W.looks_findIn K0 M.at_).here ?_)))
  show wpAny _ _ (if (some (Value.ref f) == some Value.none) = true then _ else _) _ _ s
  rw [if_neg (by simp)]
  have run := run_fn F hr hb .nil hx I (vs := [.ref a, x]) (us := [.ref a, v]) (.cons rfl (.cons rx .nil)) q
  unfold callSpecialUnlessNone?
  refine wpAny_bind (wpAny_bind (wpAny_bind (J.type.here ((PySem.W.looks_findIn K0 M.at_).here ?_))))
  refine wpAny_holding (wpAny_bind ((PySem.W.bind_fn K0 _ (beq_iff_eq.mp M.fn)).here ?_))
  show wpAny _ _ (if (Value.ref f == Value.none) = true then _ else _) _ _ s
  rw [if_neg (by simp)]
  refine wpAny_bind (wpAny_mono run (fun r s' hq => ?_) fun _ _ e => e)
  obtain ⟨w, H', I', rw', b, rfl, q'⟩ := hq
  cases rw'
  refine wpAny_pure ?_
  refine wpAny_truthy_bool (wpAny_pure ⟨.bl b, H', I', rfl, q'⟩)
/-- len(o) -/
def rLenO (C : Addr) (sp : Sp) (E : XK) : List V → Hp → VK → Prop := fun vs H Q => ∃ a dx fs, vs = [.ref a] ∧ H a = some (.ins C dx fs) ∧ sp [.ref a] H (fun v H' => ∃ n : Nat, v = .int (n : Int) ∧ n < 2 ^ 62 ∧ Q (.int (n : Int)) H') E
theorem call_lenO (F : FnOk X.prog X.w X.K X.mg X.base CX k f fd ps sp) (hr : Room (k + 1) X.A) (hb : Binds X.K fd ps []) (hx : Passes CX X E) (M : Meth X.K C "__len__" f) : CallR X (.builtin "len") (rLenO C sp E) := by
  intro pins s σ H xs us Q I r h
  obtain ⟨a, dx, fs, rfl, ha, q⟩ := h
  obtain ⟨ox, od, J⟩ := inst_at I ha
  obtain ⟨u, rfl, ru⟩ := vals1 r
  cases ru
  have K0 := I.kIn
  refine Calls.call_function_entry kind_len plain_len entry_len (args_len1 _) ?_
  unfold Builtin.«len»
  refine wpAny_bind (m := oneArg "len" _) (wpAny_pure ?_)
  have run := run_in F (A := X.A.in1) ⟨hr.in1, rfl⟩ hb hx I (vs := [.ref a]) (us := [.ref a]) (.cons rfl .nil) q
  refine wpAny_bind (m := callSpecial? (.ref a) (Str.ofString "__len__")) (PySem.W.special_fn K0 J M.at_ (beq_iff_eq.mp M.fn) (wpAny_mono run (fun rv s' hq => ?_) fun _ _ e => e))
  obtain ⟨w, H', I', rw', n, rfl, hn, q'⟩ := hq
  obtain ⟨t, rfl⟩ := rw'
  show wpAny _ _ _ _ _ s'
  refine wpAny_bind (wpAny_holding (wpAny_pure ?_))
  refine wpAny_bind (wpAny_letGo ?_)
  show wpAny _ _ (if (n : Int) < 0 then _ else _) _ _ _
  rw [if_neg (by omega)]
  show wpAny _ _ (if (n : Int) ≥ 2 ^ 63 then _ else _) _ _ _
  rw [if_neg (by omega)]
  exact wpAny_bind (wpAny_mkInt (wpAny_pure ⟨_, rfl, ⟨.int n, H', I'.tok _, ⟨_, rfl⟩, q'⟩⟩))
/-- a op b of two instances of one class, by its own method -/
theorem bin_own {op : Operator} {A : Around} {Es : Value → Shared → Prop} {s : Shared} {K : PySem.W.Frag} {x y : Addr} {ox oy : Obj} {od od' : Option Obj} {R : Value → Shared → Prop} (K0 : K.In s.heap) (J : PySem.W.InstAt s.heap x ox C od) (J' : PySem.W.InstAt s.heap y oy C od') (hc : PySem.W.selfFirst K C = true)
    (hs : PySem.W.findIn K (.ref C) (PySem.dunder op.info.2) = some (some (.ref f))) (hf : PySem.W.isFn K (.ref f) = true)
    (h : wpAny (model X.prog X.w) A (call (.ref f) [.ref x, .ref y]) (PySem.W.CmpBack R) Es s) : wpAny (model X.prog X.w) A (binaryOp op (.ref x) (.ref y)) R Es s := by
  obtain ⟨cd, rest, hcd, hm⟩ := PySem.W.ksp_first hc
  rcases hi : op.info with ⟨sym, nm'⟩
  rw [hi] at hs
  dsimp only at hs
  have one := PySem.W.ksp_try K0 J hs hf h
  have L1 : PySem.W.Looks (model X.prog X.w) s.heap (typeOf (.ref x)) (.ref C) := J.type
  have L2' : PySem.W.Looks (model X.prog X.w) s.heap (typeOf (.ref y)) (.ref C) := J'.type
  have L3 : PySem.W.Looks (model X.prog X.w) s.heap (fillsNumberSlot (.ref C) nm') true := PySem.W.fills_K K0 hcd hm hs
  simp only [binaryOp, hi]
  refine wpAny_holding (wpAny_bind ?_)
  unfold binaryOp1
  refine wpAny_bind (L1.here (wpAny_bind (L2'.here (wpAny_bind (L3.here ?_)))))
  have hne : (Value.ref C == Value.ref C) = true := by simp
  simp only [hne, if_true, pure_bind, Bool.and_false, Bool.false_and, Bool.false_eq_true, if_false]
  refine wpAny_bind (wpAny_mono one (fun r s' hr' => ?_) fun _ _ e => e)
  obtain ⟨v, rfl, hq⟩ := hr'
  exact wpAny_pure (wpAny_pure hq)
def rBinO (C : Addr) (sp : Sp) (E : XK) : R2 := fun x y H Q => ∃ a b dx dy fs gs, x = .ref a ∧ y = .ref b ∧ H a = some (.ins C dx fs) ∧ H b = some (.ins C dy gs) ∧ sp [.ref a, .ref b] H Q E
theorem op_binO {op : Operator} (F : FnOk X.prog X.w X.K X.mg X.base CX k f fd ps sp) (hr : Room k X.A) (hb : Binds X.K fd ps []) (hx : Passes CX X E) (hc : PySem.W.selfFirst X.K C = true)
    (hs : PySem.W.findIn X.K (.ref C) (PySem.dunder op.info.2) = some (some (.ref f))) (hf : PySem.W.isFn X.K (.ref f) = true) : OpR X (binaryOp op) (rBinO C sp E) := by
  intro pins s σ H x y v u Q I rx ry h
  obtain ⟨a, b, dx, dy, fs, gs, rfl, rfl, ha, hb', q⟩ := h
  cases rx
  cases ry
  obtain ⟨ox, od, J⟩ := inst_at I ha
  obtain ⟨oy, od', J'⟩ := inst_at I hb'
  exact bin_own I.kIn J J' hc hs hf (cmp_back (run_fn F hr hb .nil hx I (vs := [.ref a, .ref b]) (.cons rfl (.cons rfl .nil)) q))
/-- o == y: y of any kind -/
def rEqO (K : PySem.W.Frag) (C : Addr) (sp : Sp) (E : XK) : R2 := fun x y H Q => ∃ a dx fs t, x = .ref a ∧ H a = some (.ins C dx fs) ∧ TyX K H y t ∧ PySem.W.notFirst K C t = true ∧ sp [.ref a, y] H Q E
theorem op_eqO (F : FnOk X.prog X.w X.K X.mg X.base CX k f fd ps sp) (hr : Room k X.A) (hu : X.A.units < cLine) (hb : Binds X.K fd ps []) (hx : Passes CX X E) (M : Meth X.K C "__eq__" f) : OpR X (compareOp .Eq) (rEqO X.K C sp E) := by
  intro pins s σ H x y v u Q I rx ry h
  obtain ⟨a, dx, fs, t, rfl, ha, ht, hn, q⟩ := h
  cases rx
  obtain ⟨ox, od, J⟩ := inst_at I ha
  obtain ⟨m, hF⟩ := I.fr
  show wpAny (model X.prog X.w) X.A (richCompare .Eq (.ref a) u) (EP X pins σ Q) X.xe s
  exact PySem.W.cmp_K (op := .Eq) (tb := t) hu hF I.ok.mod.kin J (by obtain ⟨P, Z, p, _⟩ := kit_of I ry ht; exact Z.ty _ _ I.kIn p) hn M.at_ M.fn (cmp_back (run_fn F hr hb .nil hx I (vs := [.ref a, y]) (.cons rfl (.cons ry .nil)) q))
theorem ne_slot : PySem.Slot "object" "__ne__" "object.__ne__" := .of (T := "object") (name := "__ne__") (owner := "object") (n := "__ne__") (by rw [typeLookup_type, builtinLookup_eq_fast]; kernel_rfl) (by decide +kernel) (by decide +kernel) (by decide +kernel) (.inl (by decide +kernel)) (by rw [isSubtype_type]; kernel_rfl)
/-- a slot of object's, found in an own class -/
theorem ifBound_B {M : Model} {A : Around} {Es : Value → Shared → Prop} {s : Shared} {K : PySem.W.Frag} {x : Addr} {ox : Obj} {od : Option Obj} {name : Str} {id : String} {args : List Value} {R : Option Value → Shared → Prop} (S : PySem.Slot "object" name id) (K0 : K.In s.heap) (J : PySem.W.InstAt s.heap x ox C od)
    (hs : PySem.W.findIn K (.ref C) name = some (some (.builtin id))) (h : wpAny M A (call (.builtin id) (.ref x :: args)) (fun v => R (some v)) Es s) : wpAny M A (callSpecialIfBound? (.ref x) name args) R Es s := by
  simp only [callSpecialIfBound?, bindSpecialIfBound?]
  refine wpAny_holding (wpAny_bind (wpAny_bind (wpAny_bind (J.type.here ((PySem.W.looks_findIn K0 hs).here ?_)))))
  refine wpAny_bind (wpAny_askSetting (wpAny_ite ?_))
  have fin : wpAny M A (call (.builtin id) ([.ref x] ++ args) >>= fun v => pure (some v)) R Es s := wpAny_bind (wpAny_mono h (fun v s' h' => wpAny_pure h') fun _ _ h' => h')
  split
  · rw [S.bind]
    exact wpAny_bind (wpAny_pure (wpAny_pure (by exact fin)))
  · rw [S.bind]
    exact wpAny_tryCatch (wpAny_bind (wpAny_pure (wpAny_pure (by exact fin))))
/-- o != u of two instances of one class whose == is its own -/
def rNeO (C : Addr) (sp : Sp) (E : XK) : R2 := fun x y H Q => ∃ a b dx dy fs gs, x = .ref a ∧ y = .ref b ∧ H a = some (.ins C dx fs) ∧ H b = some (.ins C dy gs) ∧ sp [.ref a, .ref b] H (fun v H' => ∃ r, v = .bl r ∧ Q (.bl (!r)) H') E
theorem op_neO (F : FnOk X.prog X.w X.K X.mg X.base CX k f fd ps sp) (hr : Room (k + 1) X.A) (hu : X.A.units + 1 < cLine) (hb : Binds X.K fd ps []) (hx : Passes CX X E) (M : Meth X.K C "__eq__" f)
    (hn : PySem.W.findIn X.K (.ref C) "__ne__" = some (some (.builtin "object.__ne__"))) (hO : PySem.W.subIn X.K (.ref C) (.type "object") = some true) : OpR X (compareOp .NotEq) (rNeO C sp E) := by
  intro pins s σ H x y v u Q I rx ry h
  obtain ⟨a, b, dx, dy, fs, gs, rfl, rfl, ha, hb', q⟩ := h
  cases rx
  cases ry
  obtain ⟨ox, od, J⟩ := inst_at I ha
  obtain ⟨oy, od', J'⟩ := inst_at I hb'
  have K0 := I.kIn
  have hu0 : X.A.units < cLine := by omega
  show wpAny (model X.prog X.w) X.A (richCompare .NotEq (.ref a) (.ref b)) (EP X pins σ Q) X.xe s
  unfold richCompare
  simp only [oneThing_ref]
  refine wpAny_holding (wpAny_bind (wpAny_cRoomFor hu0 ?_))
  rw [cmpInfo_NotEq]
  dsimp only
  refine wpAny_bind (J.type.here (wpAny_bind (J'.type.here ?_)))
  rw [show (Value.ref C != Value.ref C) = false from by simp]
  simp only [Bool.false_eq_true, if_false]
  refine wpAny_bind (wpAny_pure ?_)
  simp only [Bool.false_eq_true, if_false]
  have run := run_in F (A := X.A.in1) ⟨hr.in1, rfl⟩ hb hx I (vs := [.ref a, .ref b]) (us := [.ref a, .ref b]) (.cons rfl (.cons rfl .nil)) q
  have isO : PySem.W.Looks (model X.prog X.w) s.heap (isInstance (.ref a) (.type "object")) true := J.type.andThen (PySem.W.looks_subIn K0 hO)
  have one : wpAny (model X.prog X.w) X.A (tryCompare (.ref a) "__ne__" (.ref b)) (fun r s' => ∃ v, r = some v ∧ EP X pins σ Q v s') X.xe s := by
    simp only [tryCompare]
    refine wpAny_bind (ifBound_B ne_slot K0 J hn (wpAny_call (codeAny_call_builtin (by decide +kernel) PySem.F.cmpEntry_ne (PySem.W.check_slot PySem.F.cmpKind_ne PySem.F.cmpSplit_ne isO (PySem.F.cmpArgs_ne _ _) ?_))))
    unfold Builtin.«object.__ne__»
    have hu1 : X.A.in1.units < cLine := by
      have : X.A.in1.units = X.A.units + 1 := rfl
      omega
    repeat (first
      | with_reducible refine wpAny_cRoomFor hu1 ?_
      | (refine wpAny_bind (m := callSpecialIfBound? (.ref a) (Str.ofString "__eq__") [.ref b])
          (PySem.W.ifBound_K K0 J M.at_ M.fn (wpAny_mono run (fun r s' hq => by
            obtain ⟨w, H', I', rw', b', rfl, q'⟩ := hq
            cases rw'
            have fin : EP X pins σ Q (.bool (!b')) s' := ⟨.bl (!b'), H', I', rfl, q'⟩
            repeat (first | exact ⟨_, rfl, fin⟩ | exact wpAny_pure ⟨_, rfl, fin⟩ | (refine wpAny_bind (m := truthy (.bool _)) (wpAny_truthy_bool ?_)) | wp_step)) fun _ _ e => e)))
      | wp_step)
  refine wpAny_bind (wpAny_mono one (fun r s' hr' => ?_) fun _ _ e => e)
  obtain ⟨v, rfl, hq⟩ := hr'
  exact wpAny_pure hq
end
end OW

set_option maxHeartbeats 3900000
/-! going through an instance whose __iter__ hands out the iterator of a tuple that it holds -/
namespace OW
open PySem PySem.Spec PyProof.Rows L2 PySem.F
def titObj (l : Addr) : Obj := { cls := .type "tuple_iterator", data := .fields #[.ref l, .int 0 0] }
def TItO (l it : Addr) : HO := .ext fun h => h.get? it = some (titObj l)
theorem titO_ok {P : Program} {w : World} {H : Hp} {h : Heap} {l it : Addr} (e : h.get? it = some (titObj l)) : ObjOk P w H h it (TItO l it) := ⟨e, ⟨_, e⟩, fun h1 h2 q k => k _ q⟩
def rIterT (K : PySem.W.Frag) (n : Nat) : List V → Hp → VK → Prop := fun xs H Q => ∃ (l : Addr) (zs : List V), xs = [.ref l] ∧ SqT K H l zs ∧ ∀ it, H it = none → n ≤ it → Q (.ref it) (upd H it (TItO l it))
section
variable {X : Cx} {k : Nat} {C f : Addr} {fd : FuncData} {ps : List Str} {sp : Sp} {CX : CXT} {E : XK}
theorem call_iterT : CallR X (.builtin "iter") (rIterT X.K X.s_0.heap.objs.size) := by
  intro pins s σ H xs us Q I r h
  obtain ⟨l, zs, rfl, hq, q⟩ := h
  obtain ⟨u, rfl, ru⟩ := vals1 r
  cases ru
  obtain ⟨its, rv, pl, hz⟩ := I.tuple hq
  refine Calls.call_function_entry (by decide +kernel) (by decide +kernel) PySem.W.kdk_entry_iter (PySem.W.kdk_args_iter _) ?_
  unfold Builtin.«iter»
  refine wpAny_bind (m := someArgs "iter" 1 2 _) (wpAny_of_eq (a := [Value.ref l]) (by first | rfl | kernel_rfl!) ?_)
  show wpAny _ _ (pyIter (.ref l) >>= _) _ _ _
  refine wpAny_bind (wpAny_pyIter_tuple (show s.heap.IsTuple l its.toArray from pl) ?_)
  exact wpAny_pure ⟨_, rfl, .ref s.heap.objs.size, _, I.laid (t' := s.toks) (fun b u e => Heap.get?_push_of_some _ e) (Nat.le_refl _) (titO_ok (Heap.get?_push_size _ rfl)), rfl, q _ (I.hok.fresh (Nat.le_refl _)) I.sz⟩
/-- a def whose promise speaks of the heap's size at the call -/
structure FnS (P : Program) (w : World) (K : PySem.W.Frag) (mg : Str → Option Value) (base : Heap) (CX : CXT) (k : Nat) (f : Addr) (fd : FuncData) (ps : List Str) (sp : Nat → Sp) : Prop where
  len : ∀ n vs H Q E, sp n vs H Q E → vs.length = ps.length
  run : ∀ (A : Around) (outer : List Env) (s : Shared) (H : Hp) (args : Args) (us : List Value) (vs : List V) (Q : VK) (E : XK), Room k A → Env0 P w K mg base A outer s H → BindsTo s fd args (ps.zip us) → Vals vs us →
    sp s.heap.objs.size vs H Q E → codeAny (model P w) A (.call (.ref f) args) (CR CX outer P w H s Q E) s
theorem fnS_of {P : Program} {w : World} {K : PySem.W.Frag} {mg : Str → Option Value} {base : Heap} {x qual : Str} {st : Stmt} {N : List Str} {spn : Nat → Sp} (F : Fun K x qual st f fd) (S : FnScope N ps (defScope st)) (len : ∀ n vs H Q E, spn n vs H Q E → vs.length = ps.length)
    (body : ∀ (cdv : Value) (A : Around) (outer : List Env) (s : Shared) (H : Hp) (vs : List V) (Q : VK) (E : XK), Room k (A.deeper (envOfC qual (defScope st) s.heap.objs.size f cdv)) → spn s.heap.objs.size vs H Q E →
      ∃ t, PSs (cxOf CX0 P w K mg base N qual (defScope st) f cdv A outer s H E).nox (defBody st) t ∧ t { nx := fun _ H' => Q .non H', rt := Q } (start N vs) H) : FnS P w K mg base CX0 (k + 1) f fd ps spn := by
  obtain ⟨oc, od, kV, doc, pm, an, cdv, ct, osl, rfl, lk, hcd⟩ := F.ex
  refine ⟨len, fun A outer s H args us vs Q E room env0 hbind rvs hsp => ?_⟩
  have hlen := len _ _ _ _ _ hsp
  have kin : K.In s.heap := env0.mod.kin.keeps fun b o e => (env0.bs b o e).1
  have nolim : s.heap.NoLimit := env0.mod.nolimit.keeps fun b o e => (env0.bs b o e).1
  have kinds : ∀ y ∈ ps.zip us, (defScope st).names.lookup y.1 = some .local ∨ ((defScope st).names.lookup y.1 = some .cell ∧ ((cellsFrom (s.heap.objs.size + 1) (defScope st).names []).lookup y.1).isSome = true) := by
    rintro ⟨nm, v⟩ hy
    have hm := (List.of_mem_zip hy).1
    cases S.par nm hm with
    | inl q => exact .inl q
    | inr q => exact .inr ⟨q, PySem.W.cellsFrom_some _ _ _ (.inl q)⟩
  refine codeAny_call_function room.depth (kin _ _ lk) rfl S.co S.gen rfl (PySem.W.codeRec_of kin hcd) (hbind _ _ _ _ ?_)
  refine wpAny_newFunctionEnv_cells S.kind kinds fun env he s1 new => ?_
  cases he
  refine ⟨nolim.keeps new.toInCall.keep, codeAny_func ?_⟩
  obtain ⟨t, ht, hq⟩ := body cdv A outer s H vs Q E (room.deeper _) hsp
  have I := inv_start (CX := CX0) (mg := mg) (E := E) S room.hd env0 hlen rvs new
  refine wpAny_mono (ht.nox.run [] s1 (start N vs) H _ I hq) (fun fl s' hs => ?_) fun _ _ hs => hs
  cases fl with
  | ret u => obtain ⟨v, _, H', J, rv, q⟩ := hs; exact ⟨v, H', J.os, J.bare, J.base, J.hok, rv, q⟩
  | next => obtain ⟨_, H', J, q⟩ := hs; exact ⟨.non, H', J.os, J.bare, J.base, J.hok, rfl, q⟩
  | brk => obtain ⟨_, _, _, q⟩ := hs; exact q.elim
  | cont => obtain ⟨_, _, _, q⟩ := hs; exact q.elim
theorem run_inS {A : Around} {pins : List (Addr × Obj)} {σ : L2.St} {H : Hp} {s : Shared} {Q : VK} {us : List Value} {vs : List V} {spn : Nat → Sp} (F : FnS X.prog X.w X.K X.mg X.base CX k f fd ps spn) (sb : Sub X k A) (hb : Binds X.K fd ps []) (hx : Passes CX X E)
    (I : Inv X pins σ H s) (r : Vals vs us) (h : spn s.heap.objs.size vs H Q E) : wpAny (model X.prog X.w) A (call (.ref f) us) (EP X pins σ Q) X.xe s := by
  have e0 : Env0 X.prog X.w X.K X.mg X.base A X.stack s H := by
    have e := I.env0
    exact ⟨by rw [sb.fr]; exact e.frames, e.mod, e.bs, e.bsz, e.funs, e.frf, e.hok, e.bare⟩
  have hl : us.length = ps.length := by rw [← r.length]; exact F.len _ _ _ _ _ h
  have hbt : BindsTo s fd ⟨us, []⟩ (ps.zip us) := by
    have := hb s us I.kIn (by simpa using hl)
    simpa using this
  refine wpAny_call (codeAny_mono (F.run A X.stack s H ⟨us, []⟩ us vs Q E sb.room e0 hbt r h) fun r s' hq => ?_)
  cases r with
  | error e => exact hx pins σ H s e s' I hq
  | ok fl =>
    cases fl with
    | ret w =>
      obtain ⟨z, H', I', rz, q⟩ := I.after hq
      exact ⟨z, H', I', rz, q⟩
    | next => exact False.elim hq
    | brk => exact False.elim hq
    | cont => exact False.elim hq
/-- the promise of such an __iter__: g is the field that holds the tuple -/
def spIt (C : Addr) (K : PySem.W.Frag) (g : Str) (n : Nat) : Sp := fun vs H Q _ => ∃ o dx fs p xs, vs = [.ref o] ∧ H o = some (.ins C dx fs) ∧ fs.lookup g = some (.ref p) ∧ SqT K H p xs ∧ ∀ it, H it = none → n ≤ it → Q (.ref it) (upd H it (TItO p it))
/-- for .. in e, e such an instance -/
def iOwn (K : PySem.W.Frag) (C : Addr) (g : Str) (te : TE) : TI := fun σ H R => te σ H fun x H1 => ∃ o dx fs p xs, x = .ref o ∧ H1 o = some (.ins C dx fs) ∧ fs.lookup g = some (.ref p) ∧ SqT K H1 p xs ∧ R (Itt K p) H1
theorem pi_own {tg e : Expr} {te : TE} {g : Str} (F : FnS X.prog X.w X.K X.mg X.base CX0 k f fd ps (spIt C X.K g)) (hr : Room k X.A) (hb : Binds X.K fd ps []) (hx : Passes CX0 X E) (M : Meth X.K C "__iter__" f) (he : PE X e te) : PI X tg e (iOwn X.K C g te) := by
  refine ⟨fun pins s σ H R I h => ?_⟩
  refine thn (he.run pins s σ H _ I h) fun v s1 ⟨x, H1, I1, r1, o, dx, fs, p, xs, ex, ho, hg, hp, q⟩ => ?_
  subst ex
  cases r1
  obtain ⟨ox, od, J⟩ := inst_at I1 ho
  obtain ⟨m, hF⟩ := I1.fr
  have run := run_inS (Q := fun v H' => ∃ it, v = .ref it ∧ H1 it = none ∧ s1.heap.objs.size ≤ it ∧ H' = upd H1 it (TItO p it)) F (A := X.A) ⟨hr, rfl⟩ hb hx I1 (vs := [.ref o]) (us := [.ref o]) (.cons rfl .nil)
    ⟨o, dx, fs, p, xs, rfl, ho, hg, hp, fun it hn hs => ⟨it, rfl, hn, hs, rfl⟩⟩
  refine PySem.W.owit_iter hF I1.ok.mod.kin J M.at_ M.fn (wpAny_mono run (fun u s2 hq => ?_) fun _ _ e => e)
  obtain ⟨v, H', I2, rv, it, rfl, hn, hs, rfl⟩ := hq
  cases rv
  have eo : s2.heap.get? it = some (titObj p) := (I2.hok it _ upd_same).1
  have hT : s2.TypeIs (.ref it) "tuple_iterator" := ⟨_, eo, rfl⟩
  unfold PySem.W.OwitIt
  refine wpAny_specialOf (name := Str.ofString "__next__") hT PySem.F.slot_tuple_iterator_next.lookup ?_
  have st : s2.heap.IsTupleIter it p 0 := ⟨_, eo, rfl, rfl⟩
  have I3 : Inv X pins σ H1 s2 := by
    have := ItX.inv_drop (φ := fun h => h.get? it = some (titObj p)) I2 (show upd H1 it (TItO p it) it = some (TItO p it) from upd_same)
    rw [ItX.dropH_upd hn] at this
    exact this
  refine ⟨it, [it], _, _, H1, rfl, I3, turn_tuple p it, st, fun b hb => ?_, q⟩
  have e : b = it := by simpa using hb
  rw [e]
  have := ItX.inv_fp I2 (show upd H1 it (TItO p it) it = some (TItO p it) from upd_same) (Nat.le_trans I1.sz hs)
  rw [ItX.dropH_upd hn] at this
  exact this
/-- a call of a def that lets nothing out -/
theorem run_in0 {A : Around} {pins : List (Addr × Obj)} {σ : L2.St} {H : Hp} {s : Shared} {Q : VK} {us : List Value} {vs : List V} {Es : Value → Shared → Prop} (F : FnOk X.prog X.w X.K X.mg X.base CX0 k f fd ps sp) (sb : Sub X k A) (hb : Binds X.K fd ps [])
    (I : Inv X pins σ H s) (r : Vals vs us) (h : sp vs H Q E) : wpAny (model X.prog X.w) A (call (.ref f) us) (EP X pins σ Q) Es s := by
  have e0 : Env0 X.prog X.w X.K X.mg X.base A X.stack s H := by
    have e := I.env0
    exact ⟨by rw [sb.fr]; exact e.frames, e.mod, e.bs, e.bsz, e.funs, e.frf, e.hok, e.bare⟩
  have hl : us.length = ps.length := by rw [← r.length]; exact F.len _ _ _ _ h
  have hbt : BindsTo s fd ⟨us, []⟩ (ps.zip us) := by
    have := hb s us I.kIn (by simpa using hl)
    simpa using this
  refine wpAny_call (codeAny_mono (F.run A X.stack s H ⟨us, []⟩ us vs Q E sb.room e0 hbt r h) fun r s' hq => ?_)
  cases r with
  | error e => exact False.elim hq
  | ok fl =>
    cases fl with
    | ret w =>
      obtain ⟨z, H', I', rz, q⟩ := I.after hq
      exact ⟨z, H', I', rz, q⟩
    | next => exact False.elim hq
    | brk => exact False.elim hq
    | cont => exact False.elim hq
/-- len(o) from within an operation -/
theorem len_in {A : Around} {pins : List (Addr × Obj)} {σ : L2.St} {H : Hp} {s : Shared} {a dx : Addr} {fs : List (Str × V)} {Q : VK} {Es : Value → Shared → Prop} (F : FnOk X.prog X.w X.K X.mg X.base CX0 k f fd ps sp) (sb : Sub X (k + 1) A) (hb : Binds X.K fd ps []) (M : Meth X.K C "__len__" f)
    (I : Inv X pins σ H s) (ha : H a = some (.ins C dx fs)) (q : sp [.ref a] H (fun v H' => ∃ n : Nat, v = .int (n : Int) ∧ n < 2 ^ 62 ∧ Q (.int (n : Int)) H') E) : wpAny (model X.prog X.w) A (call (.builtin "len") [.ref a]) (EP X pins σ Q) Es s := by
  obtain ⟨ox, od, J⟩ := inst_at I ha
  have K0 := I.kIn
  refine Calls.call_function_entry kind_len plain_len entry_len (args_len1 _) ?_
  unfold Builtin.«len»
  refine wpAny_bind (m := oneArg "len" _) (wpAny_pure ?_)
  have run := run_in0 (Es := Es) F (A := A.in1) ⟨sb.room.in1, sb.fr⟩ hb I (vs := [.ref a]) (us := [.ref a]) (.cons rfl .nil) q
  refine wpAny_bind (m := callSpecial? (.ref a) (Str.ofString "__len__")) (PySem.W.special_fn K0 J M.at_ (beq_iff_eq.mp M.fn) (wpAny_mono run (fun rv s' hq => ?_) fun _ _ e => e))
  obtain ⟨w, H', I', rw', n, rfl, hn, q'⟩ := hq
  obtain ⟨t, rfl⟩ := rw'
  show wpAny _ _ _ _ _ s'
  refine wpAny_bind (wpAny_holding (wpAny_pure (wpAny_bind (wpAny_letGo ?_))))
  show wpAny _ _ (if (n : Int) < 0 then _ else _) _ _ _
  rw [if_neg (by omega)]
  show wpAny _ _ (if (n : Int) ≥ 2 ^ 63 then _ else _) _ _ _
  rw [if_neg (by omega)]
  exact wpAny_bind (wpAny_mkInt (wpAny_pure ⟨_, rfl, .int n, H', I'.tok _, ⟨_, rfl⟩, q'⟩))
theorem sqT_put {K : PySem.W.Frag} {H : Hp} {q p : Addr} {ys xs : List V} {o : HO} (hq : H q = some (.lst ys)) (hp : SqT K H p xs) : SqT K (upd H q o) p xs := by
  rcases hp with (h | ⟨u, h⟩) | h
  · exact .inl (.inl (by rw [upd_ne (ne_of h hq (by intro z; cases z))]; exact h))
  · exact .inl (.inr ⟨u, by rw [upd_ne (ne_of h hq (by intro z; cases z))]; exact h⟩)
  · exact .inr h
/-- the walk that fills a list from a tuple's iterator -/
theorem loopT {A1 : Around} {it p q : Addr} {pins : List (Addr × Obj)} {σ : L2.St} {Rs : Result → Shared → Prop} (hh : A1.in1.handled = none) (hc : X.calm = true) (nq : it ≠ q) :
    ∀ (rest acc : List V) (H : Hp) (s : Shared), Inv X pins σ H s → H q = some (.lst acc) → SqT X.K H p (acc ++ rest) → acc.length + rest.length ≤ 1000 → s.heap.IsTupleIter it p acc.length → (∀ H', H' it = none → FpOk X pins H' it) → H it = none →
      (∀ s', Inv X pins σ (upd H q (.lst (acc ++ rest))) s' → Rs (.ok (.ret .none)) s') → codeAny (model X.prog X.w) A1 (.builtin "list.extend.loop" ⟨[.ref q, .ref it, .none], []⟩) Rs s := by
  intro rest
  induction rest with
  | nil =>
    intro acc H s I hq hp hl st fp hn done
    refine codeAny_builtin PySem.F.entry_extend_loop ?_
    rw [Around.under_plainId PySem.F.plain_extend_loop _]
    show wpAny _ A1.in1 (pyNext (.ref it) >>= _) _ _ s
    obtain ⟨its, rv, pl, hz⟩ := I.tuple hp
    obtain ⟨f0, f1, f2, f3, f4, f5⟩ := fp H hn
    have e1 := rv.length
    rw [List.append_nil] at e1
    refine wpAny_bind (wpAny_pyNext_tuple_end hh st (show s.heap.IsTuple p its.toArray from pl) (by simp; omega) fun h' eb => ?_)
    have I1 : Inv X pins σ H { s with heap := h' } := I.turned (t' := s.toks) (fun b o hb e => eb b o hb e) f0 f1 f3 f4 f5
    refine wpAny_pure (done _ ?_)
    have eH : upd H q (.lst (acc ++ [])) = H := by
      funext b
      by_cases hb : b = q
      · rw [hb, upd_same, hq, List.append_nil]
      · rw [upd_ne hb]
    rw [eH]
    exact I1
  | cons y rest ih =>
    intro acc H s I hq hp hl st fp hn done
    refine codeAny_builtin PySem.F.entry_extend_loop ?_
    rw [Around.under_plainId PySem.F.plain_extend_loop _]
    show wpAny _ A1.in1 (pyNext (.ref it) >>= _) _ _ s
    obtain ⟨its, rv, pl, hz⟩ := I.tuple hp
    obtain ⟨f0, f1, f2, f3, f4, f5⟩ := fp H hn
    obtain ⟨u, hu, ru⟩ := rv.get (show (acc ++ y :: rest)[acc.length]? = some y by simp)
    rw [List.length_cons] at hl
    refine wpAny_bind (wpAny_pyNext_tuple_item st (show s.heap.IsTuple p its.toArray from pl) (x := u) (by simpa using hu) fun h' st' sb => ?_)
    have I1 : Inv X pins σ H { s with heap := h' } := I.turned (t' := s.toks) (fun b o hb e => (sb.2 b hb).trans e) f0 f1 f3 f4 f5
    show wpAny _ A1.in1 (updateSeq q (·.push u) >>= _) _ _ _
    obtain ⟨z, jts, k', r2, hl2, e⟩ := I1.lstM hq
    have hj := r2.length
    refine wpAny_bind (wpAny_updateSeq e rfl (wpAny_pure ⟨plainId_quiet PySem.F.plain_extend_loop _, ?_⟩) (by rw [List.size_toArray]; exact Nat.le_trans (show jts.length ≤ 1000 by omega) (by decide)) (by show (jts.toArray.push u).size ≤ sizeLine + 1; rw [Array.size_push, List.size_toArray]; exact Nat.add_le_add_right (Nat.le_trans (show jts.length ≤ 1000 by omega) (by decide)) 1))
    have I2 := I1.lset (its' := jts ++ [u]) (f := (·.push u)) (ys := acc ++ [y]) (t' := s.toks) hq e (by simp) (r2.append (.cons ru .nil)) (by rw [List.length_append, List.length_singleton]; exact Nat.le_trans (show acc.length + 1 ≤ 1000 by omega) (by decide))
    refine ih (acc ++ [y]) (upd H q (.lst (acc ++ [y]))) _ I2 upd_same ?_ (by rw [List.length_append, List.length_singleton]; omega) ?_ fp (by rw [upd_ne nq]; exact hn) ?_
    · have hp' : SqT X.K (upd H q (.lst (acc ++ [y]))) p (acc ++ y :: rest) := sqT_put hq hp
      rw [List.append_assoc]
      exact hp'
    · rw [List.length_append, List.length_singleton]
      refine st'.at fun o ho => ?_
      exact (Heap.get?_update_ne _ _ _ _ nq).trans ho
    · intro s' I'
      rw [upd_upd, List.append_assoc] at I'
      exact done s' I'
/-- list(o): o such an instance, with a __len__ of its own -/
def rListO (C : Addr) (K : PySem.W.Frag) (g : Str) (spl : Sp) : List V → Hp → VK → Prop := fun xs H Q => ∃ o dx fs p ys, xs = [.ref o] ∧ H o = some (.ins C dx fs) ∧ fs.lookup g = some (.ref p) ∧ SqT K H p ys ∧ ys.length ≤ 1000 ∧
  (∀ (H' : Hp) (Q' : VK), (∀ b w, H b = some w → H' b = some w) → (∀ n : Nat, n ≤ 1000 → Q' (.int (n : Int)) H') → spl [.ref o] H' Q' fun _ _ _ => False) ∧ ∀ l, H l = none → Q (.ref l) (upd H l (.lst ys))
theorem call_listO {kl : Nat} {fl : Addr} {fdl : FuncData} {psl : List Str} {spl : Sp} {g : Str} (FI : FnS X.prog X.w X.K X.mg X.base CX0 k f fd ps (spIt C X.K g)) (bI : Binds X.K fd ps []) (MI : Meth X.K C "__iter__" f)
    (FL : FnOk X.prog X.w X.K X.mg X.base CX0 kl fl fdl psl spl) (bL : Binds X.K fdl psl []) (ML : Meth X.K C "__len__" fl) (hc : X.calm = true) (hr : Room (k + 2) X.A) (hrl : Room (kl + 3) X.A) : CallR X (.type "list") (rListO C X.K g spl) := by
  intro pins s σ H xs us Q I rv h
  obtain ⟨a, dx, fs, p, ys, rfl, ha, hg, hp, hyl, hlen, hq⟩ := h
  obtain ⟨u, rfl, ru⟩ := rv.one
  cases ru
  have sb : Sub X k X.A.in1.in1 := (Sub.in1 (Sub.in1 (⟨hr, rfl⟩ : Sub X (k + 2) X.A)))
  have sbl : Sub X (kl + 1) X.A.in1.in1 := (Sub.in1 (Sub.in1 (⟨hrl, rfl⟩ : Sub X (kl + 1 + 2) X.A)))
  refine callType_codes (Q₁ := fun obj s₁ => obj = .ref s.heap.objs.size ∧ s₁ = { s with heap := s.heap.push { cls := .type "list", data := .seq #[] } }) PySem.F.called_list (PySem.F.typeCall_list_1 _) PySem.F.entry_list_init (code_list_new _ ⟨rfl, rfl⟩) fun obj s₁ h₁ => ?_
  obtain ⟨rfl, rfl⟩ := h₁
  have hS : (s.heap.push { cls := .type "list", data := .seq #[] }).get? s.heap.objs.size = some { cls := .type "list", data := .seq #[] } := Heap.get?_push_size _ rfl
  refine ⟨⟨_, hS, rfl⟩, PySem.F.args_list_init_2 _ _, ?_⟩
  have fr : H s.heap.objs.size = none := I.hok.fresh (Nat.le_refl _)
  have I1 : Inv X pins σ (upd H s.heap.objs.size (.lst [])) { s with heap := s.heap.push { cls := .type "list", data := .seq #[] } } := I.lnew (its := []) (t' := s.toks) .nil (Nat.zero_le _)
  generalize hq0 : s.heap.objs.size = q at *
  show wpAny _ _ (do let old ← Builtin.List.listItems (.ref q); Builtin.List.listUpdate (.ref q) (fun _ => #[]); letGo old.toList.reverse; Builtin.List.listExtendWith (.ref q) (.ref a) .none) _ _ _
  refine wpAny_bind ?_
  unfold Builtin.List.listItems
  refine wpAny_bind (wpAny_seqItems hS rfl (wpAny_pure ?_))
  show wpAny _ _ (updateSeq q (fun _ => #[]) >>= fun _ => letGo (#[] : Array Value).toList.reverse >>= fun _ => Builtin.List.listExtendWith (.ref q) (.ref a) .none) _ _ _
  refine wpAny_bind (wpAny_updateSeq hS rfl ?_)
  have I2 := I1.lset (f := fun _ => #[]) (its := []) (its' := []) (ys := []) (t' := s.toks) upd_same hS rfl .nil (Nat.zero_le _)
  rw [upd_upd] at I2
  refine wpAny_bind (wpAny_letGo ?_)
  have ha2 : upd H q (.lst []) a = some (.ins C dx fs) := by rw [upd_ne (ne_of_none ha fr)]; exact ha
  have hp2 : SqT X.K (upd H q (.lst [])) p ys := by
    have e : Ext H (upd H q (.lst [])) := Ext.upd fr
    exact hp.ext e
  generalize hs2 : ({ s with heap := (s.heap.push { cls := .type "list", data := .seq #[] }).update q (Obj.mapSeq fun _ => #[]) } : Shared) = s2 at *
  generalize hH2 : upd H q (.lst []) = H2 at *
  have hq2 : H2 q = some (.lst []) := by rw [← hH2]; exact upd_same
  have nqa : q ≠ a := ne_of hq2 ha2 (fun z => nomatch z)
  obtain ⟨ox, od, J⟩ := inst_at I2 ha2
  obtain ⟨m0, hF⟩ := I2.fr
  unfold Builtin.List.listExtendWith
  refine wpAny_bind (J.type.here ?_)
  have h1 : Builtin.List.listSameRef (.ref q) (.ref a) = false := by simp [Builtin.List.listSameRef, nqa]
  have h2 : (Value.ref C == Value.type "list") = false := rfl
  have h3 : (Value.ref C == Value.type "tuple") = false := rfl
  simp only [h1, h2, h3, Bool.or_false, Bool.false_eq_true, if_false]
  have run := run_inS (Q := fun v H' => ∃ it, v = .ref it ∧ H2 it = none ∧ s2.heap.objs.size ≤ it ∧ H' = upd H2 it (TItO p it)) FI (A := X.A.in1.in1) sb bI (pass0 : Passes CX0 X E0) I2 (vs := [.ref a]) (us := [.ref a]) (.cons rfl .nil)
    ⟨a, dx, fs, p, ys, rfl, ha2, hg, hp2, fun it hn hs => ⟨it, rfl, hn, hs, rfl⟩⟩
  refine wpAny_bind (PySem.W.owit_iter hF I2.ok.mod.kin J MI.at_ MI.fn (wpAny_mono run (fun u s3 hq' => ?_) fun _ _ e => e))
  obtain ⟨v, H', I3, rv', it, rfl, hn, hs, rfl⟩ := hq'
  cases rv'
  have eo : s3.heap.get? it = some (titObj p) := (I3.hok it _ upd_same).1
  have hT : s3.TypeIs (.ref it) "tuple_iterator" := ⟨_, eo, rfl⟩
  unfold PySem.W.OwitIt
  refine wpAny_specialOf (name := Str.ofString "__next__") hT PySem.F.slot_tuple_iterator_next.lookup ?_
  have I4 : Inv X pins σ H2 s3 := by
    have := ItX.inv_drop (φ := fun h => h.get? it = some (titObj p)) I3 (show upd H2 it (TItO p it) it = some (TItO p it) from upd_same)
    rw [ItX.dropH_upd hn] at this
    exact this
  have fp0 : FpOk X pins H2 it := by
    have := ItX.inv_fp I3 (show upd H2 it (TItO p it) it = some (TItO p it) from upd_same) (Nat.le_trans I2.sz hs)
    rw [ItX.dropH_upd hn] at this
    exact this
  have nit : it ≠ q := fun e => by rw [e, hq2] at hn; cases hn
  -- the hint, by len(o); with the iterator tracked, so that it stays
  obtain ⟨ox', od', J'⟩ := inst_at I3 (show upd H2 it (TItO p it) a = some (.ins C dx fs) by rw [upd_ne (ne_of_none ha2 hn)]; exact ha2)
  refine wpAny_bind (wpAny_holding ?_)
  unfold Builtin.List.listLengthHint
  refine wpAny_bind (wpAny_bind (J'.type.here ((PySem.W.looks_findIn I3.kIn ML.at_).here ?_)))
  refine PySem.W.KFB.if_not rfl ?_
  refine wpAny_ite_split (fun _ => ?_) (fun hne => absurd rfl hne)
  refine wpAny_bind (wpAny_rule ?_)
  have lrun := len_in (Es := fun e s' => False) (Q := fun v H3 => ∃ n : Nat, v = .int (n : Int) ∧ n ≤ 1000 ∧ H3 = upd H2 it (TItO p it)) FL (A := X.A.in1.in1) sbl bL ML I3 (show upd H2 it (TItO p it) a = some (.ins C dx fs) by rw [upd_ne (ne_of_none ha2 hn)]; exact ha2) (E := fun _ _ _ => False)
    (hlen _ _ (fun b w hb => by
      have nb : b ≠ q := ne_of_none hb fr
      have e2 : H2 b = some w := by rw [← hH2, upd_ne nb]; exact hb
      rw [upd_ne (ne_of_none e2 hn)]
      exact e2) fun n hn5 => ⟨n, rfl, Nat.lt_of_le_of_lt hn5 (by decide), n, rfl, hn5, rfl⟩)
  refine wpAny_bind (wpAny_attempt (wpAny_mono lrun (fun lv s4 hl => ?_) fun _ _ e => e.elim))
  obtain ⟨lv', H5, I5, rl, n, rfl, hn5, rfl⟩ := hl
  obtain ⟨t, rfl⟩ := rl
  have eo4 : s4.heap.get? it = some (titObj p) := (I5.hok it _ upd_same).1
  have I6 : Inv X pins σ H2 s4 := by
    have := ItX.inv_drop (φ := fun h => h.get? it = some (titObj p)) I5 (show upd H2 it (TItO p it) it = some (TItO p it) from upd_same)
    rw [ItX.dropH_upd hn] at this
    exact this
  have fin : ∀ s5 : Shared, Inv X pins σ H2 s5 → s5.heap.get? it = some (titObj p) → codeAny (model X.prog X.w) X.A.in1 (.builtin "list.extend.loop" ⟨[.ref q, .ref it, .none], []⟩) (wants (fun r s₂ => r = .none ∧ EP X pins σ Q (.ref q) s₂) X.xe) s5 := fun s5 J5 e5 =>
    loopT (A1 := X.A.in1) (p := p) (pins := pins) (σ := σ) (I.ok.hd hc) hc nit ys [] H2 s5 J5 hq2 hp2 (by simpa using hyl) ⟨_, e5, rfl, rfl⟩ (fun H' hn' => ⟨hn', fp0.2⟩) hn fun s' J' => by
      refine ⟨rfl, .ref q, _, J', rfl, ?_⟩
      rw [← hH2, upd_upd]
      exact hq q fr
  show wpAny _ _ (asInt? (.int n t) >>= _) _ _ s4
  refine wpAny_bind (wpAny_pure ?_)
  show wpAny _ _ (if Builtin.List.listTooLong (n : Int).toNat = true then _ else _) _ _ s4
  rw [if_neg (by
    show ¬ (decide ((n : Int).toNat > sizeLine)) = true
    have : n ≤ sizeLine := Nat.le_trans hn5 (by decide)
    simp
    omega)]
  refine wpAny_pure ?_
  refine wpAny_ite_split (fun _ => ?_) (fun _ => wpAny_pure ⟨plainId_quiet PySem.F.plain_extend_loop _, fin s4 I6 eo4⟩)
  refine wpAny_bind (wpAny_rule ?_)
  refine wpAny_bind ?_
  show wpAny _ _ (updateSeq q (·.push .none) >>= fun _ => updateSeq q (·.pop)) _ _ _
  obtain ⟨z, its3, k3, r3, hl3, e3⟩ := I6.lstM hq2
  cases r3
  refine wpAny_bind (wpAny_updateSeq e3 rfl ?_)
  have I7 := I6.lset (f := (·.push Value.none)) (its' := [Value.none]) (ys := [.non]) (t' := s4.toks) hq2 e3 (by simp) (.cons rfl .nil) (by rw [List.length_singleton, sizeLine_eq]; decide)
  obtain ⟨z4, its4, k4, r4, hl4, e4⟩ := I7.lstM upd_same
  obtain ⟨u4, rfl, ru4⟩ := r4.one
  refine wpAny_updateSeq e4 rfl ?_ (by show 1 ≤ sizeLine; rw [sizeLine_eq]; decide) (by show 0 ≤ sizeLine + 1; exact Nat.zero_le _)
  have I8 := I7.lset (f := (·.pop)) (its := [u4]) (its' := []) (ys := []) (t' := s4.toks) upd_same e4 (by rfl) .nil (Nat.zero_le _)
  rw [upd_upd] at I8
  have eH : upd H2 q (.lst []) = H2 := by
    funext b
    by_cases hb : b = q
    · rw [hb, upd_same, hq2]
    · rw [upd_ne hb]
  rw [eH] at I8
  refine wpAny_pure ⟨plainId_quiet PySem.F.plain_extend_loop _, fin _ I8 ?_⟩
  show ((s4.heap.update q (Obj.mapSeq (·.push Value.none))).update q (Obj.mapSeq (·.pop))).get? it = _
  rw [Heap.get?_update_ne _ _ _ _ nit, Heap.get?_update_ne _ _ _ _ nit]
  exact eo4
end
end OW

set_option maxHeartbeats 3900000
namespace R
open PySem PySem.Spec PyProof.Rows L2 TL
open C8 (pss_cut tCut pe_gc)
open CB OW
abbrev sBIni : Stmt := inClass (top 3) 0
abbrev sRIni : Stmt := inClass (top 6) 0
abbrev sSorts : Stmt := inClass (top 6) 1
abbrev sKeeps : Stmt := inClass (top 6) 4
abbrev sOr : Stmt := inClass (top 6) 5
abbrev sAnd : Stmt := inClass (top 6) 6
abbrev sInv : Stmt := inClass (top 6) 7
abbrev sIter : Stmt := inClass (top 6) 8
abbrev sLen : Stmt := inClass (top 6) 9
abbrev sCon : Stmt := inClass (top 6) 10
abbrev sEq : Stmt := inClass (top 6) 11
abbrev sCheck : Stmt := top 7
def srt : List Str := ["contents", "lacking", "names", "nofolder", "setting", "tool"]
def GoodS (ws : List Str) : Prop := (∀ w ∈ ws, w ∈ srt) ∧ ws.Nodup
theorem pigeon {α : Type} [DecidableEq α] : ∀ (l m : List α), l.Nodup → (∀ x ∈ l, x ∈ m) → l.length ≤ m.length
  | [], _, _, _ => Nat.zero_le _
  | x :: r, m, nd, h => by
    obtain ⟨n1, n2⟩ := List.nodup_cons.mp nd
    have hx := h x (List.mem_cons_self ..)
    have := pigeon r (m.erase x) n2 fun y hy => (List.mem_erase_of_ne (fun e : y = x => n1 (by rw [← e]; exact hy))).mpr (h y (List.mem_cons_of_mem _ hy))
    rw [List.length_erase_of_mem hx] at this
    have pos := List.length_pos_of_mem hx
    rw [List.length_cons]
    omega
theorem GoodS.len {ws : List Str} (h : GoodS ws) : ws.length ≤ 6 := pigeon ws srt h.2 h.1
theorem inV_strs (z : Str) : ∀ zs : List Str, inV (.str z) (zs.map V.str) = decide (z ∈ zs)
  | [] => rfl
  | y :: r => by
    have ih := inV_strs z r
    show (eqV (.str y) (.str z) || inV (.str z) (r.map V.str)) = decide (z ∈ y :: r)
    rw [ih]
    show ((y == z) || decide (z ∈ r)) = decide (z ∈ y :: r)
    by_cases e : y = z
    · subst e
      simp
    · have e2 : z ≠ y := fun q => e q.symm
      simp [e, e2]
theorem flat_strs : ∀ zs : List Str, (zs.map V.str).all flatV = true
  | [] => rfl
  | _ :: r => flat_strs r
/-- what a rule keeps, of some sorts -/
def canon (ws : List Str) : List Str := srt.filter fun w => decide (w ∈ ws)
def methL : List Str := ["sorts", "keeps", "__or__", "__and__", "__invert__", "__iter__", "__len__", "__contains__", "__eq__"]
/-- the class, as the top left it -/
structure RCl (K : PySem.W.Frag) (mg : Str → Option Value) (C : Addr) (ma : Str → Addr) : Prop where
  mg : mg "Rule" = some (.ref C)
  cl : Cls K C
  no : NoAttr K C "kept"
  mak : Mk K C (ma "__init__")
  me : ∀ m ∈ methL, Meth K C m (ma m)
  ha : PySem.W.findIn K (.ref C) "__class__" = some (some (.builtin "object.__class__"))
  hn : PySem.W.specialIn K (.builtin "object.__class__") "__get__" = some (some (.builtin "getset_descriptor.__get__"))
  ht : PySem.W.takesIn K (.builtin "object.__class__") = some true
  hm : PySem.W.mroIn K C (.type "object") = some true
  ne : PySem.W.findIn K (.ref C) "__ne__" = some (some (.builtin "object.__ne__"))
  so : PySem.W.subIn K (.ref C) (.type "object") = some true
  sf : PySem.W.selfFirst K C = true
  kC : PySem.W.kitOne K (.ref C) (.ref C) = some true
  kT : ∀ t ∈ (["NoneType", "int", "bool", "str", "list", "tuple"] : List String), PySem.W.kitOne K (.type t) (.ref C) = some false ∧ PySem.W.notFirst K C (.type t) = true
  nC : PySem.W.notFirst K C (.ref C) = true
/-- a rule stands at o, it keeps ks -/
def RuleAt (C : Addr) (H : Hp) (o : Addr) (ks : List Str) : Prop := ∃ dx p, H o = some (.ins C dx [(("kept" : Str), .ref p)]) ∧ H p = some (.tup (ks.map V.str))
theorem RuleAt.up {C : Addr} {H H' : Hp} {o : Addr} {ks : List Str} (h : RuleAt C H o ks) (s : Same H H') : RuleAt C H' o ks := by
  obtain ⟨dx, p, h1, h2⟩ := h
  exact ⟨dx, p, s _ _ h1, s _ _ h2⟩
theorem RuleAt.but {C st l : Addr} {H H' : Hp} {o : Addr} {c : Nat} {ks : List Str} (h : RuleAt C H o ks) (S : Strm H st l c) (B : But st l H H') : RuleAt C H' o ks := by
  obtain ⟨dx, p, h1, h2⟩ := h
  obtain ⟨ns, a, m, ⟨g1, g2⟩, _⟩ := S.ex
  exact ⟨dx, p, B _ _ h1 (ne_of h1 g1 (by intro z; cases z)) (ne_of h1 g2 (by intro z; cases z)), B _ _ h2 (ne_of h2 g1 (by intro z; cases z)) (ne_of h2 g2 (by intro z; cases z))⟩
def spCheck : Sp := fun vs H Q _ => ∃ v ws, vs = [v] ∧ RowAt H v (ws.map V.str) ∧ GoodS ws ∧ ∀ H', Same H H' → Q .non H'
def spIni (C : Addr) : Sp := fun vs H Q _ => ∃ o dx v ws, vs = [.ref o, v] ∧ H o = some (.ins C dx []) ∧ RowAt H v (ws.map V.str) ∧ GoodS ws ∧ ∀ H', (∀ b u, H b = some u → b ≠ o → H' b = some u) → RuleAt C H' o (canon ws) → Q .non H'
def spSorts (C : Addr) : Sp := fun vs H Q _ => ∃ o ks, vs = [.ref o] ∧ RuleAt C H o ks ∧ ∀ l, H l = none → Q (.ref l) (upd H l (.lst (ks.map V.str)))
def spKeeps (C : Addr) : Sp := fun vs H Q _ => ∃ o o2 ks ks2, vs = [.ref o, .ref o2] ∧ RuleAt C H o ks ∧ RuleAt C H o2 ks2 ∧ ks2.length ≤ 1000 ∧ ∀ H', Same H H' → Q (.bl (ks2.all fun w => decide (w ∈ ks))) H'
def spBin (C : Addr) (g : List Str → List Str → Str → Bool) : Sp := fun vs H Q _ => ∃ o o2 ks ks2, vs = [.ref o, .ref o2] ∧ RuleAt C H o ks ∧ RuleAt C H o2 ks2 ∧ ∀ p H', Same H H' → H p = none → RuleAt C H' p (srt.filter (g ks ks2)) → Q (.ref p) H'
def spInvt (C : Addr) : Sp := fun vs H Q _ => ∃ o ks, vs = [.ref o] ∧ RuleAt C H o ks ∧ ∀ p H', Same H H' → H p = none → RuleAt C H' p (srt.filter fun w => !decide (w ∈ ks)) → Q (.ref p) H'
def spLen (C : Addr) : Sp := fun vs H Q _ => ∃ o ks, vs = [.ref o] ∧ RuleAt C H o ks ∧ Q (.int (ks.length : Int)) H
/-- things that are no texts -/
inductive Odd (H : Hp) : V → Prop
  | non : Odd H .non
  | int (i : Int) : Odd H (.int i)
  | bl (b : Bool) : Odd H (.bl b)
  | lst {a : Addr} {xs : List V} (h : H a = some (.lst xs)) : Odd H (.ref a)
  | tup {a : Addr} {xs : List V} (h : H a = some (.tup xs)) : Odd H (.ref a)
  | dct {a : Addr} {kvs : List (L2.Key × V)} (h : H a = some (.dK kvs)) : Odd H (.ref a)
theorem Odd.ty {K : PySem.W.Frag} {H : Hp} {v : V} (h : Odd H v) : ∃ t : String, TyX K H v (.type t) ∧ PySem.W.kitOne K (.type t) (.type "str") = some false := by
  cases h with
  | non => exact ⟨"NoneType", .base .non, kit_ty (by decide +kernel)⟩
  | int i => exact ⟨"int", .base (.int i), kit_ty (by decide +kernel)⟩
  | bl b => exact ⟨"bool", .base (.bl b), kit_ty (by decide +kernel)⟩
  | lst h => exact ⟨"list", .base (.lst h), kit_ty (by decide +kernel)⟩
  | tup h => exact ⟨"tuple", .base (.tup h), kit_ty (by decide +kernel)⟩
  | dct h => exact ⟨"dict", .base (.dK h), kit_ty (by decide +kernel)⟩
def spCon (C : Addr) : Sp := fun vs H Q _ => ∃ o x ks, vs = [.ref o, x] ∧ RuleAt C H o ks ∧ ((∃ z, x = .str z ∧ Q (.bl (decide (z ∈ ks))) H) ∨ (Odd H x ∧ Q (.bl false) H))
def spEq (K : PySem.W.Frag) (C : Addr) : Sp := fun vs H Q _ => ∃ o y ks, vs = [.ref o, y] ∧ RuleAt C H o ks ∧ ks.length ≤ 10 ∧ (∀ z ∈ ks, z ∈ srt) ∧ ((∃ o2 ks2, y = .ref o2 ∧ RuleAt C H o2 ks2 ∧ ks2.length ≤ 10 ∧ (∀ z ∈ ks2, z ∈ srt) ∧ Q (.bl (decide (ks = ks2))) H) ∨ (∃ t, TyX K H y t ∧ PySem.W.kitOne K t (.ref C) = some false ∧ Q (.bl false) H))
theorem pe_fldK {X : Cx} (K0 : PySem.W.Frag) (hK : X.K = K0) {e : Expr} {f : Str} {te : TE} {pos : Pos} (he : PE X e te) (hb : attributeBase e f X.env (eval e X.env) = eval e X.env) : PE X (.Attribute e f pos) (tFld K0 te f) := by
  subst hK
  exact pe_fld he hb
theorem lk_kept (v : V) : List.lookup ("kept" : Str) [(("kept" : Str), v)] = some v := by simp [List.lookup]
section
variable {P : Program} {w : World} {K : PySem.W.Frag} {mg : Str → Option Value} {base : Heap} {C aS fCh fI : Addr} {fdCh fdI : FuncData} {ma : Str → Addr}
theorem scCheck : FnScope ["sorts", "earlier", "thing"] ["sorts"] (defScope sCheck) := ⟨rfl, rfl, rfl, by decide +kernel, rfl, by decide +kernel, by decide +kernel⟩
theorem ok_check {f : Addr} {fd : FuncData} (F : Fun K "check_sorts" "check_sorts" sCheck f fd) (T : TB mg) (mS : mg "SORTS" = some (.ref aS)) (hS : ∀ H, SqT K H aS (srt.map V.str)) : FnOk P w K mg base CX0 1 f fd ["sorts"] spCheck := by
  refine F.ok scCheck (fun vs H Q E h => ?_) (fun cdv A outer s H vs Q E hr h => ?_)
  · obtain ⟨v, ws, rfl, _⟩ := h
    rfl
  · obtain ⟨v, ws, rfl, hv, hg, k⟩ := h
    refine ⟨_, pss_cons (ps_set (i := 1) scCheck.nd rfl (Or.inl rfl) (pe_lst pa_nil))
            (pss_one (ps_for PassesOwn.never rfl (pi_seqv (pv 0)) (pg_name (i := 2) scCheck.nd rfl (Or.inl rfl)) (pss_cons (ps_if (PW.pt (pw_or (pt_not (pt_val (pe_callB call_isi (by rfl) T.isinstance (by decide +kernel) (pa_cons (pv 2) (pa_cons (pe_bltn (v := .ty "str") (by rfl) T.str (by decide +kernel) rfl) pa_nil))))) (pw_or (pt_cmpR op_notIn_seq (pv 2) (pe_glob (v := .ref aS) rfl mS rfl) (by rfl)) (pw_or1 (pt_cmpR op_in_seq (pv 2) (pv 1) (by rfl)))))) (pss_one (ps_never)) (pss_nil))
            (pss_one (ps_expr (pe_bm PySem.F.plainAttrs_list PySem.F.slot_list_append PySem.F.type_list_append mt_append (pv 1) (pa_cons (pv 2) pa_nil))))))), ?_⟩
    refine ⟨Nat.zero_le _, fun p hp => ?_⟩
    have sp := same_mk (o := .lst []) hp
    obtain ⟨a, rfl, h1 | h1⟩ := hv
    · refine ⟨a, rfl, .inl ⟨_, SqT.of (sp _ _ h1), for_it (walk_tup (K := K) (a := a) (xs := ws.map V.str)) (fun i σ H' => ∃ x2, σ = [some (.ref a), some (.ref p), x2] ∧ Same H H' ∧ H' p = some (.lst ((ws.take i).map V.str)))
        ⟨none, rfl, sp, upd_same⟩ (fun i σ H' _ q => by obtain ⟨_, _, m, _⟩ := q; exact SqT.of (m _ _ h1)) ?_ ?_⟩⟩
      · rintro i x _ _ H1 hi ⟨x2, rfl, s1, hq⟩ ⟨rfl, hx⟩
        have hi' : i < ws.length := by simpa using hi
        have hx' := hx
        rw [List.getElem?_map, List.getElem?_eq_getElem hi'] at hx'
        cases hx'
        have hm : ws[i] ∈ srt := hg.1 _ (List.getElem_mem hi')
        have hnot : ws[i] ∉ ws.take i := fun hmem => by
          obtain ⟨j, hj, ej⟩ := List.getElem_of_mem hmem
          rw [List.getElem_take] at ej
          have hj' : j < i := by
            rw [List.length_take] at hj
            omega
          exact absurd ((List.getElem_inj hg.2).mp ej) (by omega)
        refine ⟨_, rfl, _, _, .type "str", .type "str", true, rfl, .ty "str", .base (.str _), kit_ty (by decide +kernel), _, rfl, iteF ⟨_, rfl, aS, _, rfl, .inr (hS _), rfl, rfl, ?_⟩⟩
        rw [show (if true = true then !inV (.str ws[i]) (srt.map V.str) else inV (.str ws[i]) (srt.map V.str)) = false by rw [if_pos rfl, inV_strs, decide_eq_true hm]; rfl]
        refine ⟨_, rfl, iteF ⟨_, rfl, _, rfl, p, _, rfl, .inl (SqL.of hq), rfl, flat_strs _, ?_⟩⟩
        rw [show (if false = true then !inV (.str ws[i]) ((ws.take i).map V.str) else inV (.str ws[i]) ((ws.take i).map V.str)) = false by rw [if_neg (by decide), inV_strs, decide_eq_false hnot]]
        refine ⟨_, rfl, iteF ⟨_, rfl, .inl ⟨rfl, _, SqL.of hq⟩, _, rfl, p, _, _, rfl, rfl, hq, ?_, ⟨_, rfl, same_ch s1 hp, ?_⟩⟩⟩
        · rw [List.length_map, List.length_take]
          exact Nat.lt_of_le_of_lt (Nat.min_le_right _ _) (Nat.lt_of_lt_of_le (show ws.length < 7 by have := hg.len; omega) (by decide))
        · rw [upd_same, List.take_succ, List.getElem?_eq_getElem hi', List.map_append]
          rfl
      · rintro _ H1 ⟨x2, rfl, s1, _⟩
        exact k H1 s1
    · refine ⟨a, rfl, .inr ⟨_, SqL.of (sp _ _ h1), for_it (walk_list (K := K) (a := a) (xs := ws.map V.str)) (fun i σ H' => ∃ x2, σ = [some (.ref a), some (.ref p), x2] ∧ Same H H' ∧ H' p = some (.lst ((ws.take i).map V.str)))
        ⟨none, rfl, sp, upd_same⟩ (fun i σ H' _ q => by obtain ⟨_, _, m, _⟩ := q; exact SqL.of (m _ _ h1)) ?_ ?_⟩⟩
      · rintro i x _ _ H1 hi ⟨x2, rfl, s1, hq⟩ ⟨rfl, hx⟩
        have hi' : i < ws.length := by simpa using hi
        have hx' := hx
        rw [List.getElem?_map, List.getElem?_eq_getElem hi'] at hx'
        cases hx'
        have hm : ws[i] ∈ srt := hg.1 _ (List.getElem_mem hi')
        have hnot : ws[i] ∉ ws.take i := fun hmem => by
          obtain ⟨j, hj, ej⟩ := List.getElem_of_mem hmem
          rw [List.getElem_take] at ej
          have hj' : j < i := by
            rw [List.length_take] at hj
            omega
          exact absurd ((List.getElem_inj hg.2).mp ej) (by omega)
        refine ⟨_, rfl, _, _, .type "str", .type "str", true, rfl, .ty "str", .base (.str _), kit_ty (by decide +kernel), _, rfl, iteF ⟨_, rfl, aS, _, rfl, .inr (hS _), rfl, rfl, ?_⟩⟩
        rw [show (if true = true then !inV (.str ws[i]) (srt.map V.str) else inV (.str ws[i]) (srt.map V.str)) = false by rw [if_pos rfl, inV_strs, decide_eq_true hm]; rfl]
        refine ⟨_, rfl, iteF ⟨_, rfl, _, rfl, p, _, rfl, .inl (SqL.of hq), rfl, flat_strs _, ?_⟩⟩
        rw [show (if false = true then !inV (.str ws[i]) ((ws.take i).map V.str) else inV (.str ws[i]) ((ws.take i).map V.str)) = false by rw [if_neg (by decide), inV_strs, decide_eq_false hnot]]
        refine ⟨_, rfl, iteF ⟨_, rfl, .inl ⟨rfl, _, SqL.of hq⟩, _, rfl, p, _, _, rfl, rfl, hq, ?_, ⟨_, rfl, same_ch s1 hp, ?_⟩⟩⟩
        · rw [List.length_map, List.length_take]
          exact Nat.lt_of_le_of_lt (Nat.min_le_right _ _) (Nat.lt_of_lt_of_le (show ws.length < 7 by have := hg.len; omega) (by decide))
        · rw [upd_same, List.take_succ, List.getElem?_eq_getElem hi', List.map_append]
          rfl
      · rintro _ H1 ⟨x2, rfl, s1, _⟩
        exact k H1 s1
theorem scSorts : FnScope ["self"] ["self"] (defScope sSorts) := ⟨rfl, rfl, rfl, by decide +kernel, rfl, by decide +kernel, by decide +kernel⟩
theorem ok_sorts {f : Addr} {fd : FuncData} (F : Fun K "sorts" "Rule.sorts" sSorts f fd) (T : TB mg) (R : RCl K mg C ma) : FnOk P w K mg base CX0 1 f fd ["self"] (spSorts C) := by
  refine F.ok scSorts (fun vs H Q E h => ?_) (fun cdv A outer s H vs Q E hr h => ?_)
  · obtain ⟨o, ks, rfl, _⟩ := h
    rfl
  · obtain ⟨o, ks, rfl, ⟨dx, p, h1, h2⟩, k⟩ := h
    refine ⟨_, pss_one (ps_ret (pe_callTy call_list_of (by rfl) T.list (by decide +kernel) (pa_cons (pe_fld (pv 0) rfl) pa_nil))), ?_⟩
    exact ⟨_, rfl, o, C, dx, _, _, rfl, h1, R.cl, R.no, lk_kept _, p, _, rfl, .inr (SqT.of h2), fun l hl => k l hl⟩
theorem scLen : FnScope ["self"] ["self"] (defScope sLen) := ⟨rfl, rfl, rfl, by decide +kernel, rfl, by decide +kernel, by decide +kernel⟩
theorem ok_len {f : Addr} {fd : FuncData} (F : Fun K "__len__" "Rule.__len__" sLen f fd) (T : TB mg) (R : RCl K mg C ma) : FnOk P w K mg base CX0 1 f fd ["self"] (spLen C) := by
  refine F.ok scLen (fun vs H Q E h => ?_) (fun cdv A outer s H vs Q E hr h => ?_)
  · obtain ⟨o, ks, rfl, _⟩ := h
    rfl
  · obtain ⟨o, ks, rfl, ⟨dx, p, h1, h2⟩, k⟩ := h
    refine ⟨_, pss_one (ps_ret (pe_callB call_len_seq (by rfl) T.len PySem.boot_len (pa_cons (pe_fld (pv 0) rfl) pa_nil))), ?_⟩
    refine ⟨_, rfl, o, C, dx, _, _, rfl, h1, R.cl, R.no, lk_kept _, p, _, rfl, .inr (SqT.of h2), ?_⟩
    rw [List.length_map]
    exact k
theorem scIter : FnScope ["self"] ["self"] (defScope sIter) := ⟨rfl, rfl, rfl, by decide +kernel, rfl, by decide +kernel, by decide +kernel⟩
theorem ok_iter {f : Addr} {fd : FuncData} (F : Fun K "__iter__" "Rule.__iter__" sIter f fd) (T : TB mg) (R : RCl K mg C ma) : FnS P w K mg base CX0 1 f fd ["self"] (spIt C K "kept") := by
  refine fnS_of F scIter (fun n vs H Q E h => ?_) (fun cdv A outer s H vs Q E hr h => ?_)
  · obtain ⟨o, dx, fs, p, xs, rfl, _⟩ := h
    rfl
  · obtain ⟨o, dx, fs, p, xs, rfl, h1, h2, h3, k⟩ := h
    refine ⟨_, pss_one (ps_ret (pe_callB call_iterT (by rfl) T.iter (by decide +kernel) (pa_cons (pe_fld (pv 0) rfl) pa_nil))), ?_⟩
    exact ⟨_, rfl, o, C, dx, _, _, rfl, h1, R.cl, R.no, h2, p, xs, rfl, h3, fun it hn hs => k it hn hs⟩
end
end R

set_option maxHeartbeats 3900000
namespace R
open PySem PySem.Spec PyProof.Rows L2 TL
open C8 (pss_cut tCut pe_gc)
open CB OW
section
variable {J : It} {n : Nat} {G : Hp → Prop} {Y : Nat → Hp → V → Hp → Prop} {tt : TT} {te : TE} {σ : L2.St} {H1 : Hp} {D : Addr} {Qd : Hp → Prop} {j : Nat}
/-- [z for z in zs if f z], zs texts -/
theorem lcF (w : Walk J n G Y) (zs : List Str) (f : Str → Bool) (hn : zs.length = n) (hs : n < 1000000) (hY : ∀ i H x H', Y i H x H' → H' = H ∧ (zs.map V.str)[i]? = some x) (hD : H1 D = none) (hG : ∀ H', Same H1 H' → G H')
    (test : ∀ (z : Str) (H2 : Hp), z ∈ zs → Same H1 H2 → ∀ Q1 : Bool → Hp → Prop, (∀ H3, Same H2 H3 → Q1 (f z) H3) → tt ((wipe σ [j]).set j (some (.str z))) H2 Q1)
    (elt : ∀ (z : Str) (H2 : Hp) (Q1 : VK), z ∈ zs → Q1 (.str z) H2 → te ((wipe σ [j]).set j (some (.str z))) H2 Q1)
    (hd : ∀ H', Same H1 H' → H' D = some (.lst ((zs.filter f).map V.str)) → Qd H') :
    ∃ W : Nat → Nat → Hp → Prop, (∃ m, W 0 m (upd H1 D (.lst []))) ∧ ∀ i m H, W i m H →
      (J.stop i H ∧ Qd H) ∨ (J.go i H ∧ ∃ Nx : Hp → Prop, (∀ H', Nx H' → ∃ m', m' < m ∧ W (i + 1) m' H') ∧ ∀ x H', J.yld i H x H' → gName j x (wipe σ [j]) H' fun σ2 H2 => wipe σ2 [j] = wipe σ [j] ∧ tt σ2 H2 fun b H3 =>
        if b = true then te σ2 H3 fun y H4 => ∃ acc, H4 D = some (.lst acc) ∧ acc.length < sizeLine ∧ Nx (upd H4 D (.lst (acc ++ [y]))) else Nx H3) := by
  subst hn
  refine lc_it w (fun i H' => Same H1 H' ∧ H' D = some (.lst (((zs.take i).filter f).map V.str))) ⟨same_mk hD, upd_same⟩ (fun i H' _ q => hG H' q.1) ?_ ?_
  · rintro i x H2 H3 hi ⟨s2, hd2⟩ y
    obtain ⟨rfl, hx⟩ := hY i H2 x H3 y
    rw [List.getElem?_map, List.getElem?_eq_getElem hi] at hx
    cases hx
    have hm : zs[i] ∈ zs := List.getElem_mem hi
    have tk : zs.take (i + 1) = zs.take i ++ [zs[i]] := by
      rw [List.take_succ, List.getElem?_eq_getElem hi]
      rfl
    refine ⟨wipe1 _, test zs[i] _ hm s2 _ fun H4 s4 => ?_⟩
    cases hf : f zs[i] with
    | true =>
      refine iteT (elt _ _ _ hm ⟨_, s4 _ _ hd2, ?_, same_ch (s2.trans s4) hD, ?_⟩)
      · rw [List.length_map]
        have h1 := List.length_filter_le f (zs.take i)
        rw [List.length_take] at h1
        exact Nat.lt_of_lt_of_le (show _ < 1000000 by omega) (by decide)
      · rw [upd_same, tk, List.filter_append, List.filter_cons_of_pos hf, List.filter_nil, List.map_append]
        rfl
    | false =>
      refine iteF ⟨s2.trans s4, ?_⟩
      rw [tk, List.filter_append, List.filter_cons_of_neg (by rw [hf]; decide), List.filter_nil, List.append_nil]
      exact s4 _ _ hd2
  · rintro H' ⟨s, h⟩
    rw [List.take_length] at h
    exact hd H' s h
end
theorem in_row {K : PySem.W.Frag} {H : Hp} {v : V} {z : Str} {ws : List Str} {Q : VK} (hv : RowAt H v (ws.map V.str)) (q : Q (.bl (decide (z ∈ ws))) H) : rIn K false (.str z) v H Q := by
  obtain ⟨a, rfl, h | h⟩ := hv
  · exact ⟨a, _, rfl, .inr (SqT.of h), rfl, flat_strs _, by rw [inV_strs]; exact q⟩
  · exact ⟨a, _, rfl, .inl (SqL.of h), rfl, flat_strs _, by rw [inV_strs]; exact q⟩
theorem nin_row {K : PySem.W.Frag} {H : Hp} {v : V} {z : Str} {ws : List Str} {Q : VK} (hv : RowAt H v (ws.map V.str)) (q : Q (.bl (!decide (z ∈ ws))) H) : rIn K true (.str z) v H Q := by
  obtain ⟨a, rfl, h | h⟩ := hv
  · exact ⟨a, _, rfl, .inr (SqT.of h), rfl, flat_strs _, by rw [inV_strs]; exact q⟩
  · exact ⟨a, _, rfl, .inl (SqL.of h), rfl, flat_strs _, by rw [inV_strs]; exact q⟩
section
variable {P : Program} {w : World} {K : PySem.W.Frag} {mg : Str → Option Value} {base : Heap} {C aS fCh fI : Addr} {fdCh fdI : FuncData} {ma : Str → Addr}
theorem scRIni : FnScope ["self", "sorts", "word"] ["self", "sorts"] (defScope sRIni) := ⟨rfl, rfl, rfl, by decide +kernel, rfl, by decide +kernel, by decide +kernel⟩
theorem ok_ini {f : Addr} {fd : FuncData} (F : Fun K "__init__" "Rule.__init__" sRIni f fd) (T : TB mg) (R : RCl K mg C ma) (mS : mg "SORTS" = some (.ref aS)) (hS : ∀ H, SqT K H aS (srt.map V.str)) (aCh : At K mg "check_sorts" fCh fdCh ["sorts"]) (GCh : FnOk P w K mg base CX0 1 fCh fdCh ["sorts"] spCheck) :
    FnOk P w K mg base CX0 2 f fd ["self", "sorts"] (spIni C) := by
  refine F.ok scRIni (fun vs H Q E h => ?_) (fun cdv A outer s H vs Q E hr h => ?_)
  · obtain ⟨o, dx, v, ws, rfl, _⟩ := h
    rfl
  · obtain ⟨o, dx, v, ws, rfl, ho, hv, hg, k⟩ := h
    refine ⟨_, pss_cons (ps_expr (pe_call GCh (hr.mono (by decide)) rfl aCh.m aCh.k aCh.b .nil pass0 (pa_cons (pv 1) pa_nil)))
            (pss_one (ps_fld (pv 0) (pe_callTy call_tuple_of (by rfl) T.tuple (by decide +kernel) (pa_cons (pe_lc (own := [("word", 2)]) (g := gName 2) (tt := _) rfl scRIni.nd (pi_tup (pe_glob (v := .ref aS) rfl mS rfl)) (blkOk_by (own := [("word", 2)]) (N := ["self", "sorts", "word"]) (sc := defScope sRIni) (by decide +kernel)) (fun _ _ _ _ _ => (pg_name (i := 2) scRIni.nd rfl (Or.inl rfl))) (fun _ _ _ _ _ => (by exact pts_one (pt_cmpR (in_seqK (K0 := K) rfl) (pv 2) (pv 1) (by rfl)))) (fun _ _ _ _ _ => (by exact (pv 2)))) pa_nil)) rfl)), ?_⟩
    refine ⟨_, rfl, v, ws, rfl, hv, hg, fun H1 s1 => ?_⟩
    refine ⟨aS, rfl, ⟨_, hS _⟩, fun D hD => ?_⟩
    refine lcF (walk_tup (K := K) (a := aS) (xs := srt.map V.str)) srt (fun z => decide (z ∈ ws)) (by rw [List.length_map]) (by decide) (fun i H x H' y => ⟨y.1, y.2⟩) hD (fun H' _ => hS H') ?_ ?_ ?_
    · intro z H2 hz s2 Q1 k1
      exact ⟨_, rfl, _, rfl, in_row (hv.up (s1.trans s2)) ⟨_, rfl, k1 H2 (Same.refl H2)⟩⟩
    · intro z H2 Q1 hz k1
      exact ⟨_, rfl, k1⟩
    · intro H2 s2 hd2
      have s12 := s1.trans s2
      refine ⟨D, _, rfl, .inl ⟨SqL.of hd2, fun p hp => ?_⟩⟩
      have sp := same_mk (o := .tup ((canon ws).map V.str)) hp
      have ho2 := sp _ _ (s12 _ _ ho)
      have po : p ≠ o := fun e => by rw [e, s12 _ _ ho] at hp; cases hp
      refine ⟨_, rfl, o, C, dx, [], rfl, ho2, R.cl, R.no, by show 0 < 1000; decide, ?_⟩
      refine k _ (fun b u hb nb => ?_) ⟨dx, p, upd_same, ?_⟩
      · rw [upd_ne nb]
        exact sp _ _ (s12 _ _ hb)
      · rw [upd_ne po]
        exact upd_same
end
end R

set_option maxHeartbeats 3900000
namespace R
open PySem PySem.Spec PyProof.Rows L2 TL
open C8 (pss_cut tCut pe_gc)
open CB OW
theorem srt_nodup : srt.Nodup := by decide +kernel
theorem good_filter (f : Str → Bool) : GoodS (srt.filter f) := ⟨fun w hw => (List.mem_filter.mp hw).1, srt_nodup.sublist List.filter_sublist⟩
theorem canon_filter (f : Str → Bool) : canon (srt.filter f) = srt.filter f := by
  refine List.filter_congr fun w hw => ?_
  cases h : f w with
  | true => exact decide_eq_true (List.mem_filter.mpr ⟨hw, h⟩)
  | false => exact decide_eq_false fun m => by rw [(List.mem_filter.mp m).2] at h; cases h
theorem mem_canon {ws : List Str} (h : GoodS ws) (w : Str) : w ∈ canon ws ↔ w ∈ ws := by
  unfold canon
  rw [List.mem_filter, decide_eq_true_iff]
  exact ⟨fun q => q.2, fun q => ⟨h.1 w q, q⟩⟩
theorem new_at {H H2 H3 : Hp} {x dx C D : Addr} {xs : List V} (s2 : Same H H2) (hd2 : H2 D = some (.lst xs)) (hx : H2 x = none) (hdx : H2 dx = none) (hne : dx ≠ x) (kp : ∀ b u, upd (upd H2 dx (.own x)) x (.ins C dx []) b = some u → b ≠ x → H3 b = some u) : Same H H3 := fun b u hb => by
  have h2 := s2 _ _ hb
  have n1 : b ≠ x := fun e => by rw [e, hx] at h2; cases h2
  have n2 : b ≠ dx := fun e => by rw [e, hdx] at h2; cases h2
  exact kp b u (by rw [upd_ne n1, upd_ne n2]; exact h2) n1
theorem new_row {H2 : Hp} {x dx C D : Addr} {xs : List V} (hd2 : H2 D = some (.lst xs)) (hx : H2 x = none) (hdx : H2 dx = none) : RowAt (upd (upd H2 dx (.own x)) x (.ins C dx [])) (.ref D) xs :=
  ⟨D, rfl, .inr (by
    have n1 : D ≠ x := fun e => by rw [e, hx] at hd2; cases hd2
    have n2 : D ≠ dx := fun e => by rw [e, hdx] at hd2; cases hd2
    rw [upd_ne n1, upd_ne n2]
    exact hd2)⟩
section
variable {P : Program} {w : World} {K : PySem.W.Frag} {mg : Str → Option Value} {base : Heap} {C aS fCh : Addr} {fdCh fdI : FuncData} {ma : Str → Addr}
theorem scKeeps : FnScope ["self", "other", "word"] ["self", "other"] (defScope sKeeps) := ⟨rfl, rfl, rfl, by decide +kernel, rfl, by decide +kernel, by decide +kernel⟩
theorem ok_keeps {f : Addr} {fd : FuncData} (F : Fun K "keeps" "Rule.keeps" sKeeps f fd) (T : TB mg) (R : RCl K mg C ma) : FnOk P w K mg base CX0 1 f fd ["self", "other"] (spKeeps C) := by
  refine F.ok scKeeps (fun vs H Q E h => ?_) (fun cdv A outer s H vs Q E hr h => ?_)
  · obtain ⟨o, o2, ks, ks2, rfl, _⟩ := h
    rfl
  · obtain ⟨o, o2, ks, ks2, rfl, ⟨dx, p, h1, h2⟩, ⟨dx2, p2, g1, g2⟩, hl, k⟩ := h
    refine ⟨_, pss_one (ps_ret (pe_callB (cr_all rfl) (by rfl) T.all boot_all (pa_cons (pe_lc (own := [("word", 2)]) (g := gName 2) (tt := tYes) rfl scKeeps.nd (pi_tup (pe_fld (pv 1) rfl)) (blkOk_by (own := [("word", 2)]) (N := ["self", "other", "word"]) (sc := defScope sKeeps) (by decide +kernel)) (fun _ _ _ _ _ => (pg_name (i := 2) scKeeps.nd rfl (Or.inl rfl))) (fun _ _ _ _ _ => pts_nil) (fun _ _ _ _ _ => (by exact (pe_cmpR (in_seqK (K0 := K) rfl) (pv 2) (pe_fldK K rfl (pv 0) rfl) (by rfl))))) pa_nil))), ?_⟩
    refine ⟨_, rfl, o2, C, dx2, _, _, rfl, g1, R.cl, R.no, lk_kept _, p2, rfl, ⟨_, SqT.of g2⟩, fun D hD => ?_⟩
    refine lc_mapT ks2 V.str (fun z => .bl (decide (z ∈ ks))) (by omega) hD (SqT.of g2) ?_ ?_
    · intro z hz H2 s2 Q1 k1
      exact ⟨_, rfl, _, rfl, o, C, dx, _, _, rfl, s2 _ _ h1, R.cl, R.no, lk_kept _, in_row ⟨p, rfl, .inl (s2 _ _ h2)⟩ (k1 H2 (Same.refl H2))⟩
    · intro H' s' hD'
      exact all_of _ _ hD' (k H' s')
theorem scOr : FnScope ["self", "other", "word"] ["self", "other"] (defScope sOr) := ⟨rfl, rfl, rfl, by decide +kernel, rfl, by decide +kernel, by decide +kernel⟩
theorem ok_or {f fI : Addr} {fd fdI : FuncData} (F : Fun K "__or__" "Rule.__or__" sOr f fd) (T : TB mg) (R : RCl K mg C ma) (mS : mg "SORTS" = some (.ref aS)) (hS : ∀ H, SqT K H aS (srt.map V.str)) (bIni : L2.Binds K fdI ["self", "sorts"] []) (GIni : FnOk P w K mg base CX0 2 (ma "__init__") fdI ["self", "sorts"] (spIni C)) :
    FnOk P w K mg base CX0 4 f fd ["self", "other"] (spBin C fun ks ks2 z => decide (z ∈ ks) || decide (z ∈ ks2)) := by
  refine F.ok scOr (fun vs H Q E h => ?_) (fun cdv A outer s H vs Q E hr h => ?_)
  · obtain ⟨o, o2, ks, ks2, rfl, _⟩ := h
    rfl
  · obtain ⟨o, o2, ks, ks2, rfl, ⟨dx, p, h1, h2⟩, ⟨dx2, p2, g1, g2⟩, k⟩ := h
    refine ⟨_, pss_one (ps_ret (pe_make R.mak GIni (hr.mono (by decide)) rfl R.mg bIni .nil pass0 (pa_cons (pe_lc (own := [("word", 2)]) (g := gName 2) (tt := _) rfl scOr.nd (pi_tup (pe_glob (v := .ref aS) rfl mS rfl)) (blkOk_by (own := [("word", 2)]) (N := ["self", "other", "word"]) (sc := defScope sOr) (by decide +kernel)) (fun _ _ _ _ _ => (pg_name (i := 2) scOr.nd rfl (Or.inl rfl))) (fun _ _ _ _ _ => (by exact pts_one (PW.pt (pw_or (pt_cmpR (in_seqK (K0 := K) rfl) (pv 2) (pe_fldK K rfl (pv 0) rfl) (by rfl)) (pw_or1 (pt_cmpR (in_seqK (K0 := K) rfl) (pv 2) (pe_fldK K rfl (pv 1) rfl) (by rfl))))))) (fun _ _ _ _ _ => (by exact (pv 2)))) pa_nil))), ?_⟩
    refine ⟨aS, rfl, ⟨_, hS _⟩, fun D hD => ?_⟩
    refine lcF (walk_tup (K := K) (a := aS) (xs := srt.map V.str)) srt (fun z => decide (z ∈ ks) || decide (z ∈ ks2)) (by rw [List.length_map]) (by decide) (fun i H x H' y => ⟨y.1, y.2⟩) hD (fun H' _ => hS H') ?_ ?_ ?_
    · intro z H2 hz s2 Q1 k1
      have k2 := k1 H2 (Same.refl H2)
      refine ⟨_, rfl, _, rfl, o, C, dx, _, _, rfl, s2 _ _ h1, R.cl, R.no, lk_kept _, in_row ⟨p, rfl, .inl (s2 _ _ h2)⟩ ⟨_, rfl, ?_⟩⟩
      by_cases hz1 : z ∈ ks
      · rw [decide_eq_true hz1] at k2 ⊢
        exact iteT k2
      · rw [decide_eq_false hz1] at k2 ⊢
        exact iteF ⟨_, rfl, _, rfl, o2, C, dx2, _, _, rfl, s2 _ _ g1, R.cl, R.no, lk_kept _, in_row ⟨p2, rfl, .inl (s2 _ _ g2)⟩ ⟨_, rfl, k2⟩⟩
    · intro z H2 Q1 hz k1
      exact ⟨_, rfl, k1⟩
    · intro H2 s2 hd2
      intro x dx3 hx hdx hne
      refine ⟨x, dx3, .ref D, _, rfl, upd_same, new_row hd2 hx hdx, good_filter _, fun H' kp hru => ⟨rfl, k x H' (new_at s2 hd2 hx hdx hne kp) (s2.free hx) ?_⟩⟩
      rw [canon_filter] at hru
      exact hru
theorem scAnd : FnScope ["self", "other", "word"] ["self", "other"] (defScope sAnd) := ⟨rfl, rfl, rfl, by decide +kernel, rfl, by decide +kernel, by decide +kernel⟩
theorem ok_and {f fI : Addr} {fd fdI : FuncData} (F : Fun K "__and__" "Rule.__and__" sAnd f fd) (T : TB mg) (R : RCl K mg C ma) (mS : mg "SORTS" = some (.ref aS)) (hS : ∀ H, SqT K H aS (srt.map V.str)) (bIni : L2.Binds K fdI ["self", "sorts"] []) (GIni : FnOk P w K mg base CX0 2 (ma "__init__") fdI ["self", "sorts"] (spIni C)) :
    FnOk P w K mg base CX0 4 f fd ["self", "other"] (spBin C fun ks ks2 z => decide (z ∈ ks) && decide (z ∈ ks2)) := by
  refine F.ok scAnd (fun vs H Q E h => ?_) (fun cdv A outer s H vs Q E hr h => ?_)
  · obtain ⟨o, o2, ks, ks2, rfl, _⟩ := h
    rfl
  · obtain ⟨o, o2, ks, ks2, rfl, ⟨dx, p, h1, h2⟩, ⟨dx2, p2, g1, g2⟩, k⟩ := h
    refine ⟨_, pss_one (ps_ret (pe_make R.mak GIni (hr.mono (by decide)) rfl R.mg bIni .nil pass0 (pa_cons (pe_lc (own := [("word", 2)]) (g := gName 2) (tt := _) rfl scAnd.nd (pi_tup (pe_glob (v := .ref aS) rfl mS rfl)) (blkOk_by (own := [("word", 2)]) (N := ["self", "other", "word"]) (sc := defScope sAnd) (by decide +kernel)) (fun _ _ _ _ _ => (pg_name (i := 2) scAnd.nd rfl (Or.inl rfl))) (fun _ _ _ _ _ => (by exact pts_one (PW.pt (pw_and (pt_cmpR (in_seqK (K0 := K) rfl) (pv 2) (pe_fldK K rfl (pv 0) rfl) (by rfl)) (pw_and1 (pt_cmpR (in_seqK (K0 := K) rfl) (pv 2) (pe_fldK K rfl (pv 1) rfl) (by rfl))))))) (fun _ _ _ _ _ => (by exact (pv 2)))) pa_nil))), ?_⟩
    refine ⟨aS, rfl, ⟨_, hS _⟩, fun D hD => ?_⟩
    refine lcF (walk_tup (K := K) (a := aS) (xs := srt.map V.str)) srt (fun z => decide (z ∈ ks) && decide (z ∈ ks2)) (by rw [List.length_map]) (by decide) (fun i H x H' y => ⟨y.1, y.2⟩) hD (fun H' _ => hS H') ?_ ?_ ?_
    · intro z H2 hz s2 Q1 k1
      have k2 := k1 H2 (Same.refl H2)
      refine ⟨_, rfl, _, rfl, o, C, dx, _, _, rfl, s2 _ _ h1, R.cl, R.no, lk_kept _, in_row ⟨p, rfl, .inl (s2 _ _ h2)⟩ ⟨_, rfl, ?_⟩⟩
      by_cases hz1 : z ∈ ks
      · rw [decide_eq_true hz1] at k2 ⊢
        exact iteT ⟨_, rfl, _, rfl, o2, C, dx2, _, _, rfl, s2 _ _ g1, R.cl, R.no, lk_kept _, in_row ⟨p2, rfl, .inl (s2 _ _ g2)⟩ ⟨_, rfl, k2⟩⟩
      · rw [decide_eq_false hz1] at k2 ⊢
        exact iteF k2
    · intro z H2 Q1 hz k1
      exact ⟨_, rfl, k1⟩
    · intro H2 s2 hd2
      intro x dx3 hx hdx hne
      refine ⟨x, dx3, .ref D, _, rfl, upd_same, new_row hd2 hx hdx, good_filter _, fun H' kp hru => ⟨rfl, k x H' (new_at s2 hd2 hx hdx hne kp) (s2.free hx) ?_⟩⟩
      rw [canon_filter] at hru
      exact hru
theorem scInv : FnScope ["self", "word"] ["self"] (defScope sInv) := ⟨rfl, rfl, rfl, by decide +kernel, rfl, by decide +kernel, by decide +kernel⟩
theorem ok_inv {f : Addr} {fd fdI : FuncData} (F : Fun K "__invert__" "Rule.__invert__" sInv f fd) (T : TB mg) (R : RCl K mg C ma) (mS : mg "SORTS" = some (.ref aS)) (hS : ∀ H, SqT K H aS (srt.map V.str)) (bIni : L2.Binds K fdI ["self", "sorts"] []) (GIni : FnOk P w K mg base CX0 2 (ma "__init__") fdI ["self", "sorts"] (spIni C)) :
    FnOk P w K mg base CX0 4 f fd ["self"] (spInvt C) := by
  refine F.ok scInv (fun vs H Q E h => ?_) (fun cdv A outer s H vs Q E hr h => ?_)
  · obtain ⟨o, ks, rfl, _⟩ := h
    rfl
  · obtain ⟨o, ks, rfl, ⟨dx, p, h1, h2⟩, k⟩ := h
    refine ⟨_, pss_one (ps_ret (pe_make R.mak GIni (hr.mono (by decide)) rfl R.mg bIni .nil pass0 (pa_cons (pe_lc (own := [("word", 1)]) (g := gName 1) (tt := _) rfl scInv.nd (pi_tup (pe_glob (v := .ref aS) rfl mS rfl)) (blkOk_by (own := [("word", 1)]) (N := ["self", "word"]) (sc := defScope sInv) (by decide +kernel)) (fun _ _ _ _ _ => (pg_name (i := 1) scInv.nd rfl (Or.inl rfl))) (fun _ _ _ _ _ => (by exact pts_one (pt_cmpR (notIn_seqK (K0 := K) rfl) (pv 1) (pe_fldK K rfl (pv 0) rfl) (by rfl)))) (fun _ _ _ _ _ => (by exact (pv 1)))) pa_nil))), ?_⟩
    refine ⟨aS, rfl, ⟨_, hS _⟩, fun D hD => ?_⟩
    refine lcF (walk_tup (K := K) (a := aS) (xs := srt.map V.str)) srt (fun z => !decide (z ∈ ks)) (by rw [List.length_map]) (by decide) (fun i H x H' y => ⟨y.1, y.2⟩) hD (fun H' _ => hS H') ?_ ?_ ?_
    · intro z H2 hz s2 Q1 k1
      exact ⟨_, rfl, _, rfl, o, C, dx, _, _, rfl, s2 _ _ h1, R.cl, R.no, lk_kept _, nin_row ⟨p, rfl, .inl (s2 _ _ h2)⟩ ⟨_, rfl, k1 H2 (Same.refl H2)⟩⟩
    · intro z H2 Q1 hz k1
      exact ⟨_, rfl, k1⟩
    · intro H2 s2 hd2
      intro x dx3 hx hdx hne
      refine ⟨x, dx3, .ref D, _, rfl, upd_same, new_row hd2 hx hdx, good_filter _, fun H' kp hru => ⟨rfl, k x H' (new_at s2 hd2 hx hdx hne kp) (s2.free hx) ?_⟩⟩
      rw [canon_filter] at hru
      exact hru
theorem scCon : FnScope ["self", "x"] ["self", "x"] (defScope sCon) := ⟨rfl, rfl, rfl, by decide +kernel, rfl, by decide +kernel, by decide +kernel⟩
theorem ok_con {f : Addr} {fd : FuncData} (F : Fun K "__contains__" "Rule.__contains__" sCon f fd) (T : TB mg) (R : RCl K mg C ma) : FnOk P w K mg base CX0 1 f fd ["self", "x"] (spCon C) := by
  refine F.ok scCon (fun vs H Q E h => ?_) (fun cdv A outer s H vs Q E hr h => ?_)
  · obtain ⟨o, x, ks, rfl, _⟩ := h
    rfl
  · obtain ⟨o, x, ks, rfl, ⟨dx, p, h1, h2⟩, hx⟩ := h
    refine ⟨_, pss_one (ps_ret (pe_and (pe_callB call_isi (by rfl) T.isinstance (by decide +kernel) (pa_cons (pv 1) (pa_cons (pe_bltn (v := .ty "str") (by rfl) T.str (by decide +kernel) rfl) pa_nil))) (pe_one (pe_cmpR op_in_seq (pv 1) (pe_fld (pv 0) rfl) (by rfl))))), ?_⟩
    rcases hx with ⟨z, rfl, k⟩ | ⟨odd, k⟩
    · exact ⟨_, rfl, _, _, .type "str", .type "str", true, rfl, .ty "str", .base (.str _), kit_ty (by decide +kernel), _, rfl, iteT ⟨_, rfl, _, rfl, o, C, dx, _, _, rfl, h1, R.cl, R.no, lk_kept _, in_row ⟨p, rfl, .inl h2⟩ k⟩⟩
    · obtain ⟨t, ty, kt⟩ := odd.ty (K := K)
      exact ⟨_, rfl, _, _, .type t, .type "str", false, rfl, .ty "str", ty, kt, _, rfl, iteF k⟩
end
end R

set_option maxHeartbeats 3900000
namespace R
open PySem PySem.Spec PyProof.Rows L2 TL
open C8 (pss_cut tCut pe_gc)
open CB OW
def strD (l : List Str) : PyData := .tuple (l.map .str)
abbrev Okz (z : Str) : Prop := PyData.strOk z = true
theorem lay_strs : ∀ l : List Str, (∀ z ∈ l, Okz z) → PyData.canLayAll0 (l.map .str) = true
  | [], _ => by simp [PyData.canLayAll0]
  | z :: r, h => by
    have h1 : PyData.strOk z = true := h z List.mem_cons_self
    simp [PyData.canLayAll0, PyData.canLay0, lay_strs r fun y hy => h y (List.mem_cons_of_mem _ hy), h1]
theorem dep_strs : ∀ l : List Str, PyData.depthAll (l.map .str) ≤ 1
  | [] => by simp [PyData.depthAll]
  | z :: r => by
    have := dep_strs r
    simp only [List.map_cons, PyData.depthAll, PyData.depth]
    omega
theorem shaped_strs (l : List Str) (hl : ∀ z ∈ l, Okz z) : SeqAt.shaped (strD l) = true := by
  have h := dep_strs l
  have h2 : PyData.depth (.tuple (l.map .str)) ≤ 64 := by
    simp only [PyData.depth]
    omega
  show (PyData.canLay0 (.tuple (l.map .str)) && decide (PyData.depth (.tuple (l.map .str)) ≤ 64)) = true
  rw [Bool.and_eq_true]
  exact ⟨by simp only [PyData.canLay0]; exact lay_strs l hl, decide_eq_true h2⟩
theorem eqv_strs : ∀ l m : List Str, PyData.eqvAll (l.map .str) (m.map .str) = decide (l = m)
  | [], [] => by simp [PyData.eqvAll]
  | [], z :: m => by simp [PyData.eqvAll]
  | z :: l, [] => by simp [PyData.eqvAll]
  | y :: l, z :: m => by
    have ih := eqv_strs l m
    simp only [List.map_cons, PyData.eqvAll, PyData.eqv, ih]
    by_cases e : y = z
    · subst e
      simp
    · have : (y == z) = false := beq_eq_false_iff_ne.mpr e
      simp [this, e]
theorem eqv_strD (l m : List Str) : PyData.eqv (strD l) (strD m) = decide (l = m) := by
  simp only [strD, PyData.eqv]
  exact eqv_strs l m
section
variable {K : PySem.W.Frag}
theorem dp_strs {H : Hp} : ∀ l : List Str, DpAll K H (l.map V.str) (l.map PyData.str)
  | [] => .nil
  | z :: r => .cons (.str z) (dp_strs r)
end
theorem srt_ok : ∀ z ∈ srt, Okz z := by decide +kernel
section
variable {P : Program} {w : World} {K : PySem.W.Frag} {mg : Str → Option Value} {base : Heap} {C aS fCh : Addr} {fdCh fdI : FuncData} {ma : Str → Addr}
theorem scEq : FnScope ["self", "other"] ["self", "other"] (defScope sEq) := ⟨rfl, rfl, rfl, by decide +kernel, rfl, by decide +kernel, by decide +kernel⟩
theorem ok_eq {f : Addr} {fd : FuncData} (F : Fun K "__eq__" "Rule.__eq__" sEq f fd) (T : TB mg) (R : RCl K mg C ma) : FnOk P w K mg base CX0 1 f fd ["self", "other"] (spEq K C) := by
  refine F.ok scEq (fun vs H Q E h => ?_) (fun cdv A outer s H vs Q E hr h => ?_)
  · obtain ⟨o, y, ks, rfl, _⟩ := h
    rfl
  · have hu := hr.units
    obtain ⟨o, y, ks, rfl, ⟨dx, p, h1, h2⟩, kl, kz, hy⟩ := h
    refine ⟨_, pss_one (ps_ret (pe_and (pe_callB call_isi (by rfl) T.isinstance (by decide +kernel) (pa_cons (pv 1) (pa_cons (pe_glob (v := .ref C) rfl R.mg rfl) pa_nil))) (pe_one (pe_cmpR (op_eqD hu) (pe_fld (pv 0) rfl) (pe_fld (pv 1) rfl) (nomark _))))), ?_⟩
    rcases hy with ⟨o2, ks2, rfl, ⟨dx2, p2, g1, g2⟩, kl2, kz2, k⟩ | ⟨t, ty, kt, k⟩
    · refine ⟨_, rfl, _, _, .ref C, .ref C, true, rfl, .own C, .base (.ins g1 R.cl R.ha R.hn R.ht R.hm), R.kC, _, rfl, iteT ⟨_, rfl, o, C, dx, _, _, rfl, h1, R.cl, R.no, lk_kept _, _, rfl, o2, C, dx2, _, _, rfl, g1, R.cl, R.no, lk_kept _, ?_⟩⟩
      have z1 := shaped_strs ks fun z hz => srt_ok z (kz z hz)
      have z2 := shaped_strs ks2 fun z hz => srt_ok z (kz2 z hz)
      refine ⟨_, _, .tup (SqT.of h2) (dp_strs ks), .tup (SqT.of g2) (dp_strs ks2), z1, z2, ?_⟩
      rw [show PyData.eqv (.tuple (ks.map .str)) (.tuple (ks2.map .str)) = decide (ks = ks2) from eqv_strD ks ks2]
      exact k
    · exact ⟨_, rfl, _, _, t, .ref C, false, rfl, .own C, ty, kt, _, rfl, iteF k⟩
end
end R

set_option maxHeartbeats 3900000
namespace R
open PySem PySem.Spec PyProof.Rows L2 TL
open C8 (pss_cut tCut pe_gc)
open CB OW
/-- the error's class -/
structure BCl (K : PySem.W.Frag) (mg : Str → Option Value) (C f : Addr) : Prop where
  mg : mg "BadSort" = some (.ref C)
  ox : OexC K C
  iC : PySem.W.findIn K (.ref C) "__init__" = some (some (.ref f))
  tI : PySem.W.typeIn K (.ref f) = some (.type "function")
  no : PySem.W.findIn K (.ref C) "thing" = some none
  xf : XfC K C
  te : PySem.W.exmOne K (.ref C) (.ref C) = some true
def spIniB (C : Addr) : Sp := fun vs H Q _ => ∃ a x, vs = [.ref a, x] ∧ H a = some (exo a C none) ∧ ∀ dx, H dx = none → dx ≠ a → Q .non (upd (upd H dx (exd dx [(("thing" : Str), x)])) a (exo a C (some dx)))
/-- what cannot stand behind ws -/
def BadX (H : Hp) (ws : List Str) (x : V) : Prop := Odd H x ∨ ∃ z, x = .str z ∧ (z ∉ srt ∨ z ∈ ws)
theorem Odd.up {H H' : Hp} {x : V} (h : Odd H x) (s : Same H H') : Odd H' x := by
  cases h with
  | non => exact .non
  | int i => exact .int i
  | bl b => exact .bl b
  | lst h => exact .lst (s _ _ h)
  | tup h => exact .tup (s _ _ h)
  | dct h => exact .dct (s _ _ h)
theorem BadX.up {H H' : Hp} {ws : List Str} {x : V} (h : BadX H ws x) (s : Same H H') : BadX H' ws x := h.elim (fun h => .inl (h.up s)) .inr
/-- what is wanted of the error -/
def Wants (H : Hp) (C : Addr) (x : V) (E : XK) : Prop := ∀ d H', Same H H' → H d = none → H' d = some (.xd [(("thing" : Str), x)]) → E (.ref C) (some d) H'
def spCheckX (C : Addr) : Sp := fun vs H Q E => ∃ v ws tail, vs = [v] ∧ RowAt H v (ws.map V.str ++ tail) ∧ GoodS ws ∧ ((tail = [] ∧ ∀ H', Same H H' → Q .non H') ∨ ∃ x rest, tail = x :: rest ∧ BadX H ws x ∧ Wants H C x E)
theorem raise_at {H H1 : Hp} {C a dx : Addr} {x : V} {E : XK} (s1 : Same H H1) (ha : H1 a = none) (hdx : upd H1 a (exo a C none) dx = none) (hne : dx ≠ a) (k : Wants H C x E) :
    ∃ (d : Addr) (fs : List (Str × V)), upd (upd (upd H1 a (exo a C none)) dx (exd dx [(("thing" : Str), x)])) a (exo a C (some dx)) a = some (exo a C (some d)) ∧ upd (upd (upd H1 a (exo a C none)) dx (exd dx [(("thing" : Str), x)])) a (exo a C (some dx)) d = some (exd d fs) ∧ H1 d = none ∧
      E (.ref C) (some d) (upd (del (upd (upd (upd H1 a (exo a C none)) dx (exd dx [(("thing" : Str), x)])) a (exo a C (some dx))) a) d (.xd fs)) := by
  have hn : H1 dx = none := by
    rw [upd_ne hne] at hdx
    exact hdx
  refine ⟨dx, [(("thing" : Str), x)], upd_same, by rw [upd_ne hne, upd_same], hn, k dx _ (fun b u hb => ?_) (s1.free hn) upd_same⟩
  have hb1 := s1 _ _ hb
  have n1 : b ≠ a := fun e => by rw [e, ha] at hb1; cases hb1
  have n2 : b ≠ dx := fun e => by rw [e, hn] at hb1; cases hb1
  rw [upd_ne n2, del_ne n1, upd_ne n1, upd_ne n2, upd_ne n1]
  exact hb1
section
variable {P : Program} {w : World} {K : PySem.W.Frag} {mg : Str → Option Value} {base : Heap} {C CB aS fCh fB : Addr} {fdCh fdB : FuncData} {ma : Str → Addr}
theorem scBIni : FnScope ["self", "thing"] ["self", "thing"] (defScope sBIni) := ⟨rfl, rfl, rfl, by decide +kernel, rfl, by decide +kernel, by decide +kernel⟩
theorem ok_iniB {f : Addr} {fd : FuncData} (F : Fun K "__init__" "BadSort.__init__" sBIni f fd) (B : BCl K mg CB fB) : FnOk P w K mg base CX0 1 f fd ["self", "thing"] (spIniB CB) := by
  refine F.ok scBIni (fun vs H Q E h => ?_) (fun cdv A outer s H vs Q E hr h => ?_)
  · obtain ⟨a, x, rfl, _⟩ := h
    rfl
  · obtain ⟨a, x, rfl, ha, k⟩ := h
    refine ⟨_, pss_one (ps_ost (pv 0) (pv 1) rfl), ?_⟩
    exact ⟨_, rfl, _, rfl, a, CB, rfl, B.ox, B.no, .inl ⟨ha, fun dx hdx hne => k dx hdx hne⟩⟩
theorem ok_checkX {f : Addr} {fd : FuncData} (F : Fun K "check_sorts" "check_sorts" sCheck f fd) (T : TB mg) (mS : mg "SORTS" = some (.ref aS)) (hS : ∀ H, SqT K H aS (srt.map V.str)) (B : BCl K mg CB fB) (bB : L2.Binds K fdB ["self", "thing"] []) (GB : FnOk P w K mg base CX0 1 fB fdB ["self", "thing"] (spIniB CB)) :
    FnOk P w K mg base (CX P w) 3 f fd ["sorts"] (spCheckX CB) := by
  refine F.okX scCheck (fun vs H Q E h => ?_) (fun cdv A outer s H vs Q E hr h => ?_)
  · obtain ⟨v, ws, tail, rfl, _⟩ := h
    rfl
  · obtain ⟨v, ws, tail, rfl, hv, hg, k⟩ := h
    refine ⟨_, pss_cons (ps_set (i := 1) scCheck.nd rfl (Or.inl rfl) (pe_lst pa_nil))
        (pss_one (ps_for (passes_of rfl) rfl (pi_seqv (pv 0)) (pg_name (i := 2) scCheck.nd rfl (Or.inl rfl)) (pss_cons (ps_if (PW.pt (pw_or (pt_not (pt_val (pe_callB call_isi (by rfl) T.isinstance (by decide +kernel) (pa_cons (pv 2) (pa_cons (pe_bltn (v := .ty "str") (by rfl) T.str (by decide +kernel) rfl) pa_nil))))) (pw_or (pt_cmpR op_notIn_seq (pv 2) (pe_glob (v := .ref aS) rfl mS rfl) (by rfl)) (pw_or1 (pt_cmpR op_in_seq (pv 2) (pv 1) (by rfl)))))) (pss_one (ps_raise rfl (takes_of rfl rfl rfl rfl) (pmk_oex B.ox B.iC B.tI GB hr bB .nil pass0 rfl B.mg (pa_cons (pv 2) pa_nil)))) (pss_nil))
        (pss_one (ps_expr (pe_bm PySem.F.plainAttrs_list PySem.F.slot_list_append PySem.F.type_list_append mt_append (pv 1) (pa_cons (pv 2) pa_nil))))))), ?_⟩
    refine ⟨Nat.zero_le _, fun p hp => ?_⟩
    have sp := same_mk (o := .lst []) hp
    obtain ⟨a, rfl, h1 | h1⟩ := hv
    · refine ⟨a, rfl, .inl ⟨_, SqT.of (sp _ _ h1), for_it (walk_tup (K := K) (a := a) (xs := ws.map V.str ++ tail)) (fun i σ H' => i ≤ ws.length ∧ ∃ x2, σ = [some (.ref a), some (.ref p), x2] ∧ Same H H' ∧ H' p = some (.lst ((ws.take i).map V.str)))
        ⟨Nat.zero_le _, none, rfl, sp, upd_same⟩ (fun i σ H' _ q => by obtain ⟨_, _, _, m, _⟩ := q; exact SqT.of (m _ _ h1)) ?_ ?_⟩⟩
      · rintro i x _ _ H1 hi ⟨hiw, x2, rfl, s1, hq⟩ ⟨rfl, hx⟩
        by_cases hi' : i < ws.length
        · have hx' := hx
          rw [List.getElem?_append_left (by rw [List.length_map]; exact hi'), List.getElem?_map, List.getElem?_eq_getElem hi'] at hx'
          cases hx'
          have hm : ws[i] ∈ srt := hg.1 _ (List.getElem_mem hi')
          have hnot : ws[i] ∉ ws.take i := fun hmem => by
            obtain ⟨j, hj, ej⟩ := List.getElem_of_mem hmem
            rw [List.getElem_take] at ej
            have hj' : j < i := by
              rw [List.length_take] at hj
              omega
            exact absurd ((List.getElem_inj hg.2).mp ej) (by omega)
          refine ⟨_, rfl, _, _, .type "str", .type "str", true, rfl, .ty "str", .base (.str _), kit_ty (by decide +kernel), _, rfl, iteF ⟨_, rfl, aS, _, rfl, .inr (hS _), rfl, rfl, ?_⟩⟩
          rw [show (if true = true then !inV (.str ws[i]) (srt.map V.str) else inV (.str ws[i]) (srt.map V.str)) = false by rw [if_pos rfl, inV_strs, decide_eq_true hm]; rfl]
          refine ⟨_, rfl, iteF ⟨_, rfl, _, rfl, p, _, rfl, .inl (SqL.of hq), rfl, flat_strs _, ?_⟩⟩
          rw [show (if false = true then !inV (.str ws[i]) ((ws.take i).map V.str) else inV (.str ws[i]) ((ws.take i).map V.str)) = false by rw [if_neg (by decide), inV_strs, decide_eq_false hnot]]
          refine ⟨_, rfl, iteF ⟨_, rfl, .inl ⟨rfl, _, SqL.of hq⟩, _, rfl, p, _, _, rfl, rfl, hq, ?_, ⟨hi', _, rfl, same_ch s1 hp, ?_⟩⟩⟩
          · rw [List.length_map, List.length_take]
            exact Nat.lt_of_le_of_lt (Nat.min_le_right _ _) (Nat.lt_of_lt_of_le (show ws.length < 7 by have := hg.len; omega) (by decide))
          · rw [upd_same, List.take_succ, List.getElem?_eq_getElem hi', List.map_append]
            rfl
        · have ei : i = ws.length := by omega
          subst ei
          rw [List.getElem?_append_right (by rw [List.length_map]; exact Nat.le_refl _), List.length_map, Nat.sub_self] at hx
          rcases k with ⟨rfl, _⟩ | ⟨y, rest, rfl, bad, want⟩
          · cases hx
          · cases hx
            rw [List.take_length] at hq
            rcases bad.up s1 with odd | ⟨z, rfl, hz⟩
            · obtain ⟨t, ty, kt⟩ := odd.ty (K := K)
              exact ⟨_, rfl, _, _, .type t, .type "str", false, rfl, .ty "str", ty, kt, _, rfl, iteT ⟨_, rfl, by show 1 ≤ 1000; decide, fun b hb => ⟨b, _, rfl, upd_same, fun dx hdx hne => ⟨rfl, raise_at s1 hb hdx hne want⟩⟩⟩⟩
            · refine ⟨_, rfl, _, _, .type "str", .type "str", true, rfl, .ty "str", .base (.str _), kit_ty (by decide +kernel), _, rfl, iteF ⟨_, rfl, aS, _, rfl, .inr (hS _), rfl, rfl, ?_⟩⟩
              by_cases hzs : z ∈ srt
              · have hzw : z ∈ ws := hz.resolve_left fun h => h hzs
                rw [show (if true = true then !inV (.str z) (srt.map V.str) else inV (.str z) (srt.map V.str)) = false by rw [if_pos rfl, inV_strs, decide_eq_true hzs]; rfl]
                refine ⟨_, rfl, iteF ⟨_, rfl, _, rfl, p, _, rfl, .inl (SqL.of hq), rfl, flat_strs _, ?_⟩⟩
                rw [show (if false = true then !inV (.str z) (ws.map V.str) else inV (.str z) (ws.map V.str)) = true by rw [if_neg (by decide), inV_strs, decide_eq_true hzw]]
                exact ⟨_, rfl, iteT ⟨_, rfl, by show 1 ≤ 1000; decide, fun b hb => ⟨b, _, rfl, upd_same, fun dx hdx hne => ⟨rfl, raise_at s1 hb hdx hne want⟩⟩⟩⟩
              · rw [show (if true = true then !inV (.str z) (srt.map V.str) else inV (.str z) (srt.map V.str)) = true by rw [if_pos rfl, inV_strs, decide_eq_false hzs]; rfl]
                exact ⟨_, rfl, iteT ⟨_, rfl, by show 1 ≤ 1000; decide, fun b hb => ⟨b, _, rfl, upd_same, fun dx hdx hne => ⟨rfl, raise_at s1 hb hdx hne want⟩⟩⟩⟩
      · rintro _ H1 ⟨hiw, x2, rfl, s1, _⟩
        rcases k with ⟨rfl, k⟩ | ⟨y, rest, rfl, _⟩
        · exact k H1 s1
        · rw [List.length_append, List.length_map, List.length_cons] at hiw
          omega
    · refine ⟨a, rfl, .inr ⟨_, SqL.of (sp _ _ h1), for_it (walk_list (K := K) (a := a) (xs := ws.map V.str ++ tail)) (fun i σ H' => i ≤ ws.length ∧ ∃ x2, σ = [some (.ref a), some (.ref p), x2] ∧ Same H H' ∧ H' p = some (.lst ((ws.take i).map V.str)))
        ⟨Nat.zero_le _, none, rfl, sp, upd_same⟩ (fun i σ H' _ q => by obtain ⟨_, _, _, m, _⟩ := q; exact SqL.of (m _ _ h1)) ?_ ?_⟩⟩
      · rintro i x _ _ H1 hi ⟨hiw, x2, rfl, s1, hq⟩ ⟨rfl, hx⟩
        by_cases hi' : i < ws.length
        · have hx' := hx
          rw [List.getElem?_append_left (by rw [List.length_map]; exact hi'), List.getElem?_map, List.getElem?_eq_getElem hi'] at hx'
          cases hx'
          have hm : ws[i] ∈ srt := hg.1 _ (List.getElem_mem hi')
          have hnot : ws[i] ∉ ws.take i := fun hmem => by
            obtain ⟨j, hj, ej⟩ := List.getElem_of_mem hmem
            rw [List.getElem_take] at ej
            have hj' : j < i := by
              rw [List.length_take] at hj
              omega
            exact absurd ((List.getElem_inj hg.2).mp ej) (by omega)
          refine ⟨_, rfl, _, _, .type "str", .type "str", true, rfl, .ty "str", .base (.str _), kit_ty (by decide +kernel), _, rfl, iteF ⟨_, rfl, aS, _, rfl, .inr (hS _), rfl, rfl, ?_⟩⟩
          rw [show (if true = true then !inV (.str ws[i]) (srt.map V.str) else inV (.str ws[i]) (srt.map V.str)) = false by rw [if_pos rfl, inV_strs, decide_eq_true hm]; rfl]
          refine ⟨_, rfl, iteF ⟨_, rfl, _, rfl, p, _, rfl, .inl (SqL.of hq), rfl, flat_strs _, ?_⟩⟩
          rw [show (if false = true then !inV (.str ws[i]) ((ws.take i).map V.str) else inV (.str ws[i]) ((ws.take i).map V.str)) = false by rw [if_neg (by decide), inV_strs, decide_eq_false hnot]]
          refine ⟨_, rfl, iteF ⟨_, rfl, .inl ⟨rfl, _, SqL.of hq⟩, _, rfl, p, _, _, rfl, rfl, hq, ?_, ⟨hi', _, rfl, same_ch s1 hp, ?_⟩⟩⟩
          · rw [List.length_map, List.length_take]
            exact Nat.lt_of_le_of_lt (Nat.min_le_right _ _) (Nat.lt_of_lt_of_le (show ws.length < 7 by have := hg.len; omega) (by decide))
          · rw [upd_same, List.take_succ, List.getElem?_eq_getElem hi', List.map_append]
            rfl
        · have ei : i = ws.length := by omega
          subst ei
          rw [List.getElem?_append_right (by rw [List.length_map]; exact Nat.le_refl _), List.length_map, Nat.sub_self] at hx
          rcases k with ⟨rfl, _⟩ | ⟨y, rest, rfl, bad, want⟩
          · cases hx
          · cases hx
            rw [List.take_length] at hq
            rcases bad.up s1 with odd | ⟨z, rfl, hz⟩
            · obtain ⟨t, ty, kt⟩ := odd.ty (K := K)
              exact ⟨_, rfl, _, _, .type t, .type "str", false, rfl, .ty "str", ty, kt, _, rfl, iteT ⟨_, rfl, by show 1 ≤ 1000; decide, fun b hb => ⟨b, _, rfl, upd_same, fun dx hdx hne => ⟨rfl, raise_at s1 hb hdx hne want⟩⟩⟩⟩
            · refine ⟨_, rfl, _, _, .type "str", .type "str", true, rfl, .ty "str", .base (.str _), kit_ty (by decide +kernel), _, rfl, iteF ⟨_, rfl, aS, _, rfl, .inr (hS _), rfl, rfl, ?_⟩⟩
              by_cases hzs : z ∈ srt
              · have hzw : z ∈ ws := hz.resolve_left fun h => h hzs
                rw [show (if true = true then !inV (.str z) (srt.map V.str) else inV (.str z) (srt.map V.str)) = false by rw [if_pos rfl, inV_strs, decide_eq_true hzs]; rfl]
                refine ⟨_, rfl, iteF ⟨_, rfl, _, rfl, p, _, rfl, .inl (SqL.of hq), rfl, flat_strs _, ?_⟩⟩
                rw [show (if false = true then !inV (.str z) (ws.map V.str) else inV (.str z) (ws.map V.str)) = true by rw [if_neg (by decide), inV_strs, decide_eq_true hzw]]
                exact ⟨_, rfl, iteT ⟨_, rfl, by show 1 ≤ 1000; decide, fun b hb => ⟨b, _, rfl, upd_same, fun dx hdx hne => ⟨rfl, raise_at s1 hb hdx hne want⟩⟩⟩⟩
              · rw [show (if true = true then !inV (.str z) (srt.map V.str) else inV (.str z) (srt.map V.str)) = true by rw [if_pos rfl, inV_strs, decide_eq_false hzs]; rfl]
                exact ⟨_, rfl, iteT ⟨_, rfl, by show 1 ≤ 1000; decide, fun b hb => ⟨b, _, rfl, upd_same, fun dx hdx hne => ⟨rfl, raise_at s1 hb hdx hne want⟩⟩⟩⟩
      · rintro _ H1 ⟨hiw, x2, rfl, s1, _⟩
        rcases k with ⟨rfl, k⟩ | ⟨y, rest, rfl, _⟩
        · exact k H1 s1
        · rw [List.length_append, List.length_map, List.length_cons] at hiw
          omega
end
end R

set_option maxHeartbeats 3900000
namespace R
open PySem PySem.Spec PyProof.Rows L2 TL
open C8 (pss_cut tCut pe_gc)
open CB OW
section
variable {X : Cx} {CX : CXT} {k : Nat} {f C : Addr} {fd : FuncData} {ps : List Str} {sp : Sp} {E : L2.St → XK} {x : Str} {p pos : Pos} {e : Expr} {es : List Expr} {t : TA}
def tMakeS (C : Addr) (sp : Sp) (E : L2.St → XK) (t : TA) : TE := fun σ H Q => t σ H fun vs H1 => ∀ x dx, H1 x = Option.none → H1 dx = Option.none → dx ≠ x →
  sp (V.ref x :: vs) (upd (upd H1 dx (.own x)) x (.ins C dx [])) (fun v H2 => v = .non ∧ Q (.ref x) H2) (E σ)
theorem run_makeS {pins : List (Addr × Obj)} {σ : L2.St} {H : Hp} {s : Shared} {Q : VK} {us : List Value} {vs : List V} (M : Mk X.K C f) (F : FnOk X.prog X.w X.K X.mg X.base CX k f fd ps sp) (hr : Room (k + 1) X.A) (hb : L2.Binds X.K fd ps [])
    (hx : PassesAt CX X σ (E σ)) (I : Inv X pins σ H s) (r : Vals vs us)
    (h : ∀ x dx, H x = none → H dx = none → dx ≠ x → sp (.ref x :: vs) (upd (upd H dx (.own x)) x (.ins C dx [])) (fun v H2 => v = .non ∧ Q (.ref x) H2) (E σ)) :
    wpAny (model X.prog X.w) X.A (call (.ref C) us) (EP X pins σ Q) X.xe s := by
  have hq := h (s.heap.objs.size + 1) s.heap.objs.size (I.hok.fresh (Nat.le_succ _)) (I.hok.fresh (Nat.le_refl _)) (Nat.ne_of_lt (Nat.lt_succ_self _))
  have I2 := Inv.made (C := C) I
  have r2 : Vals (V.ref (s.heap.objs.size + 1) :: vs) (Value.ref (s.heap.objs.size + 1) :: us) := .cons rfl r
  have hl : (Value.ref (s.heap.objs.size + 1) :: us).length = ps.length := by
    have e := r2.length
    rw [F.len _ _ _ _ hq] at e
    exact e.symm
  have b := hb _ (Value.ref (s.heap.objs.size + 1) :: us) I2.kIn (by rw [List.append_nil]; exact hl)
  rw [List.append_nil] at b
  refine wpAny_call (make_map (f := f) I.kIn M.makes M.init (beq_iff_eq.mp M.fn) (codeAny_mono (F.run _ X.stack _ _ ⟨Value.ref (s.heap.objs.size + 1) :: us, []⟩ (Value.ref (s.heap.objs.size + 1) :: us) _ _ (E σ) (hr.make C us [])
    (I2.env0.make C us []) b r2 hq) fun r s' hq' => ?_))
  cases r with
  | error e => exact hx pins _ _ e s' I2 hq'
  | ok fl =>
    cases fl with
    | ret u =>
      obtain ⟨v, H', I3, rv, ev, q3⟩ := I2.after hq'
      subst ev
      exact ⟨rv, ⟨V.ref (s.heap.objs.size + 1), H', I3, rfl, q3⟩⟩
    | next => exact False.elim hq'
    | brk => exact False.elim hq'
    | cont => exact False.elim hq'
theorem pe_makeS (M : Mk X.K C f) (F : FnOk X.prog X.w X.K X.mg X.base CX k f fd ps sp) (hr : Room (k + 1) X.A) (hg : Gl X x) (hm : X.mg x = some (.ref C)) (hb : L2.Binds X.K fd ps []) (hx : ∀ σ, PassesAt CX X σ (E σ))
    (ha : PA X (e :: es) t) (hdb : (x == ("__debug__" : Str)) = false := by decide) (he : starEach (e :: es) X.env = (false, eval e X.env) :: starEach es X.env := by rfl) (hpl : (backTo pos (starEach es X.env)).any (·.1) = false := by rfl) :
    PE X (.Call (.Name x p) (e :: es) [] pos) (tMakeS C sp E t) := by
  refine ⟨fun pins s σ H Q I h => ?_⟩
  refine wpAny_Call_Name_kw (ld_glob I hg hm ?_ hdb)
  refine PySem.W.callWith_K (h₀ := X.base) I.ok.mod.kin M.kp (thn (ha.run pos pins s σ H _ I h) fun us s1 ⟨vs, H1, I1, r, q⟩ => ⟨I1.kIn, ?_⟩) he hpl
  exact run_makeS M F hr hb (hx σ) I1 r q
end
theorem Wants.up {H H' : Hp} {C : Addr} {x : V} {E : XK} (h : Wants H C x E) (s : Same H H') : Wants H' C x E := fun d H2 s2 hd he => h d H2 (s.trans s2) (s.free hd) he
def spIniX (C CB : Addr) : Sp := fun vs H Q E => ∃ o dx v ws tail, vs = [.ref o, v] ∧ H o = some (.ins C dx []) ∧ RowAt H v (ws.map V.str ++ tail) ∧ GoodS ws ∧
  ((tail = [] ∧ ∀ H', (∀ b u, H b = some u → b ≠ o → H' b = some u) → RuleAt C H' o (canon ws) → Q .non H') ∨ ∃ x rest, tail = x :: rest ∧ BadX H ws x ∧ Wants H CB x E)
section
variable {P : Program} {w : World} {K : PySem.W.Frag} {mg : Str → Option Value} {base : Heap} {C CB aS fCh : Addr} {fdCh fdI : FuncData} {ma : Str → Addr}
theorem ok_iniX {f : Addr} {fd : FuncData} (F : Fun K "__init__" "Rule.__init__" sRIni f fd) (T : TB mg) (R : RCl K mg C ma) (mS : mg "SORTS" = some (.ref aS)) (hS : ∀ H, SqT K H aS (srt.map V.str)) (aCh : At K mg "check_sorts" fCh fdCh ["sorts"]) (GCh : FnOk P w K mg base (CX P w) 3 fCh fdCh ["sorts"] (spCheckX CB)) :
    FnOk P w K mg base (CX P w) 4 f fd ["self", "sorts"] (spIniX C CB) := by
  refine F.okX scRIni (fun vs H Q E h => ?_) (fun cdv A outer s H vs Q E hr h => ?_)
  · obtain ⟨o, dx, v, ws, tail, rfl, _⟩ := h
    rfl
  · obtain ⟨o, dx, v, ws, tail, rfl, ho, hv, hg, k⟩ := h
    refine ⟨_, pss_cons (ps_expr (pe_call GCh (hr.mono (by decide)) rfl aCh.m aCh.k aCh.b .nil (passes_call (takes_of rfl rfl rfl rfl) (fun _ _ _ _ h => h)) (pa_cons (pv 1) pa_nil)))
            (pss_one (ps_fld (pv 0) (pe_callTy call_tuple_of (by rfl) T.tuple (by decide +kernel) (pa_cons (pe_lc (own := [("word", 2)]) (g := gName 2) (tt := _) rfl scRIni.nd (pi_tup (pe_glob (v := .ref aS) rfl mS rfl)) (blkOk_by (own := [("word", 2)]) (N := ["self", "sorts", "word"]) (sc := defScope sRIni) (by decide +kernel)) (fun _ _ _ _ _ => (pg_name (i := 2) scRIni.nd rfl (Or.inl rfl))) (fun _ _ _ _ _ => (by exact pts_one (pt_cmpR (in_seqK (K0 := K) rfl) (pv 2) (pv 1) (by rfl)))) (fun _ _ _ _ _ => (by exact (pv 2)))) pa_nil)) rfl)), ?_⟩
    rcases k with ⟨rfl, k⟩ | ⟨x, rest, rfl, bad, want⟩
    · rw [List.append_nil] at hv
      refine ⟨_, rfl, v, ws, [], rfl, by rw [List.append_nil]; exact hv, hg, .inl ⟨rfl, fun H1 s1 => ?_⟩⟩
      refine ⟨aS, rfl, ⟨_, hS _⟩, fun D hD => ?_⟩
      refine lcF (walk_tup (K := K) (a := aS) (xs := srt.map V.str)) srt (fun z => decide (z ∈ ws)) (by rw [List.length_map]) (by decide) (fun i H x H' y => ⟨y.1, y.2⟩) hD (fun H' _ => hS H') ?_ ?_ ?_
      · intro z H2 hz s2 Q1 k1
        exact ⟨_, rfl, _, rfl, in_row (hv.up (s1.trans s2)) ⟨_, rfl, k1 H2 (Same.refl H2)⟩⟩
      · intro z H2 Q1 hz k1
        exact ⟨_, rfl, k1⟩
      · intro H2 s2 hd2
        have s12 := s1.trans s2
        refine ⟨D, _, rfl, .inl ⟨SqL.of hd2, fun p hp => ?_⟩⟩
        have sp := same_mk (o := .tup ((canon ws).map V.str)) hp
        have ho2 := sp _ _ (s12 _ _ ho)
        have po : p ≠ o := fun e => by rw [e, s12 _ _ ho] at hp; cases hp
        refine ⟨_, rfl, o, C, dx, [], rfl, ho2, R.cl, R.no, by show 0 < 1000; decide, ?_⟩
        refine k _ (fun b u hb nb => ?_) ⟨dx, p, upd_same, ?_⟩
        · rw [upd_ne nb]
          exact sp _ _ (s12 _ _ hb)
        · rw [upd_ne po]
          exact upd_same
    · exact ⟨_, rfl, v, ws, x :: rest, rfl, hv, hg, .inr ⟨x, rest, rfl, bad, want⟩⟩
end
end R

set_option maxHeartbeats 3900000
namespace R
open PySem PySem.Spec PyProof.Rows L2 TL
open C8 (pss_cut tCut pe_gc)
open CB OW
abbrev sLSorts : Stmt := top 13
abbrev sSome : Stmt := top 14
abbrev sEnd : Stmt := top 15
abbrev sUp : Stmt := top 16
def spLSorts : Sp := fun vs H Q _ => vs = [] ∧ ∀ D, H D = none → Q (.ref D) (upd H D (.lst (srt.map V.str)))
def spSome : Sp := fun vs H Q _ => ∃ (st l : Addr) (c : Nat), vs = [.ref st] ∧ Strm H st l c ∧ c ≤ 800000 ∧
  ∀ (D : Addr) (ws : List Str) (H' : Hp), H D = none → Pool H' st l D (ws.map V.str) → GoodS ws → But st l H H' → Strm H' st l (c + 7) → Q (.ref D) H'
def spUp : Sp := fun vs H Q _ => ∃ v ws, vs = [v] ∧ RowAt H v (ws.map V.str) ∧ ∀ D H', H D = none → Same H H' → H' D = some (.lst ((canon ws).map V.str)) → Q (.ref D) H'
theorem But.free {st l p : Addr} {H H' : Hp} (B : But st l H H') (h : H' p = none) (n : p ≠ st ∧ p ≠ l) : H p = none := by
  cases q : H p with
  | none => rfl
  | some u => rw [B _ _ q n.1 n.2] at h; cases h
theorem cut_take (xs : List V) (d : Nat) : cutV xs none (some (d : Int)) = xs.take d := by
  show (xs.drop (HT.sIx xs.length 0 none)).take (HT.sIx xs.length xs.length (some (d : Int)) - HT.sIx xs.length 0 none) = xs.take d
  rw [HT.sIx_none, HT.sIx_nat, List.drop_zero, Nat.sub_zero]
  by_cases h : d ≤ xs.length
  · rw [Nat.min_eq_left h]
  · rw [Nat.min_eq_right (by omega), List.take_of_length_le (Nat.le_refl _), List.take_of_length_le (by omega)]
def backS : V → Str
  | .str z => z
  | _ => ""
theorem back_str : ∀ l : List Str, (l.map V.str).map backS = l
  | [] => rfl
  | z :: r => by
    rw [List.map_cons, List.map_cons, back_str r]
    rfl
theorem perm_strs {ys : List V} {zs : List Str} (h : ys.Perm (zs.map V.str)) : ∃ ws : List Str, ys = ws.map V.str ∧ ws.Perm zs := by
  refine ⟨ys.map backS, ?_, ?_⟩
  · have key : ∀ l : List V, (∀ y ∈ l, ∃ z, y = .str z) → l = (l.map backS).map V.str := by
      intro l
      induction l with
      | nil => intro _; rfl
      | cons y r ih =>
        intro q
        obtain ⟨z, rfl⟩ := q y List.mem_cons_self
        rw [List.map_cons, List.map_cons, ← ih fun u hu => q u (List.mem_cons_of_mem _ hu)]
        rfl
    exact key ys fun y hy => by
      obtain ⟨z, _, rfl⟩ := List.mem_map.mp (h.mem_iff.mp hy)
      exact ⟨z, rfl⟩
  · have q := h.map backS
    rw [back_str] at q
    exact q
theorem good_perm {ws zs : List Str} (h : ws.Perm zs) (g : GoodS zs) : GoodS ws := ⟨fun w hw => g.1 w (h.mem_iff.mp hw), h.nodup_iff.mpr g.2⟩
theorem good_sub {ws zs : List Str} (h : ws.Sublist zs) (g : GoodS zs) : GoodS ws := ⟨fun w hw => g.1 w (h.subset hw), g.2.sublist h⟩
theorem good_srt : GoodS srt := ⟨fun w h => h, srt_nodup⟩
section
variable {P : Program} {w : World} {K : PySem.W.Frag} {mg : Str → Option Value} {base : Heap} {fD fMx fSo : Addr} {fdD fdMx fdSo : FuncData}
theorem scLSorts : FnScope [] [] (defScope sLSorts) := ⟨rfl, rfl, rfl, by decide +kernel, rfl, by decide +kernel, by decide +kernel⟩
theorem ok_lsorts {f : Addr} {fd : FuncData} (F : Fun K "_law_sorts" "_law_sorts" sLSorts f fd) (T : TB mg) : FnOk P w K mg base CX0 1 f fd [] spLSorts := by
  refine F.ok scLSorts (fun vs H Q E h => ?_) (fun cdv A outer s H vs Q E hr h => ?_)
  · obtain ⟨rfl, _⟩ := h
    rfl
  · obtain ⟨rfl, k⟩ := h
    refine ⟨_, pss_one (ps_ret (pe_lst (pa_cons pe_str (pa_cons pe_str (pa_cons pe_str (pa_cons pe_str (pa_cons pe_str (pa_cons pe_str pa_nil)))))))), ?_⟩
    exact ⟨by show 6 ≤ sizeLine; decide, fun D hD => k D hD⟩
theorem scSome : FnScope ["_law_stream"] ["_law_stream"] (defScope sSome) := ⟨rfl, rfl, rfl, by decide +kernel, rfl, by decide +kernel, by decide +kernel⟩
theorem ok_some {f : Addr} {fd : FuncData} (F : Fun K "_law_some_sorts" "_law_some_sorts" sSome f fd) (T : TB mg) (aD : aD' K mg fD fdD) (GD : FnOk P w K mg base CX0 1 fD fdD ["_law_stream", "_law_many"] spDraw)
    (aMx : At K mg "_law_mixed" fMx fdMx ["_law_stream", "_law_things"]) (GMx : FnOk P w K mg base CX0 2 fMx fdMx ["_law_stream", "_law_things"] spMixed) (aSo : At K mg "_law_sorts" fSo fdSo []) (GSo : FnOk P w K mg base CX0 1 fSo fdSo [] spLSorts) :
    FnOk P w K mg base CX0 3 f fd ["_law_stream"] spSome := by
  refine F.ok scSome (fun vs H Q E h => ?_) (fun cdv A outer s H vs Q E hr h => ?_)
  · obtain ⟨st, l, c, rfl, _⟩ := h
    rfl
  · obtain ⟨st, l, c, rfl, S, hc, k⟩ := h
    refine ⟨_, pss_one (ps_ret (pe_slice sl_list (pe_call GMx (hr.mono (by decide)) rfl aMx.m aMx.k aMx.b .nil pass0 (pa_cons (pv 0) (pa_cons (pe_call0 GSo (hr.mono (by decide)) rfl aSo.m aSo.k aSo.b .nil pass0) pa_nil))) po_none (po_some (pe_call GD (hr.mono (by decide)) rfl aD.m aD.k aD.b .nil pass0 (pa_cons (pv 0) (pa_cons pe_int pa_nil)))))), ?_⟩
    refine ⟨_, rfl, rfl, fun D0 hD0 => ?_⟩
    have s0 := same_mk (o := .lst (srt.map V.str)) hD0
    have S0 := S.up s0
    have n0 := S.ne_new hD0
    refine ⟨st, l, D0, c, _, rfl, S0, by omega, ⟨upd_same, n0.1, n0.2⟩, by decide, fun D ys H1 pm hD L1 B1 S1 => ?_⟩
    obtain ⟨ws, rfl, pw⟩ := perm_strs pm
    refine ⟨_, rfl, st, l, _, 7, rfl, S1, by show c + 6 ≤ 1000000; omega, by decide, by decide, fun d H2 d0 d1 B2 S2 => ⟨d, rfl, D, _, rfl, SqL.of (B2 _ _ L1.h L1.n1 L1.n2), fun p hp => ?_⟩⟩
    obtain ⟨m, rfl⟩ := Int.eq_ofNat_of_zero_le d0
    rw [show cutV (ws.map V.str) none (some (m : Int)) = (ws.take m).map V.str from (cut_take _ m).trans List.map_take.symm]
    have sp := same_mk (o := .lst ((ws.take m).map V.str)) hp
    have np := S2.ne_new hp
    have BB : But st l H H2 := (But.same s0).trans (B1.trans B2)
    refine k p (ws.take m) _ ?_ ⟨upd_same, np.1, np.2⟩ (good_sub (List.take_sublist _ _) (good_perm pw good_srt)) (BB.trans (But.same sp)) (S2.up sp)
    exact BB.free hp np
theorem scUp : FnScope ["_law_sorts_here", "_law_word"] ["_law_sorts_here"] (defScope sUp) := ⟨rfl, rfl, rfl, by decide +kernel, rfl, by decide +kernel, by decide +kernel⟩
theorem ok_up {f : Addr} {fd : FuncData} (F : Fun K "_law_up" "_law_up" sUp f fd) (T : TB mg) (aSo : At K mg "_law_sorts" fSo fdSo []) (GSo : FnOk P w K mg base CX0 1 fSo fdSo [] spLSorts) :
    FnOk P w K mg base CX0 2 f fd ["_law_sorts_here"] spUp := by
  refine F.ok scUp (fun vs H Q E h => ?_) (fun cdv A outer s H vs Q E hr h => ?_)
  · obtain ⟨v, ws, rfl, _⟩ := h
    rfl
  · obtain ⟨v, ws, rfl, hv, k⟩ := h
    refine ⟨_, pss_one (ps_ret (pe_lc (own := [("_law_word", 1)]) (g := gName 1) (tt := _) rfl scUp.nd (pi_list (pe_call0 GSo (hr.mono (by decide)) rfl aSo.m aSo.k aSo.b .nil pass0)) (blkOk_by (own := [("_law_word", 1)]) (N := ["_law_sorts_here", "_law_word"]) (sc := defScope sUp) (by decide +kernel)) (fun _ _ _ _ _ => (pg_name (i := 1) scUp.nd rfl (Or.inl rfl))) (fun _ _ _ _ _ => (by exact pts_one (pt_cmpR (in_seqK (K0 := K) rfl) (pv 1) (pv 0) (by rfl)))) (fun _ _ _ _ _ => (by exact (pv 1))))), ?_⟩
    refine ⟨rfl, fun p hp => ?_⟩
    have s0 := same_mk (o := .lst (srt.map V.str)) hp
    refine ⟨p, rfl, ⟨_, SqL.of upd_same⟩, fun D hD => ?_⟩
    refine lcF (walk_list (K := K) (a := p) (xs := srt.map V.str)) srt (fun z => decide (z ∈ ws)) (by rw [List.length_map]) (by decide) (fun i H x H' y => ⟨y.1, y.2⟩) hD (fun H' s' => SqL.of (s' _ _ upd_same)) ?_ ?_ ?_
    · intro z H2 hz s2 Q1 k1
      exact ⟨_, rfl, _, rfl, in_row (hv.up (s0.trans s2)) ⟨_, rfl, k1 H2 (Same.refl H2)⟩⟩
    · intro z H2 Q1 hz k1
      exact ⟨_, rfl, k1⟩
    · intro H2 s2 hd2
      exact k D H2 (s0.free hD) (s0.trans s2) hd2
end
end R

set_option maxHeartbeats 3900000
namespace R
open PySem PySem.Spec PyProof.Rows L2 TL
open C8 (pss_cut tCut pe_gc)
open CB OW
def spEnd : Sp := fun vs H Q _ => ∃ v ws tail, vs = [v] ∧ RowAt H v (ws.map V.str ++ tail) ∧ GoodS ws ∧
  ((tail = [] ∧ ∀ p D H', Same H H' → H' p = some (.tup [.str "told", .ref D]) → H' D = some (.lst ((canon ws).map V.str)) → Q (.ref p) H') ∨
   ∃ x rest, tail = x :: rest ∧ BadX H ws x ∧ ∀ p H', Same H H' → H' p = some (.tup [.str "sort", x]) → Q (.ref p) H')
theorem lk_not {m n : Str} {v : V} (h : (m == n) = false) : List.lookup m [(n, v)] = none := by
  simp only [List.lookup, h]
section
variable {P : Program} {w : World} {K : PySem.W.Frag} {mg : Str → Option Value} {base : Heap} {C CB fB : Addr} {fdI fdS : FuncData} {ma : Str → Addr}
theorem scEnd : FnScope ["_law_sorts_here", "_law_found", "e"] ["_law_sorts_here"] (defScope sEnd) := ⟨rfl, rfl, rfl, by decide +kernel, rfl, by decide +kernel, by decide +kernel⟩
theorem ok_end {f : Addr} {fd : FuncData} (F : Fun K "_law_end" "_law_end" sEnd f fd) (T : TB mg) (R : RCl K mg C ma) (B : BCl K mg CB fB) (bIni : L2.Binds K fdI ["self", "sorts"] []) (GIni : FnOk P w K mg base (CX P w) 4 (ma "__init__") fdI ["self", "sorts"] (spIniX C CB))
    (bSorts : L2.Binds K fdS ["self"] []) (GSorts : FnOk P w K mg base CX0 1 (ma "sorts") fdS ["self"] (spSorts C)) : FnOk P w K mg base CX0 6 f fd ["_law_sorts_here"] spEnd := by
  refine F.ok scEnd (fun vs H Q E h => ?_) (fun cdv A outer s H vs Q E hr h => ?_)
  · obtain ⟨v, ws, tail, rfl, _⟩ := h
    rfl
  · obtain ⟨v, ws, tail, rfl, hv, hg, k⟩ := h
    have hr5 : Room 5 _ := hr.mono (by decide)
    have hr1 : Room 1 _ := hr.mono (by decide)
    refine ⟨_, pss_cons (ps_set (i := 1) scEnd.nd rfl (Or.inl rfl) pe_non)
      (pss_cons (ps_try_as (i := 2) (tb := fun W => tAsg (tTup (tCons (tC (.str "told")) (tCons (tMeth C "sorts" (spSorts C) [] E0 (tMakeS C (spIniX C CB) (WE W) (tCons (tVar 0) tNil)) tNil) tNil))) (gName 1)) (ts := fun a cls d => tAsg (tTup (tCons (tC (.str "sort")) (tCons (tXf a cls d CB "thing" (tVar 2)) tNil))) (gName 1)) (Wout := fun _ _ _ _ => False) rfl rfl scEnd.nd rfl rfl ⟨rfl, by decide, Or.inl B.mg⟩ takes0
        (fun W pn xe tk _ => pss_one (ps_set (i := 1) scEnd.nd rfl (Or.inl rfl) (by exact (pe_tup (pa_cons pe_str (pa_cons (pe_meth0 (pe_makeS R.mak GIni hr5 rfl R.mg bIni (fun σ => passAt tk σ) (pa_cons (pv 0) pa_nil)) R.cl (R.me "sorts" (by decide +kernel)) GSorts hr1 bSorts .nil pass0) pa_nil))))))
        (fun a oe cls d pn hz hf => pss_one (ps_set (i := 1) scEnd.nd rfl (Or.inl rfl) (by exact (pe_tup (pa_cons pe_str (pa_cons (pe_xf B.xf B.no hz hf (pv 2)) pa_nil)))))))
      (pss_one (ps_ret (pv 1)))), ?_⟩
    refine ⟨_, rfl, ?_⟩
    have sm : ∀ x dx, H x = none → H dx = none → dx ≠ x → Same H (upd (upd H dx (.own x)) x (.ins C dx [])) := fun x dx hx hdx hne b u hb => by
      have n1 : b ≠ x := fun e => by rw [e, hx] at hb; cases hb
      have n2 : b ≠ dx := fun e => by rw [e, hdx] at hb; cases hb
      rw [upd_ne n1, upd_ne n2]
      exact hb
    rcases k with ⟨rfl, k⟩ | ⟨x, rest, rfl, bad, k⟩
    · intro o dx ho hdx hne
      refine ⟨o, dx, v, ws, [], rfl, upd_same, hv.up (sm o dx ho hdx hne), hg, .inl ⟨rfl, fun H1 kp hru => ⟨rfl, ?_⟩⟩⟩
      have s1 : Same H H1 := fun b u hb => kp b u (sm o dx ho hdx hne b u hb) fun e => by rw [e, ho] at hb; cases hb
      obtain ⟨dx1, p1, g1, g2⟩ := hru
      refine ⟨o, dx1, _, rfl, g1, lk_not (by decide +kernel), o, canon ws, rfl, ⟨dx1, p1, g1, g2⟩, fun l hl => ?_⟩
      have sl := same_mk (o := .lst ((canon ws).map V.str)) hl
      refine ⟨by show 2 ≤ sizeLine; decide, fun p hp => ?_⟩
      have sp := same_mk (o := .tup [.str "told", .ref l]) hp
      exact ⟨_, rfl, k p l _ (s1.trans (sl.trans sp)) upd_same (sp _ _ upd_same)⟩
    · intro o dx ho hdx hne
      refine ⟨o, dx, v, ws, x :: rest, rfl, upd_same, hv.up (sm o dx ho hdx hne), hg, .inr ⟨x, rest, rfl, bad.up (sm o dx ho hdx hne), fun d H1 s1 hd hxd => ?_⟩⟩
      have s01 := (sm o dx ho hdx hne).trans s1
      refine ⟨true, B.te, fun _ a ha => ?_, fun q => Bool.noConfusion q⟩
      refine ⟨_, rfl, rfl, rfl, d, _, x, rfl, hxd, by simp [List.lookup], by show 2 ≤ sizeLine; decide, fun p hp => ?_⟩
      have sp := same_mk (o := .tup [.str "sort", x]) hp
      exact ⟨_, rfl, k p _ (s01.trans sp) upd_same⟩
end
end R

set_option maxHeartbeats 3900000
/-! repr of data; defs that are called where no repr is under way. -/
namespace RP
open PySem PySem.Spec PyProof.Rows L2
/-- a key as data -/
def kD : Key → PyData
  | .inl i => .int i
  | .inr x => .str x
mutual
/-- what the value v is, read off the tracked heap -/
inductive Dq (K : PySem.W.Frag) (H : Hp) : V → PyData → Prop
  | non : Dq K H .non .none
  | bl (b : Bool) : Dq K H (.bl b) (.bool b)
  | int (i : Int) : Dq K H (.int i) (.int i)
  | str (x : Str) : Dq K H (.str x) (.str x)
  | lst {a : Addr} {xs : List V} {ds : List PyData} : H a = some (.lst xs) → DqAll K H xs ds → Dq K H (.ref a) (.list ds)
  | tup {a : Addr} {xs : List V} {ds : List PyData} : H a = some (.tup xs) → DqAll K H xs ds → Dq K H (.ref a) (.tuple ds)
  | dct {a : Addr} {kvs : List (Key × V)} {ds : List PyData} : H a = some (.dK kvs) → DqAll K H (kvs.map (·.2)) ds → Dq K H (.ref a) (.dict ((kvs.map fun p => kD p.1).zip ds))
inductive DqAll (K : PySem.W.Frag) (H : Hp) : List V → List PyData → Prop
  | nil : DqAll K H [] []
  | cons {v : V} {vs : List V} {d : PyData} {ds : List PyData} : Dq K H v d → DqAll K H vs ds → DqAll K H (v :: vs) (d :: ds)
end
mutual
theorem Dq.up {K : PySem.W.Frag} {H H' : Hp} (e : ∀ a o, H a = some o → H' a = some o) : ∀ {v : V} {d : PyData}, Dq K H v d → Dq K H' v d
  | _, _, .non => .non
  | _, _, .bl b => .bl b
  | _, _, .int i => .int i
  | _, _, .str x => .str x
  | _, _, .lst h t => .lst (e _ _ h) (DqAll.up e t)
  | _, _, .tup h t => .tup (e _ _ h) (DqAll.up e t)
  | _, _, .dct h t => .dct (e _ _ h) (DqAll.up e t)
theorem DqAll.up {K : PySem.W.Frag} {H H' : Hp} (e : ∀ a o, H a = some o → H' a = some o) : ∀ {vs : List V} {ds : List PyData}, DqAll K H vs ds → DqAll K H' vs ds
  | _, _, .nil => .nil
  | _, _, .cons h t => .cons (Dq.up e h) (DqAll.up e t)
end
theorem DqAll.length {K : PySem.W.Frag} {H : Hp} : ∀ {vs : List V} {ds : List PyData}, DqAll K H vs ds → vs.length = ds.length
  | _, _, .nil => rfl
  | _, _, .cons _ t => congrArg Nat.succ t.length
section
variable {X : Cx} {pins : List (Addr × Obj)} {σ : L2.St} {H : Hp} {s : Shared}
/-- sys.modules is no tracked object -/
theorem not_sys (I : Inv X pins σ H s) (SM : (X.base.get? sysModules).isSome = true) {a : Addr} {o : HO} (h : H a = some o) : a ≠ sysModules := fun z => by
  obtain ⟨u, hu⟩ := Option.isSome_iff_exists.mp SM
  have := (I.bs _ _ hu).2
  rw [← z, h] at this
  cases this
theorem keys_read {P : Program} {w : World} {h : Heap} : ∀ {es : List DictEntry} {kvs : List (Key × V)} {vs : List (Key × Value)}, Pairs (mixKind P w) es vs → KV kvs vs → ReadsAll h (es.map (·.key)) (kvs.map fun p => kD p.1) []
  | _, _, _, .nil, .nil => .nil
  | _, _, _, .cons (e := e) (kv := kv) k1 _ t, .cons r q => by
    have ih := keys_read (h := h) t q
    obtain ⟨e1, _⟩ := r
    rw [List.map_cons, List.map_cons, e1]
    have k1' : keyIs kv.1 e.key = true := k1
    rcases keyIs_shape k1' with ⟨i, t, hk, hv⟩ | ⟨x, t, hk, hv⟩
    · rw [hk, hv]
      exact .cons (.int i t) ih
    · rw [hk, hv]
      exact .cons (.str x t) ih
theorem vals_read {P : Program} {w : World} : ∀ {es : List DictEntry} {kvs : List (Key × V)} {vs : List (Key × Value)}, Pairs (mixKind P w) es vs → KV kvs vs → Vals (kvs.map (·.2)) (es.map (·.val))
  | _, _, _, .nil, .nil => .nil
  | _, _, _, .cons _ k2 t, .cons r q => by
    have ih := vals_read t q
    obtain ⟨_, e2⟩ := r
    rw [List.map_cons, List.map_cons, k2]
    exact .cons e2 ih
mutual
theorem Dq.reads (I : Inv X pins σ H s) (SM : (X.base.get? sysModules).isSome = true) : ∀ {v : V} {d : PyData} {u : Value}, Dq X.K H v d → RelV v u → ∃ as, Reads s.heap u d as ∧ sysModules ∉ as
  | _, _, _, .non, r => by
    cases r
    exact ⟨_, Reads.none, by simp⟩
  | _, _, _, .bl b, r => by
    cases r
    exact ⟨_, Reads.bool b, by simp⟩
  | _, _, _, .int i, r => by
    obtain ⟨t, rfl⟩ := r
    exact ⟨_, Reads.int i t, by simp⟩
  | _, _, _, .str x, r => by
    obtain ⟨t, rfl⟩ := r
    exact ⟨_, Reads.str x t, by simp⟩
  | _, _, _, .lst (a := a) h ha, r => by
    cases r
    obtain ⟨_, its, n, rv, ho⟩ := (show ObjOk X.prog X.w H s.heap a (.lst _) from I.hok a _ h)
    obtain ⟨as, hr, hn⟩ := DqAll.reads I SM ha rv
    exact ⟨_, Reads.list ho rfl rfl hr, by
      intro z
      rcases List.mem_cons.mp z with z | z
      · exact not_sys I SM h z.symm
      · exact hn z⟩
  | _, _, _, .tup (a := a) h ha, r => by
    cases r
    obtain ⟨_, its, rv, o, ho, hc, n, hd⟩ := (show ObjOk X.prog X.w H s.heap a (.tup _) from I.hok a _ h)
    obtain ⟨as, hr, hn⟩ := DqAll.reads I SM ha rv
    exact ⟨_, Reads.tuple ho hc hd hr, hn⟩
  | _, _, _, .dct (a := a) (kvs := kvs) (ds := ds) h ha, r => by
    cases r
    obtain ⟨_, _, vs, rel, o, es, ep, ho, ex, hd, _, pr, _⟩ := (show ObjOk X.prog X.w H s.heap a (.dK kvs) from I.hok a _ h)
    obtain ⟨bs, hr, hn⟩ := DqAll.reads I SM ha (vals_read pr rel)
    have le : (kvs.map fun p => kD p.1).length = ds.length := by
      have := ha.length
      rw [List.length_map] at this ⊢
      exact this
    refine ⟨_, Reads.dict ho ex.1 hd (as := []) (bs := bs) ?_ ?_, ?_⟩
    · rw [List.map_fst_zip (by omega)]
      exact keys_read pr rel
    · rw [List.map_snd_zip (by omega)]
      exact hr
    · intro z
      rcases List.mem_cons.mp z with z | z
      · exact not_sys I SM h z.symm
      · exact hn z
theorem DqAll.reads (I : Inv X pins σ H s) (SM : (X.base.get? sysModules).isSome = true) : ∀ {vs : List V} {ds : List PyData} {us : List Value}, DqAll X.K H vs ds → Vals vs us → ∃ as, ReadsAll s.heap us ds as ∧ sysModules ∉ as
  | _, _, _, .nil, r => by
    cases r
    exact ⟨_, ReadsAll.nil, by simp⟩
  | _, _, _, .cons h t, r => by
    cases r with
    | cons r1 r2 =>
      obtain ⟨as, q1, n1⟩ := Dq.reads I SM h r1
      obtain ⟨bs, q2, n2⟩ := DqAll.reads I SM t r2
      exact ⟨_, ReadsAll.cons q1 q2, by
        intro z
        rcases List.mem_append.mp z with z | z
        · exact n1 z
        · exact n2 z⟩
end
/-- repr(x) -/
def rRep (K : PySem.W.Frag) : List V → Hp → VK → Prop := fun xs H Q => ∃ (v : V) (d : PyData), xs = [v] ∧ Dq K H v d ∧ d.showable = true ∧ d.depth ≤ 20 ∧ d.shown.length ≤ sizeLine ∧ Q (.str d.shown) H
theorem call_repr (SM : (X.base.get? sysModules).isSome = true) (hg : X.A.guards = some []) (hu : X.A.units + 64 < cLine) : CallR X (.builtin "repr") (rRep X.K) := by
  intro pins s σ H xs us Q I r h
  obtain ⟨v, d, rfl, hd, sh, dp, sz, q⟩ := h
  cases r with
  | cons rx rr =>
    cases rr
    obtain ⟨as, hr, hn⟩ := hd.reads I SM rx
    have fin : ∀ h' u tk, (∀ b o, s.heap.get? b = some o → h'.get? b = some o) → EP X pins σ Q (.str d.shown u) { s with heap := h', toks := tk } := fun h' u tk k => ⟨.str d.shown, H, I.kept (t' := tk) k, ⟨u, rfl⟩, q⟩
    cases hd with
    | non =>
      cases rx
      exact PySem.P.repr_of_none (fin s.heap _ _ fun _ _ e => e)
    | bl b =>
      cases rx
      exact PySem.P.repr_of_bool (fin s.heap _ _ fun _ _ e => e)
    | int i =>
      obtain ⟨t, rfl⟩ := rx
      exact PySem.P.repr_of_int (of_decide_eq_true sh) (fin s.heap _ _ fun _ _ e => e)
    | str x =>
      obtain ⟨t, rfl⟩ := rx
      exact PySem.P.repr_of_str (fin s.heap _ _ fun _ _ e => e) sz
    | lst h1 h2 =>
      cases rx
      exact PySem.repr_of_reads' hr sh (fun _ => hn) hg (by omega) (fun _ _ e => e) fin sz
    | tup h1 h2 =>
      cases rx
      exact PySem.repr_of_reads' hr sh (fun _ => hn) hg (by omega) (fun _ _ e => e) fin sz
    | dct h1 h2 =>
      cases rx
      exact PySem.repr_of_reads' hr sh (fun _ => hn) hg (by omega) (fun _ _ e => e) fin sz
end
/-! ### defs that are called where no repr is under way -/
structure FnG (P : Program) (w : World) (K : PySem.W.Frag) (mg : Str → Option Value) (base : Heap) (CX : CXT) (k : Nat) (f : Addr) (fd : FuncData) (ps : List Str) (sp : Sp) : Prop where
  len : ∀ vs H Q E, sp vs H Q E → vs.length = ps.length
  run : ∀ (A : Around) (outer : List Env) (s : Shared) (H : Hp) (args : Args) (us : List Value) (vs : List V) (Q : VK) (E : XK), A.guards = some [] → Room k A → Env0 P w K mg base A outer s H → BindsTo s fd args (ps.zip us) → Vals vs us → sp vs H Q E →
    codeAny (model P w) A (.call (.ref f) args) (CR CX outer P w H s Q E) s
theorem FnG.of {P : Program} {w : World} {K : PySem.W.Frag} {mg : Str → Option Value} {base : Heap} {CX : CXT} {k : Nat} {f : Addr} {fd : FuncData} {ps : List Str} {sp : Sp} (F : FnOk P w K mg base CX k f fd ps sp) : FnG P w K mg base CX k f fd ps sp :=
  ⟨F.len, fun A outer s H args us vs Q E _ hr e0 hb rv q => F.run A outer s H args us vs Q E hr e0 hb rv q⟩
theorem okG {P : Program} {w : World} {K : PySem.W.Frag} {mg : Str → Option Value} {base : Heap} {x qual : Str} {st : Stmt} {f : Addr} {fd : FuncData} {N ps : List Str} {k : Nat} {sp : Sp} (F : Fun K x qual st f fd) (S : FnScope N ps (defScope st))
    (len : ∀ vs H Q E, sp vs H Q E → vs.length = ps.length)
    (body : ∀ (cdv : Value) (A : Around) (outer : List Env) (s : Shared) (H : Hp) (vs : List V) (Q : VK) (E : XK), A.guards = some [] → Room k (A.deeper (envOfC qual (defScope st) s.heap.objs.size f cdv)) → sp vs H Q E →
      ∃ t, PSs (cxOf CX0 P w K mg base N qual (defScope st) f cdv A outer s H E).nox (defBody st) t ∧ t { nx := fun _ H' => Q .non H', rt := Q } (start N vs) H) : FnG P w K mg base CX0 (k + 1) f fd ps sp := by
  obtain ⟨oc, od, kV, doc, pm, an, cdv, ct, osl, rfl, lk, hcd⟩ := F.ex
  refine ⟨len, fun A outer s H args us vs Q E hg hr e0 hb rv q => ?_⟩
  refine LamX.run_ofS lk hcd S hr e0 hb rv (len _ _ _ _ q) fun hr' => ?_
  obtain ⟨t, h1, h2⟩ := body cdv A outer s H vs Q E hg hr' q
  exact ⟨t, h1.nox, h2⟩
section
variable {X : Cx} {CX : CXT} {k : Nat} {f : Addr} {fd : FuncData} {ps : List Str} {sp : Sp} {E : XK} {x : Str} {p pos : Pos} {e : Expr} {es : List Expr} {t : TA}
theorem pe_callG (F : FnG X.prog X.w X.K X.mg X.base CX k f fd ps sp) (hG : X.A.guards = some []) (hr : Room k X.A) (hg : Gl X x) (hm : X.mg x = some (.ref f)) (hk : PySem.W.keepIn X.K (.ref f) = true) (hb : Binds X.K fd ps []) (hx : Passes CX X E)
    (ha : PA X (e :: es) t) (hdb : (x == ("__debug__" : Str)) = false := by decide) (he : starEach (e :: es) X.env = (false, eval e X.env) :: starEach es X.env := by rfl) (hpl : (backTo pos (starEach es X.env)).any (·.1) = false := by rfl) :
    PE X (.Call (.Name x p) (e :: es) [] pos) (tCall sp [] E t) := by
  refine ⟨fun pins s σ H Q I h => ?_⟩
  refine wpAny_Call_Name_kw (ld_glob I hg hm ?_ hdb)
  refine PySem.W.callWith_K (h₀ := X.base) I.ok.mod.kin hk (thn (ha.run pos pins s σ H _ I h) fun us s1 ⟨vs, H1, I1, r, q⟩ => ⟨I1.kIn, ?_⟩) he hpl
  have q : sp vs H1 Q E := by
    have z : sp (vs ++ []) H1 Q E := q
    rw [List.append_nil] at z
    exact z
  have hl : us.length = ps.length := r.length.symm.trans (F.len _ _ _ _ q)
  have hbt := hb s1 us I1.kIn (by rw [List.append_nil]; exact hl)
  rw [List.append_nil] at hbt
  refine wpAny_call (codeAny_mono (F.run X.A X.stack s1 H1 ⟨us, []⟩ us vs Q E hG hr I1.env0 hbt r q) fun r s' hq => ?_)
  cases r with
  | error e => exact hx pins σ H1 s1 e s' I1 hq
  | ok fl =>
    cases fl with
    | ret u => exact I1.after hq
    | next => exact False.elim hq
    | brk => exact False.elim hq
    | cont => exact False.elim hq
end
end RP

set_option maxHeartbeats 3900000
namespace R
open PySem PySem.Spec PyProof.Rows L2 TL RP
open C8 (pss_cut tCut pe_gc)
open CB OW
abbrev sCmp : Stmt := top 17
/-- what is told of a rule's own words -/
structure RM (P : Program) (w : World) (K : PySem.W.Frag) (mg : Str → Option Value) (base : Heap) (C CB : Addr) (ma : Str → Addr) (md : Str → FuncData) : Prop where
  bI : L2.Binds K (md "__init__") ["self", "sorts"] []
  gI : FnOk P w K mg base CX0 2 (ma "__init__") (md "__init__") ["self", "sorts"] (spIni C)
  gX : FnOk P w K mg base (CX P w) 4 (ma "__init__") (md "__init__") ["self", "sorts"] (spIniX C CB)
  bS : L2.Binds K (md "sorts") ["self"] []
  gS : FnOk P w K mg base CX0 1 (ma "sorts") (md "sorts") ["self"] (spSorts C)
  bK : L2.Binds K (md "keeps") ["self", "other"] []
  gK : FnOk P w K mg base CX0 1 (ma "keeps") (md "keeps") ["self", "other"] (spKeeps C)
  bO : L2.Binds K (md "__or__") ["self", "other"] []
  gO : FnOk P w K mg base CX0 4 (ma "__or__") (md "__or__") ["self", "other"] (spBin C fun ks ks2 z => decide (z ∈ ks) || decide (z ∈ ks2))
  bA : L2.Binds K (md "__and__") ["self", "other"] []
  gA : FnOk P w K mg base CX0 4 (ma "__and__") (md "__and__") ["self", "other"] (spBin C fun ks ks2 z => decide (z ∈ ks) && decide (z ∈ ks2))
  bV : L2.Binds K (md "__invert__") ["self"] []
  gV : FnOk P w K mg base CX0 4 (ma "__invert__") (md "__invert__") ["self"] (spInvt C)
  bT : L2.Binds K (md "__iter__") ["self"] []
  gT : FnS P w K mg base CX0 1 (ma "__iter__") (md "__iter__") ["self"] (spIt C K "kept")
  bL : L2.Binds K (md "__len__") ["self"] []
  gL : FnOk P w K mg base CX0 1 (ma "__len__") (md "__len__") ["self"] (spLen C)
  bC : L2.Binds K (md "__contains__") ["self", "x"] []
  gC : FnOk P w K mg base CX0 1 (ma "__contains__") (md "__contains__") ["self", "x"] (spCon C)
  bE : L2.Binds K (md "__eq__") ["self", "other"] []
  gE : FnOk P w K mg base CX0 1 (ma "__eq__") (md "__eq__") ["self", "other"] (spEq K C)
/-! data that may be shown -/
structure Fine (d : PyData) (dep n : Nat) : Prop where
  sh : d.showable = true
  dp : d.depth ≤ dep
  sz : d.shown.length ≤ n
theorem piled_le : ∀ (ts : List Str) (n : Nat), (∀ t ∈ ts, t.length ≤ n) → piled ts ≤ ts.length * (n + 2)
  | [], n, _ => by
    rw [piled_nil]
    omega
  | t :: r, n, h => by
    have ih := piled_le r n fun u hu => h u (List.mem_cons_of_mem _ hu)
    have h1 := h t List.mem_cons_self
    rw [piled_cons, List.length_cons, Nat.succ_mul]
    omega
theorem listText_le (ts : List Str) (n : Nat) (h : ∀ t ∈ ts, t.length ≤ n) : (listText ts).length ≤ 2 + ts.length * (n + 2) := by
  have pl := piled_le ts n h
  cases ts with
  | nil =>
    show 2 ≤ 2 + 0 * (n + 2)
    omega
  | cons t r =>
    have e : (listText (t :: r)).length = (textFrom 1 (("[" : Str) ++ (if 0 > 0 then ", " else "" : String) ++ t) r).length + 1 := by
      show ((textFrom 0 "[" (t :: r)) ++ ("]" : String)).length = _
      rw [strLen_append]
      rfl
    rw [e, textFrom_length_pos r 1 _ (by decide), strLen_append, strLen_append]
    rw [piled_cons] at pl
    have e1 : (("[" : String) : Str).length = 1 := rfl
    have e2 : (((if 0 > 0 then ", " else "" : String)) : Str).length = 0 := rfl
    rw [e1, e2]
    omega
theorem tupText_le (a b : Str) (n : Nat) (ha : a.length ≤ n) (hb : b.length ≤ n) : (tupleText [a, b]).length ≤ 2 * n + 6 := by
  unfold tupleText
  rw [strLen_append, strLen_append]
  have h := join_length_add [a, b] (by simp)
  rw [piled_cons, piled_cons, piled_nil] at h
  have e1 : ((("(" : String) : Str)).length = 1 := rfl
  have e3 : (((if [a, b].length == 1 then ",)" else ")" : String) : Str)).length = 1 := rfl
  rw [e1, e3]
  omega
theorem shown_mem : ∀ {ds : List PyData} {t : Str}, t ∈ PyData.shownAll ds → ∃ d ∈ ds, t = d.shown
  | [], t, h => by simp [PyData.shownAll] at h
  | d :: r, t, h => by
    simp only [PyData.shownAll] at h
    rcases List.mem_cons.mp h with rfl | h
    · exact ⟨d, List.mem_cons_self, rfl⟩
    · obtain ⟨e, he, q⟩ := shown_mem h
      exact ⟨e, List.mem_cons_of_mem _ he, q⟩
theorem shownAll_len : ∀ ds : List PyData, (PyData.shownAll ds).length = ds.length
  | [] => by simp [PyData.shownAll]
  | d :: r => by simp [PyData.shownAll, shownAll_len r]
theorem showAll : ∀ ds : List PyData, (∀ d ∈ ds, d.showable = true) → PyData.showableAll ds = true
  | [], _ => by simp [PyData.showableAll]
  | d :: r, h => by simp [PyData.showableAll, h d List.mem_cons_self, showAll r fun u hu => h u (List.mem_cons_of_mem _ hu)]
theorem depAll (n : Nat) : ∀ ds : List PyData, (∀ d ∈ ds, d.depth ≤ n) → PyData.depthAll ds ≤ n
  | [], _ => by simp [PyData.depthAll]
  | d :: r, h => by
    have h1 := h d List.mem_cons_self
    have h2 := depAll n r fun u hu => h u (List.mem_cons_of_mem _ hu)
    simp only [PyData.depthAll]
    omega
theorem Fine.lst {ds : List PyData} {dep n m : Nat} (h : ∀ d ∈ ds, Fine d dep n) (hm : 2 + ds.length * (n + 2) ≤ m) : Fine (.list ds) (dep + 1) m := by
  refine ⟨?_, ?_, ?_⟩
  · simp only [PyData.showable]
    exact showAll ds fun d hd => (h d hd).sh
  · simp only [PyData.depth]
    exact Nat.succ_le_succ (depAll dep ds fun d hd => (h d hd).dp)
  · simp only [PyData.shown]
    have q := listText_le (PyData.shownAll ds) n fun t ht => by
      obtain ⟨d, hd, rfl⟩ := shown_mem ht
      exact (h d hd).sz
    rw [shownAll_len] at q
    exact Nat.le_trans q hm
theorem Fine.pair {a b : PyData} {dep n : Nat} (ha : Fine a dep n) (hb : Fine b dep n) : Fine (.tuple [a, b]) (dep + 1) (2 * n + 6) := by
  refine ⟨?_, ?_, ?_⟩
  · simp only [PyData.showable]
    exact showAll [a, b] fun d hd => by
      rcases List.mem_cons.mp hd with rfl | hd
      · exact ha.sh
      · rw [List.mem_singleton.mp hd]; exact hb.sh
  · simp only [PyData.depth]
    exact Nat.succ_le_succ (depAll dep [a, b] fun d hd => by
      rcases List.mem_cons.mp hd with rfl | hd
      · exact ha.dp
      · rw [List.mem_singleton.mp hd]; exact hb.dp)
  · simp only [PyData.shown, PyData.shownAll]
    exact tupText_le _ _ n ha.sz hb.sz
theorem srt_fine : ∀ z ∈ srt, (reprText z).length ≤ 10 := by decide +kernel
theorem fine_srt {z : Str} (h : z ∈ srt) : Fine (.str z) 0 10 := ⟨by simp [PyData.showable], by simp [PyData.depth], by simp only [PyData.shown]; exact srt_fine z h⟩
theorem fine_bool (b : Bool) : Fine (.bool b) 0 10 := ⟨by simp [PyData.showable], by simp [PyData.depth], by cases b <;> (simp only [PyData.shown]; decide)⟩
def strL (l : List Str) : PyData := .list (l.map .str)
theorem fine_strL {l : List Str} (h : ∀ z ∈ l, z ∈ srt) (n : l.length ≤ 6) : Fine (strL l) 1 80 := by
  refine Fine.lst (n := 10) (fun d hd => ?_) (by rw [List.length_map]; omega)
  obtain ⟨z, hz, rfl⟩ := List.mem_map.mp hd
  exact fine_srt (h z hz)
theorem dq_strs {K : PySem.W.Frag} {H : Hp} : ∀ l : List Str, DqAll K H (l.map V.str) (l.map PyData.str)
  | [] => .nil
  | z :: r => .cons (.str z) (dq_strs r)
theorem dq_strL {K : PySem.W.Frag} {H : Hp} {a : Addr} {l : List Str} (h : H a = some (.lst (l.map V.str))) : Dq K H (.ref a) (strL l) := .lst h (dq_strs l)
theorem canon_len (ws : List Str) : (canon ws).length ≤ 6 := List.length_filter_le _ srt
theorem canon_sub (ws : List Str) : ∀ z ∈ canon ws, z ∈ srt := fun z hz => (List.mem_filter.mp hz).1
theorem canon_all {as bs : List Str} (ga : GoodS as) (gb : GoodS bs) : ((canon bs).all fun z => decide (z ∈ canon as)) = (bs.all (id ∘ fun z => decide (z ∈ as))) := by
  rw [Bool.eq_iff_iff, List.all_eq_true, List.all_eq_true]
  constructor
  · intro h z hz
    exact decide_eq_true ((mem_canon ga z).mp (of_decide_eq_true (h z ((mem_canon gb z).mpr hz))))
  · intro h z hz
    exact decide_eq_true ((mem_canon ga z).mpr (of_decide_eq_true (h z ((mem_canon gb z).mp hz))))
theorem canon_eq {as bs : List Str} (ga : GoodS as) (gb : GoodS bs) : decide (canon as = canon bs) = ((as.all (id ∘ fun z => decide (z ∈ bs))) && (bs.all (id ∘ fun z => decide (z ∈ as)))) := by
  rw [Bool.eq_iff_iff, decide_eq_true_iff, Bool.and_eq_true, List.all_eq_true, List.all_eq_true]
  constructor
  · intro e
    exact ⟨fun z hz => decide_eq_true ((mem_canon gb z).mp (e ▸ (mem_canon ga z).mpr hz)), fun z hz => decide_eq_true ((mem_canon ga z).mp (e ▸ (mem_canon gb z).mpr hz))⟩
  · rintro ⟨h1, h2⟩
    refine List.filter_congr fun z hz => ?_
    rw [Bool.eq_iff_iff, decide_eq_true_iff, decide_eq_true_iff]
    exact ⟨fun q => of_decide_eq_true (h1 z q), fun q => of_decide_eq_true (h2 z q)⟩
def spSame (K : PySem.W.Frag) : Sp := fun vs H Q _ => ∃ (v u : V) (d : PyData), vs = [v, u] ∧ Dq K H v d ∧ Dq K H u d ∧ Fine d 20 1000 ∧ Q (.bl true) H
theorem Fine.up {d : PyData} {a n b m : Nat} (h : Fine d a n) (h1 : a ≤ b) (h2 : n ≤ m) : Fine d b m := ⟨h.sh, Nat.le_trans h.dp h1, Nat.le_trans h.sz h2⟩
section
variable {P : Program} {w : World} {K : PySem.W.Frag} {mg : Str → Option Value} {base : Heap} {C CB fSa : Addr} {fdSa : FuncData} {ma : Str → Addr} {md : Str → FuncData}
theorem scSame : FnScope ["_law_found", "_law_due"] ["_law_found", "_law_due"] (defScope sSame) := ⟨rfl, rfl, rfl, by decide +kernel, rfl, by decide +kernel, by decide +kernel⟩
theorem ok_same {f : Addr} {fd : FuncData} (F : Fun K "_law_same" "_law_same" sSame f fd) (T : TB mg) (SM : (base.get? sysModules).isSome = true) : FnG P w K mg base CX0 1 f fd ["_law_found", "_law_due"] (spSame K) := by
  refine okG F scSame (fun vs H Q E h => ?_) (fun cdv A outer s H vs Q E hg hr h => ?_)
  · obtain ⟨v, u, d, rfl, _⟩ := h
    rfl
  · obtain ⟨v, u, d, rfl, h1, h2, fi, k⟩ := h
    have hu := hr.units
    have sz' : d.shown.length ≤ sizeLine := Nat.le_trans fi.sz (by decide)
    refine ⟨_, pss_one (ps_ret (pe_cmpR op_eq (pe_callB (call_repr SM hg hu) (by rfl) T.repr (by decide +kernel) (pa_cons (pv 0) pa_nil)) (pe_callB (call_repr SM hg hu) (by rfl) T.repr (by decide +kernel) (pa_cons (pv 1) pa_nil)) (nomark _))), ?_⟩
    refine ⟨_, rfl, v, d, rfl, h1, fi.sh, fi.dp, sz', _, rfl, u, d, rfl, h2, fi.sh, fi.dp, sz', rfl, ?_⟩
    show Q (.bl (decide (V.str d.shown = V.str d.shown))) H
    rw [decide_eq_true rfl]
    exact k
def spCmp (C : Addr) : Sp := fun vs H Q _ => ∃ (a b o1 o2 : Addr) (as bs : List Str), vs = [.ref a, .ref b, .ref o1, .ref o2] ∧ H a = some (.lst (as.map V.str)) ∧ H b = some (.lst (bs.map V.str)) ∧ GoodS as ∧ GoodS bs ∧ RuleAt C H o1 (canon as) ∧ RuleAt C H o2 (canon bs) ∧
  ∀ H', Same H H' → Q (.bl true) H'
theorem scCmp : FnScope ["_law_a", "_law_b", "_law_one", "_law_two", "_law_less", "_law_more", "_law_told", "_law_word"] ["_law_a", "_law_b", "_law_one", "_law_two"] (defScope sCmp) := ⟨rfl, rfl, rfl, by decide +kernel, rfl, by decide +kernel, by decide +kernel⟩
theorem ok_cmp {f : Addr} {fd : FuncData} (F : Fun K "_law_compared" "_law_compared" sCmp f fd) (T : TB mg) (R : RCl K mg C ma) (M : RM P w K mg base C CB ma md) (aSa : At K mg "_law_same" fSa fdSa ["_law_found", "_law_due"]) (GSa : FnG P w K mg base CX0 1 fSa fdSa ["_law_found", "_law_due"] (spSame K)) :
    FnG P w K mg base CX0 4 f fd ["_law_a", "_law_b", "_law_one", "_law_two"] (spCmp C) := by
  refine okG F scCmp (fun vs H Q E h => ?_) (fun cdv A outer s H vs Q E hg hr h => ?_)
  · obtain ⟨a, b, o1, o2, as, bs, rfl, _⟩ := h
    rfl
  · obtain ⟨a, b, o1, o2, as, bs, rfl, ha, hb, ga, gb, r1, r2, k⟩ := h
    have hu := hr.units
    have hu0 := hr.units0
    have hu2 := Nat.lt_of_le_of_lt (Nat.add_le_add_left (show 1 ≤ 64 by decide) _) hr.units
    refine ⟨_, pss_cons (ps_par (i := 4) (j := 5) (by rfl) scCmp.nd rfl rfl (by decide) rfl rfl (pa_cons (pe_callB (cr_all rfl) (by rfl) T.all boot_all (pa_cons (pe_lc (own := [("_law_word", 7)]) (g := gName 7) (tt := tYes) rfl scCmp.nd (pi_list (pv 0)) (blkOk_by (own := [("_law_word", 7)]) (N := ["_law_a", "_law_b", "_law_one", "_law_two", "_law_less", "_law_more", "_law_told", "_law_word"]) (sc := defScope sCmp) (by decide +kernel)) (fun _ _ _ _ _ => (pg_name (i := 7) scCmp.nd rfl (Or.inl rfl))) (fun _ _ _ _ _ => pts_nil) (fun _ _ _ _ _ => (by exact (pe_cmpR (in_seqK (K0 := K) rfl) (pv 7) (pv 1) (by rfl))))) pa_nil)) (pa_cons (pe_callB (cr_all rfl) (by rfl) T.all boot_all (pa_cons (pe_lc (own := [("_law_word", 7)]) (g := gName 7) (tt := tYes) rfl scCmp.nd (pi_list (pv 1)) (blkOk_by (own := [("_law_word", 7)]) (N := ["_law_a", "_law_b", "_law_one", "_law_two", "_law_less", "_law_more", "_law_told", "_law_word"]) (sc := defScope sCmp) (by decide +kernel)) (fun _ _ _ _ _ => (pg_name (i := 7) scCmp.nd rfl (Or.inl rfl))) (fun _ _ _ _ _ => pts_nil) (fun _ _ _ _ _ => (by exact (pe_cmpR (in_seqK (K0 := K) rfl) (pv 7) (pv 0) (by rfl))))) pa_nil)) pa_nil)) (by rfl))
            (pss_cons (ps_set (i := 6) scCmp.nd rfl (Or.inl rfl) (pe_lst (pa_cons (pe_meth (pv 2) R.cl (R.me "keeps" (by decide +kernel)) M.gK (hr.mono (by decide)) M.bK .nil pass0 (pa_cons (pv 3) pa_nil)) (pa_cons (pe_meth (pv 3) R.cl (R.me "keeps" (by decide +kernel)) M.gK (hr.mono (by decide)) M.bK .nil pass0 (pa_cons (pv 2) pa_nil)) (pa_cons (pe_cmpR (op_eqO M.gE (hr.mono (by decide)) hu0 M.bE pass0 (R.me "__eq__" (by decide +kernel))) (pv 2) (pv 3) (nomark _)) (pa_cons (pe_cmpR (op_neO M.gE (hr.mono (by decide)) hu2 M.bE pass0 (R.me "__eq__" (by decide +kernel)) R.ne R.so) (pv 2) (pv 3) (nomark _)) pa_nil))))))
            (pss_one (ps_ret (pe_callG GSa hg (hr.mono (by decide)) rfl aSa.m aSa.k aSa.b pass0 (pa_cons (pv 6) (pa_cons (pe_lst (pa_cons (pv 5) (pa_cons (pv 4) (pa_cons (pe_and (pv 4) (pe_one (pv 5))) (pa_cons (pe_not (pe_and (pv 4) (pe_one (pv 5)))) pa_nil))))) pa_nil)))))), ?_⟩
    have la := ga.len
    have lb := gb.len
    refine ⟨_, rfl, a, rfl, ⟨_, SqL.of ha⟩, fun D hD => ?_⟩
    refine lc_mapL as V.str (fun z => .bl (decide (z ∈ bs))) (by omega) hD (SqL.of ha) (fun z hz H2 s2 Q1 k1 => ⟨_, rfl, _, rfl, in_row ⟨b, rfl, .inr (s2 _ _ hb)⟩ (k1 H2 (Same.refl H2))⟩) (fun H1 s1 hD1 => ?_)
    refine ⟨D, as.map fun z => decide (z ∈ bs), rfl, SqL.of (by rw [hD1, List.map_map]; rfl), ?_⟩
    refine ⟨_, rfl, b, rfl, ⟨_, SqL.of (s1 _ _ hb)⟩, fun D2 hD2 => ?_⟩
    refine lc_mapL bs V.str (fun z => .bl (decide (z ∈ as))) (by omega) hD2 (SqL.of (s1 _ _ hb)) (fun z hz H2 s2 Q1 k1 => ⟨_, rfl, _, rfl, in_row ⟨a, rfl, .inr ((s1.trans s2) _ _ ha)⟩ (k1 H2 (Same.refl H2))⟩) (fun H2 s2 hD2 => ?_)
    refine ⟨D2, bs.map fun z => decide (z ∈ as), rfl, SqL.of (by rw [hD2, List.map_map]; rfl), ?_⟩
    rw [List.all_map, List.all_map]
    have s12 := s1.trans s2
    have q1 := r1.up s12
    have q2 := r2.up s12
    have em : ((canon bs).all fun z => decide (z ∈ canon as)) = (bs.all (id ∘ fun z => decide (z ∈ as))) := canon_all ga gb
    have el : ((canon as).all fun z => decide (z ∈ canon bs)) = (as.all (id ∘ fun z => decide (z ∈ bs))) := canon_all gb ga
    have ee : decide (canon as = canon bs) = ((as.all (id ∘ fun z => decide (z ∈ bs))) && (bs.all (id ∘ fun z => decide (z ∈ as)))) := canon_eq ga gb
    generalize (as.all (id ∘ fun z => decide (z ∈ bs))) = less at el ee ⊢
    generalize (bs.all (id ∘ fun z => decide (z ∈ as))) = more at em ee ⊢
    obtain ⟨dx1, p1, g1, g1'⟩ := q1
    obtain ⟨dx2, p2, g2, g2'⟩ := q2
    have q1 : RuleAt C H2 o1 (canon as) := ⟨dx1, p1, g1, g1'⟩
    have q2 : RuleAt C H2 o2 (canon bs) := ⟨dx2, p2, g2, g2'⟩
    have na := canon_len as
    have nb := canon_len bs
    refine ⟨_, _, rfl, _, rfl, o1, dx1, _, rfl, g1, lk_not (by decide +kernel), _, rfl, o1, o2, canon as, canon bs, rfl, q1, q2, by omega, fun H3 s3 => ?_⟩
    rw [em]
    refine ⟨_, rfl, o2, dx2, _, rfl, s3 _ _ g2, lk_not (by decide +kernel), _, rfl, o2, o1, canon bs, canon as, rfl, q2.up s3, q1.up s3, by omega, fun H4 s4 => ?_⟩
    rw [el]
    have s34 := s3.trans s4
    refine ⟨_, rfl, _, rfl, o1, dx1, _, .ref C, rfl, s34 _ _ g1, .base (.ins (s34 _ _ g2) R.cl R.ha R.hn R.ht R.hm), R.nC, o1, _, canon as, rfl, q1.up s34, by omega, canon_sub as, .inl ⟨o2, canon bs, rfl, q2.up s34, by omega, canon_sub bs, ?_⟩⟩
    rw [ee]
    refine ⟨_, rfl, _, rfl, o1, o2, dx1, dx2, _, _, rfl, rfl, s34 _ _ g1, s34 _ _ g2, o1, _, canon as, rfl, q1.up s34, by omega, canon_sub as, .inl ⟨o2, canon bs, rfl, q2.up s34, by omega, canon_sub bs, _, rfl, ?_⟩⟩
    rw [ee]
    refine ⟨by show 4 ≤ sizeLine; decide, fun p hp => ?_⟩
    have sp := same_mk (o := .lst [.bl more, .bl less, .bl (less && more), .bl (!(less && more))]) hp
    have s14 := s12.trans (s34.trans sp)
    have fin : ∀ q H5, upd H4 p (.lst [.bl more, .bl less, .bl (less && more), .bl (!(less && more))]) q = none → H5 = upd (upd H4 p (.lst [.bl more, .bl less, .bl (less && more), .bl (!(less && more))])) q (.lst [.bl more, .bl less, .bl (less && more), .bl (!(less && more))]) →
        spSame K [.ref p, .ref q] H5 Q E0 := fun q H5 hq e5 => by
      subst e5
      have sq := same_mk (o := .lst [.bl more, .bl less, .bl (less && more), .bl (!(less && more))]) hq
      have al : ∀ H' : Hp, DqAll K H' [.bl more, .bl less, .bl (less && more), .bl (!(less && more))] [.bool more, .bool less, .bool (less && more), .bool (!(less && more))] := fun _ => .cons (.bl _) (.cons (.bl _) (.cons (.bl _) (.cons (.bl _) .nil)))
      refine ⟨_, _, _, rfl, .lst (sq _ _ upd_same) (al _), .lst upd_same (al _), (Fine.lst (n := 10) (m := 1000) (dep := 0) (fun d hd => ?_) (by show 2 + 4 * 12 ≤ 1000; decide)).up (by decide) (Nat.le_refl _), k _ (s14.trans sq)⟩
      simp only [List.mem_cons, List.not_mem_nil, or_false] at hd
      rcases hd with rfl | rfl | rfl | rfl <;> exact fine_bool _
    refine ⟨_, rfl, _, rfl, _, rfl, ?_⟩
    cases less with
    | false => exact ⟨_, rfl, false, rfl, iteF ⟨_, rfl, false, rfl, iteF ⟨_, rfl, by show 4 ≤ sizeLine; decide, fun q hq => fin q _ hq rfl⟩⟩⟩
    | true => exact ⟨_, rfl, true, rfl, iteT ⟨_, rfl, _, rfl, true, rfl, iteT ⟨_, rfl, _, rfl, by show 4 ≤ sizeLine; decide, fun q hq => fin q _ hq rfl⟩⟩⟩
end
end R

set_option maxHeartbeats 3900000
/-! a text beside things of other kinds, a dict among them: in, not in -/
namespace MX
open PySem PySem.Spec PyProof.Rows L2 SeqAt
theorem dict_declines_str (l : Addr) (es : Array DictEntry) (n : Nat) (dd : Option Addr) (sl : Array (Option Value)) (b : Str) (u : Tok) :
    Meets (Builtin.«dict.__eq__» ⟨[.ref l, .str b u], []⟩) (fun _ R s => s.heap.get? l = some { cls := .type "dict", dict := dd, data := .dict es n, slots := sl } ∧ R (.ok (.ret .notImplemented)) s) :=
  .of_wp fun prog w A R s h => by
    obtain ⟨hp, g, d, tk, os⟩ := s
    obtain ⟨hl, h⟩ := h
    have f1 := PySem.F.sub_str_dict
    wp_walk using wpAny_loadPart' hl, wpAny_load hl
    exact ⟨_, rfl, h⟩
theorem str_declines_dict (b : Str) (u : Tok) (l : Addr) (es : Array DictEntry) (n : Nat) (dd : Option Addr) (sl : Array (Option Value)) :
    Meets (Builtin.«str.__eq__» ⟨[.str b u, .ref l], []⟩) (fun _ R s => s.heap.get? l = some { cls := .type "dict", dict := dd, data := .dict es n, slots := sl } ∧ R (.ok (.ret .notImplemented)) s) :=
  .of_wp fun prog w A R s h => by
    obtain ⟨hp, g, d, tk, os⟩ := s
    obtain ⟨hl, h⟩ := h
    have f1 := PySem.F.sub_dict_str
    wp_walk using wpAny_loadPart' hl, wpAny_load hl
    exact ⟨_, rfl, h⟩
section
variable {A : Around} {s : Shared} {l : Addr} {es : Array DictEntry} {n : Nat} {dd : Option Addr} {sl : Array (Option Value)}
theorem rc_dict_str (b : Str) (u : Tok) (ho : s.heap.get? l = some { cls := .type "dict", dict := dd, data := .dict es n, slots := sl }) (hu : A.units < cLine) : RcAt A s (.ref l) (.str b u) false := fun prog w E Q h =>
  rc_eq_decline_or (k := false) ⟨_, ho, rfl⟩ (typeIs_str s b u) (by decide) PySem.F.sub_str_dict PySem.F.slot_dict_eq PySem.F.slot_str_eq_refl
    (fun _ hq => call_meets PySem.F.slot_dict_eq ⟨_, ho, rfl⟩ PySem.F.entry_dict_eq (PySem.F.args_dict_eq_2 _ _) (dict_declines_str l es n dd sl b u) ⟨ho, hq⟩)
    (fun _ hq => call_meets PySem.F.slot_str_eq_refl (typeIs_str s b u) PySem.F.entry_str_eq (PySem.F.args_str_eq_2 _ _) (str_declines_dict b u l es n dd sl) ⟨ho, hq⟩)
    (fun _ hq => wpAny_of_eq (rfl : isSame (.ref l) (.str b u) = pure false) hq) (.inr hu) h
theorem rc_str_dict (b : Str) (u : Tok) (ho : s.heap.get? l = some { cls := .type "dict", dict := dd, data := .dict es n, slots := sl }) (hu : A.units < cLine) : RcAt A s (.str b u) (.ref l) false := fun prog w E Q h =>
  rc_eq_decline_or (k := false) (typeIs_str s b u) ⟨_, ho, rfl⟩ (by decide) PySem.F.sub_dict_str PySem.F.slot_str_eq PySem.F.slot_dict_eq_refl
    (fun _ hq => call_meets PySem.F.slot_str_eq (typeIs_str s b u) PySem.F.entry_str_eq (PySem.F.args_str_eq_2 _ _) (str_declines_dict b u l es n dd sl) ⟨ho, hq⟩)
    (fun _ hq => call_meets PySem.F.slot_dict_eq_refl ⟨_, ho, rfl⟩ PySem.F.entry_dict_eq (PySem.F.args_dict_eq_2 _ _) (dict_declines_str l es n dd sl b u) ⟨ho, hq⟩)
    (fun _ hq => wpAny_of_eq (rfl : isSame (.str b u) (.ref l) = pure false) hq) (.inr hu) h
theorem eq_dict_str (b : Str) (u : Tok) (ho : s.heap.get? l = some { cls := .type "dict", dict := dd, data := .dict es n, slots := sl }) (hu : A.units < cLine) : EqAt A s (.ref l) (.str b u) false := fun prog w E Q h => by
  unfold eqBool
  refine wpAny_holding (wpAny_ite_split (fun hab => absurd (eq_of_beq hab) nofun) fun _ => ?_)
  exact wpAny_bind (rc_dict_str b u ho hu prog w E _ (wpAny_truthy_bool h))
theorem eq_str_dict (b : Str) (u : Tok) (ho : s.heap.get? l = some { cls := .type "dict", dict := dd, data := .dict es n, slots := sl }) (hu : A.units < cLine) : EqAt A s (.str b u) (.ref l) false := fun prog w E Q h => by
  unfold eqBool
  refine wpAny_holding (wpAny_ite_split (fun hab => absurd (eq_of_beq hab) nofun) fun _ => ?_)
  exact wpAny_bind (rc_str_dict b u ho hu prog w E _ (wpAny_truthy_bool h))
end
/-- whether y == x, one of the two a text -/
inductive StrEq (K : PySem.W.Frag) (H : Hp) : V → V → Bool → Prop
  | str (a b : Str) : StrEq K H (.str a) (.str b) (a == b)
  | nonL (b : Str) : StrEq K H .non (.str b) false
  | nonR (b : Str) : StrEq K H (.str b) .non false
  | intL (i : Int) (b : Str) : StrEq K H (.int i) (.str b) false
  | intR (i : Int) (b : Str) : StrEq K H (.str b) (.int i) false
  | blL (i : Bool) (b : Str) : StrEq K H (.bl i) (.str b) false
  | blR (i : Bool) (b : Str) : StrEq K H (.str b) (.bl i) false
  | lstL {a : Addr} {xs : List V} (h : SqL K H a xs) (b : Str) : StrEq K H (.ref a) (.str b) false
  | lstR {a : Addr} {xs : List V} (h : SqL K H a xs) (b : Str) : StrEq K H (.str b) (.ref a) false
  | tupL {a : Addr} {xs : List V} (h : SqT K H a xs) (b : Str) : StrEq K H (.ref a) (.str b) false
  | tupR {a : Addr} {xs : List V} (h : SqT K H a xs) (b : Str) : StrEq K H (.str b) (.ref a) false
  | dctL {a : Addr} {kvs : List (L2.Key × V)} (h : H a = some (.dK kvs)) (b : Str) : StrEq K H (.ref a) (.str b) false
  | dctR {a : Addr} {kvs : List (L2.Key × V)} (h : H a = some (.dK kvs)) (b : Str) : StrEq K H (.str b) (.ref a) false
section
variable {X : Cx} {pins : List (Addr × Obj)} {σ : L2.St} {H : Hp} {s : Shared} {x y : V} {u v : Value} {b : Bool} {A : Around}
theorem dict_at {a : Addr} {kvs : List (L2.Key × V)} (I : Inv X pins σ H s) (h : H a = some (.dK kvs)) : ∃ es n dd sl, s.heap.get? a = some { cls := .type "dict", dict := dd, data := .dict es n, slots := sl } := by
  obtain ⟨_, _, vs, _, ⟨c, dd, dt, sl⟩, es, ep, ho, he, hd, _⟩ := dk_of I.hok h
  obtain ⟨hc, _⟩ := he
  simp only at hc hd
  exact ⟨es, ep, dd, sl, by rw [ho, hc, hd]⟩
/-- the value y (u) beside x (v): eqBool u v -/
theorem strEq_at (I : Inv X pins σ H s) (hu : A.units < cLine) (d : StrEq X.K H y x b) (ry : RelV y u) (rx : RelV x v) : EqAt A s u v b := by
  cases d with
  | str a c => obtain ⟨t, rfl⟩ := ry; obtain ⟨t', rfl⟩ := rx; exact EqAt.str_str a t c t'
  | nonL c => cases ry; obtain ⟨t', rfl⟩ := rx; exact EqAt.none_str c t'
  | nonR c => cases rx; obtain ⟨t', rfl⟩ := ry; exact EqAt.str_none c t'
  | intL i c => obtain ⟨t, rfl⟩ := ry; obtain ⟨t', rfl⟩ := rx; exact EqAt.int_str i t c t'
  | intR i c => obtain ⟨t, rfl⟩ := ry; obtain ⟨t', rfl⟩ := rx; exact EqAt.str_int c t i t'
  | blL i c => cases ry; obtain ⟨t', rfl⟩ := rx; exact EqAt.bool_str i c t'
  | blR i c => cases rx; obtain ⟨t', rfl⟩ := ry; exact EqAt.str_bool c t' i
  | lstL h c => cases ry; obtain ⟨t', rfl⟩ := rx; obtain ⟨its, rv, pl, hz⟩ := I.list h; exact EqAt.list_str c t' pl.isList hu
  | lstR h c => cases rx; obtain ⟨t', rfl⟩ := ry; obtain ⟨its, rv, pl, hz⟩ := I.list h; exact EqAt.str_list c t' pl.isList hu
  | tupL h c => cases ry; obtain ⟨t', rfl⟩ := rx; obtain ⟨its, rv, pl, hz⟩ := I.tuple h; exact EqAt.tuple_str c t' pl hu
  | tupR h c => cases rx; obtain ⟨t', rfl⟩ := ry; obtain ⟨its, rv, pl, hz⟩ := I.tuple h; exact EqAt.str_tuple c t' pl hu
  | dctL h c => cases ry; obtain ⟨t', rfl⟩ := rx; obtain ⟨es, n, dd, sl, ho⟩ := dict_at I h; exact eq_dict_str c t' ho hu
  | dctR h c => cases rx; obtain ⟨t', rfl⟩ := ry; obtain ⟨es, n, dd, sl, ho⟩ := dict_at I h; exact eq_str_dict c t' ho hu
end
/-- x in a list, the equalities known one by one -/
def rInMix (K : PySem.W.Frag) (neg : Bool) : R2 := fun x y H Q => ∃ a xs, ∃ e : V → Bool, y = .ref a ∧ SqL K H a xs ∧ (∀ z ∈ xs, StrEq K H z x (e z)) ∧ Q (.bl (if neg = true then !xs.any e else xs.any e)) H
section
variable {X : Cx}
theorem mix_items {pins : List (Addr × Obj)} {σ : L2.St} {H : Hp} {s : Shared} {x : V} {v : Value} {e : V → Bool} {A : Around} (I : Inv X pins σ H s) (hu : A.units < cLine) (rx : RelV x v) : ∀ {xs : List V} {its : List Value}, Vals xs its → (∀ z ∈ xs, StrEq X.K H z x (e z)) →
    (∀ u ∈ its, EqAt A s u v (match absV u with | some z => e z | none => false)) ∧ its.any (fun u => match absV u with | some z => e z | none => false) = xs.any e := by
  intro xs its r
  induction r with
  | nil => exact fun _ => ⟨(fun u hu => by cases hu), rfl⟩
  | cons rz rt ih =>
    rename_i z u xs its
    intro h
    obtain ⟨h1, h2⟩ := ih fun z hz => h z (List.mem_cons_of_mem _ hz)
    have e1 := RelV.abs rz
    refine ⟨fun w hw => ?_, ?_⟩
    · rcases List.mem_cons.mp hw with q | q
      · rw [q, e1]
        exact strEq_at I hu (h z (List.mem_cons_self ..)) rz rx
      · exact h1 w q
    · rw [List.any_cons, List.any_cons, h2, e1]
theorem op_inMix (hu : X.A.units + 1 < cLine) : OpR X (compareOp .In) (rInMix X.K false) := by
  intro pins s σ H x y v u Q I rx ry h
  obtain ⟨a, xs, e, rfl, hl, he, q⟩ := h
  cases ry
  obtain ⟨its, rv, pl, hz⟩ := I.list hl
  obtain ⟨h1, h2⟩ := mix_items (A := X.A.in1) I (by have : X.A.in1.units = X.A.units + 1 := rfl; omega) rx rv he
  refine in_listAt _ pl.isList (fun w hw => h1 w (by simpa using hw)) ⟨.bl _, H, I, rfl, ?_⟩
  rw [List.any_toArray, h2]
  exact q
theorem op_notInMix (hu : X.A.units + 1 < cLine) : OpR X (compareOp .NotIn) (rInMix X.K true) := by
  intro pins s σ H x y v u Q I rx ry h
  obtain ⟨a, xs, e, rfl, hl, he, q⟩ := h
  cases ry
  obtain ⟨its, rv, pl, hz⟩ := I.list hl
  obtain ⟨h1, h2⟩ := mix_items (A := X.A.in1) I (by have : X.A.in1.units = X.A.units + 1 := rfl; omega) rx rv he
  refine notIn_listAt _ pl.isList (fun w hw => h1 w (by simpa using hw)) ⟨.bl _, H, I, rfl, ?_⟩
  rw [List.any_toArray, h2]
  exact q
end
end MX

set_option maxHeartbeats 3900000
namespace R
open PySem PySem.Spec PyProof.Rows L2 TL RP
open C8 (pss_cut tCut pe_gc)
open CB OW MX
abbrev sLaw : Stmt := top 18
/-! a block, statement by statement -/
def Step (X : Cx) (st : Stmt) (A B : L2.St → Hp → Prop) : Prop := ∃ t, PS X st t ∧ ∀ (D : Ends) σ H, A σ H → (∀ σ' H', B σ' H' → D.nx σ' H') → t D σ H
def Steps (X : Cx) (ss : List Stmt) (A B : L2.St → Hp → Prop) : Prop := ∃ t, PSs X ss t ∧ ∀ (D : Ends) σ H, A σ H → (∀ σ' H', B σ' H' → D.nx σ' H') → t D σ H
theorem steps_cons {X : Cx} {st : Stmt} {ss : List Stmt} {A B C : L2.St → Hp → Prop} (h : Step X st A B) (r : Steps X ss B C) : Steps X (st :: ss) A C := by
  obtain ⟨t, p, q⟩ := h
  obtain ⟨u, p2, q2⟩ := r
  exact ⟨_, pss_cut p p2, fun D σ H a k => ⟨B, q _ σ H a fun _ _ b => b, fun σ' H' b => q2 D σ' H' b k⟩⟩
theorem steps_one {X : Cx} {st : Stmt} {A B : L2.St → Hp → Prop} (h : Step X st A B) : Steps X [st] A B := by
  obtain ⟨t, p, q⟩ := h
  exact ⟨_, pss_one p, fun D σ H a k => q D σ H a k⟩
theorem step_mono {X : Cx} {st : Stmt} {A B B' : L2.St → Hp → Prop} (h : Step X st A B) (m : ∀ σ H, B σ H → B' σ H) : Step X st A B' := by
  obtain ⟨t, p, q⟩ := h
  exact ⟨t, p, fun D σ H a k => q D σ H a fun σ' H' b => k σ' H' (m σ' H' b)⟩
/-! xs != [] -/
def rNeNil (K : PySem.W.Frag) : R2 := fun x y H Q => ∃ a b xs, x = .ref a ∧ y = .ref b ∧ SqL K H a xs ∧ SqL K H b [] ∧ Q (.bl (!xs.isEmpty)) H
theorem op_neNil {X : Cx} (hu : X.A.units < cLine) : OpR X (compareOp .NotEq) (rNeNil X.K) := by
  intro pins s σ H x y v u Q I rx ry h
  obtain ⟨a, b, xs, rfl, rfl, ha, hb, q⟩ := h
  cases rx
  cases ry
  obtain ⟨its, rv, pl, hz⟩ := I.list ha
  obtain ⟨its2, rv2, pl2, hz2⟩ := I.list hb
  cases rv2
  cases xs with
  | nil =>
    cases rv
    have r := SeqAt.RcNeAt.lists (A := X.A) (e := fun _ => true) pl.isList pl2.isList rfl hu (fun j h1 h2 => absurd h1 (by simp))
    exact r X.prog X.w X.xe _ ⟨.bl _, H, I, rfl, q⟩
  | cons z zs =>
    cases rv with
    | cons rz rr =>
      have r := SeqAt.RcNeAt.lists_lengths (A := X.A) pl.isList pl2.isList (by simp) hu
      exact r X.prog X.w X.xe _ ⟨.bl _, H, I, rfl, q⟩
section
variable {X : Cx} {K0 : PySem.W.Frag}
theorem inMixK (hK : X.K = K0) (hu : X.A.units + 1 < cLine) : OpR X (compareOp .In) (rInMix K0 false) := by
  subst hK
  exact op_inMix hu
theorem notInMixK (hK : X.K = K0) (hu : X.A.units + 1 < cLine) : OpR X (compareOp .NotIn) (rInMix K0 true) := by
  subst hK
  exact op_notInMix hu
end
/-! [x for k, x in enumerate(xs) if p k] -/
section
variable {K : PySem.W.Frag} {a D : Addr} {H1 : Hp} {σ : L2.St} {tt : TT} {te : TE} {Qd : Hp → Prop} {jk jw : Nat}
def pick (xs : List V) (p : Nat → Bool) (n : Nat) : List V := ((List.range n).filter p).map fun i => xs.getD i .non
theorem filt1 (p : Nat → Bool) (n : Nat) : [n].filter p = if p n = true then [n] else [] := by
  cases h : p n <;> simp [List.filter, h]
theorem pick_succ (xs : List V) (p : Nat → Bool) (n : Nat) : pick xs p (n + 1) = pick xs p n ++ (if p n = true then [xs.getD n .non] else []) := by
  unfold pick
  rw [List.range_succ, List.filter_append, List.map_append]
  congr 1
  cases h : p n <;> simp [h]
theorem pick_len (xs : List V) (p : Nat → Bool) (n : Nat) : (pick xs p n).length ≤ n := by
  unfold pick
  rw [List.length_map]
  exact Nat.le_trans (List.length_filter_le _ _) (by rw [List.length_range]; exact Nat.le_refl _)
theorem lcE (xs : List V) (p : Nat → Bool) (hs : xs.length < 1000000) (hD : H1 D = none) (ha : SqL K H1 a xs) (hw : ∀ x y, wipe (((wipe σ [jk, jw]).set jk (some x)).set jw (some y)) [jk, jw] = wipe σ [jk, jw])
    (test : ∀ (i : Nat) (x : V) (H2 : Hp), xs[i]? = some x → Same H1 H2 → ∀ Q1 : Bool → Hp → Prop, (∀ H3, Same H2 H3 → Q1 (p i) H3) → tt (((wipe σ [jk, jw]).set jk (some (.int (i : Nat)))).set jw (some x)) H2 Q1)
    (elt : ∀ (i : Nat) (x : V) (H2 : Hp) (Q1 : VK), xs[i]? = some x → Q1 x H2 → te (((wipe σ [jk, jw]).set jk (some (.int (i : Nat)))).set jw (some x)) H2 Q1)
    (hd : ∀ H', Same H1 H' → H' D = some (.lst (pick xs p xs.length)) → Qd H') :
    ∃ W : Nat → Nat → Hp → Prop, (∃ m, W 0 m (upd H1 D (.lst []))) ∧ ∀ i m H, W i m H →
      ((Ite K a).stop i H ∧ Qd H) ∨ ((Ite K a).go i H ∧ ∃ Nx : Hp → Prop, (∀ H', Nx H' → ∃ m', m' < m ∧ W (i + 1) m' H') ∧ ∀ x H', (Ite K a).yld i H x H' → gTup K 2 (gCons (gName jk) (gCons (gName jw) gNil)) x (wipe σ [jk, jw]) H' fun σ2 H2 => wipe σ2 [jk, jw] = wipe σ [jk, jw] ∧ tt σ2 H2 fun b H3 =>
        if b = true then te σ2 H3 fun y H4 => ∃ acc, H4 D = some (.lst acc) ∧ acc.length < sizeLine ∧ Nx (upd H4 D (.lst (acc ++ [y]))) else Nx H3) := by
  refine lc_it (walk_enum (K := K) (a := a) (xs := xs)) (fun i H' => Same H1 H' ∧ H' D = some (.lst (pick xs p i))) ⟨same_mk hD, upd_same⟩ (fun i H' _ q => q.1.seq ha) ?_ ?_
  · rintro i v H2 H3 hi ⟨s2, hd2⟩ ⟨T, x0, x, rfl, hT, rfl, h0, hx⟩
    cases h0
    have sT := same_mk (o := .tup [.int (i : Nat), x]) hT
    have hx : xs[i]? = some x := hx
    have hgd : xs.getD i .non = x := by
      rw [List.getD_eq_getElem?_getD, hx]
      rfl
    refine ⟨T, _, rfl, SqT.of upd_same, rfl, _, _, rfl, _, _, rfl, rfl, hw _ _, test i x _ hx (s2.trans sT) _ fun H4 s4 => ?_⟩
    have hd4 := s4 _ _ (sT _ _ hd2)
    cases hp : p i with
    | true =>
      refine iteT (elt i x _ _ hx ⟨_, hd4, ?_, same_ch ((s2.trans sT).trans s4) hD, ?_⟩)
      · exact Nat.lt_of_le_of_lt (pick_len xs p i) (Nat.lt_of_lt_of_le (show i < 1000000 by omega) (by decide))
      · rw [upd_same, pick_succ, if_pos hp, hgd]
    | false =>
      refine iteF ⟨(s2.trans sT).trans s4, ?_⟩
      rw [pick_succ, if_neg (by rw [hp]; decide), List.append_nil]
      exact hd4
  · rintro H' ⟨s, h⟩
    exact hd H' s h
end
/-- each but what stood before -/
def firsts (bs : List Str) (n : Nat) : List Str := ((List.range n).filter fun i => decide (bs.getD i "" ∉ bs.take i)).map fun i => bs.getD i ""
theorem firsts_succ (bs : List Str) (n : Nat) : firsts bs (n + 1) = firsts bs n ++ (if bs.getD n "" ∉ bs.take n then [bs.getD n ""] else []) := by
  unfold firsts
  rw [List.range_succ, List.filter_append, List.map_append]
  congr 1
  by_cases h : bs.getD n "" ∉ bs.take n
  · rw [if_pos h, filt1, if_pos (decide_eq_true h)]
    rfl
  · rw [if_neg h, filt1, if_neg (fun q => h (of_decide_eq_true q))]
    rfl
theorem firsts_mem (bs : List Str) : ∀ n ≤ bs.length, ∀ z, z ∈ firsts bs n ↔ z ∈ bs.take n
  | 0, _, z => by simp [firsts]
  | n + 1, hn, z => by
    have ih := firsts_mem bs n (by omega) z
    have hl : n < bs.length := hn
    have e : bs.getD n "" = bs[n] := by rw [List.getD_eq_getElem?_getD, List.getElem?_eq_getElem hl]; rfl
    rw [firsts_succ, List.mem_append, ih, List.take_succ, List.getElem?_eq_getElem hl, List.mem_append, e]
    by_cases h : bs[n] ∉ bs.take n
    · rw [if_pos h]
      simp
    · rw [if_neg h]
      have h := Classical.not_not.mp h
      simp only [Option.toList_some, List.mem_singleton, List.not_mem_nil, or_false]
      exact ⟨.inl, fun q => q.elim id fun q => q ▸ h⟩
theorem firsts_nd (bs : List Str) : ∀ n ≤ bs.length, (firsts bs n).Nodup
  | 0, _ => by simp [firsts]
  | n + 1, hn => by
    have ih := firsts_nd bs n (by omega)
    rw [firsts_succ]
    by_cases h : bs.getD n "" ∉ bs.take n
    · rw [if_pos h, List.nodup_append]
      refine ⟨ih, by simp, fun x hx y hy => ?_⟩
      rw [List.mem_singleton.mp hy]
      rintro rfl
      exact h ((firsts_mem bs n (by omega) _).mp hx)
    · rw [if_neg h, List.append_nil]
      exact ih
theorem good_firsts {bs : List Str} (h : ∀ z ∈ bs, z ∈ srt) : GoodS (firsts bs bs.length) := ⟨fun z hz => h z (by
    have := (firsts_mem bs bs.length (Nat.le_refl _) z).mp hz
    rw [List.take_length] at this
    exact this), firsts_nd bs bs.length (Nat.le_refl _)⟩
theorem pick_firsts (bs : List Str) : ∀ n ≤ bs.length, pick (bs.map V.str) (fun i => decide (bs.getD i "" ∉ bs.take i)) n = (firsts bs n).map V.str
  | 0, _ => by simp [pick, firsts]
  | n + 1, hn => by
    have hl : n < bs.length := hn
    rw [pick_succ, firsts_succ, pick_firsts bs n (by omega), List.map_append]
    congr 1
    have e : bs.getD n "" = bs[n] := by rw [List.getD_eq_getElem?_getD, List.getElem?_eq_getElem hl]; rfl
    have e2 : (bs.map V.str).getD n .non = .str bs[n] := by rw [List.getD_eq_getElem?_getD, List.getElem?_map, List.getElem?_eq_getElem hl]; rfl
    rw [e2, e]
    by_cases h : bs[n] ∉ bs.take n <;> simp [h]
/-! the names and places of the law -/
structure LV (P : Program) (w : World) (K : PySem.W.Frag) (mg : Str → Option Value) (base : Heap) (C CB : Addr) (ma : Str → Addr) (md : Str → FuncData) (fa : Str → Addr) (fd : Str → FuncData) : Prop where
  T : TB mg
  R : RCl K mg C ma
  M : RM P w K mg base C CB ma md
  aD : aD' K mg (fa "draw") (fd "draw")
  GD : FnOk P w K mg base CX0 1 (fa "draw") (fd "draw") ["_law_stream", "_law_many"] spDraw
  aP : At K mg "_law_pick" (fa "pick") (fd "pick") ["_law_stream", "_law_things"]
  GP : FnOk P w K mg base CX0 2 (fa "pick") (fd "pick") ["_law_stream", "_law_things"] spPick
  aMx : At K mg "_law_mixed" (fa "mixed") (fd "mixed") ["_law_stream", "_law_things"]
  GMx : FnOk P w K mg base CX0 2 (fa "mixed") (fd "mixed") ["_law_stream", "_law_things"] spMixed
  aSo : At K mg "_law_sorts" (fa "sorts") (fd "sorts") []
  GSo : FnOk P w K mg base CX0 1 (fa "sorts") (fd "sorts") [] spLSorts
  aSs : At K mg "_law_some_sorts" (fa "some") (fd "some") ["_law_stream"]
  GSs : FnOk P w K mg base CX0 3 (fa "some") (fd "some") ["_law_stream"] spSome
  aUp : At K mg "_law_up" (fa "up") (fd "up") ["_law_sorts_here"]
  GUp : FnOk P w K mg base CX0 2 (fa "up") (fd "up") ["_law_sorts_here"] spUp
  aEn : At K mg "_law_end" (fa "end") (fd "end") ["_law_sorts_here"]
  GEn : FnOk P w K mg base CX0 6 (fa "end") (fd "end") ["_law_sorts_here"] spEnd
  aSa : At K mg "_law_same" (fa "same") (fd "same") ["_law_found", "_law_due"]
  GSa : FnG P w K mg base CX0 1 (fa "same") (fd "same") ["_law_found", "_law_due"] (spSame K)
  aCm : At K mg "_law_compared" (fa "cmp") (fd "cmp") ["_law_a", "_law_b", "_law_one", "_law_two"]
  GCm : FnG P w K mg base CX0 4 (fa "cmp") (fd "cmp") ["_law_a", "_law_b", "_law_one", "_law_two"] (spCmp C)
def forBody : Stmt → List Stmt
  | .For _ _ b _ _ => b
  | _ => []
abbrev bd (i : Nat) : Stmt := (forBody ((defBody sLaw).getD 1 (.Pass ⟨0, 0, 0, 0⟩))).getD i (.Pass ⟨0, 0, 0, 0⟩)
theorem scLaw : FnScope ["_law_script", "_law_stream", "_law_turn", "_law_a", "_law_b", "_law_passed", "_law_one", "_law_two", "_law_told", "_law_found", "_law_rest", "_law_due", "_law_odd", "_law_row", "_law_bad", "_law_k", "_law_word", "_law_thing"] ["_law_script"] (defScope sLaw) := ⟨rfl, rfl, rfl, by decide +kernel, rfl, by decide +kernel, by decide +kernel⟩
abbrev XL (P : Program) (w : World) (K : PySem.W.Frag) (mg : Str → Option Value) (base : Heap) (f : Addr) (cdv : Value) (A : Around) (outer : List Env) (s : Shared) (H : Hp) (E : XK) : Cx :=
  (cxOf CX0 P w K mg base ["_law_script", "_law_stream", "_law_turn", "_law_a", "_law_b", "_law_passed", "_law_one", "_law_two", "_law_told", "_law_found", "_law_rest", "_law_due", "_law_odd", "_law_row", "_law_bad", "_law_k", "_law_word", "_law_thing"] "law" (defScope sLaw) f cdv A outer s H E).nox
/-! what is true between the statements of a turn -/
def J0 (v0 : V) (st l : Addr) (c : Nat) : L2.St → Hp → Prop := fun σ H => ∃ x2 x3 x4 x5 x6 x7 x8 x9 x10 x11 x12 x13 x14, σ = [some v0, some (.ref st), x2, x3, x4, x5, x6, x7, x8, x9, x10, x11, x12, x13, x14, none, none, none] ∧ Strm H st l c ∧ c ≤ 500
def J1 (v0 : V) (st l : Addr) (c : Nat) : L2.St → Hp → Prop := fun σ H => ∃ (a b : Addr) (as bs : List Str) (x2 x5 x6 x7 x8 x9 x10 x11 x12 x13 x14 : Option V), σ = [some v0, some (.ref st), x2, some (.ref a), some (.ref b), x5, x6, x7, x8, x9, x10, x11, x12, x13, x14, none, none, none] ∧ (∃ c' ≤ c + 14, Strm H st l c') ∧ c ≤ 500 ∧
  Pool H st l a (as.map V.str) ∧ Pool H st l b (bs.map V.str) ∧ GoodS as ∧ GoodS bs
def J2 (v0 : V) (st l : Addr) (c : Nat) : L2.St → Hp → Prop := fun σ H => ∃ (a b : Addr) (as bs : List Str) (x2 x5 x6 x7 x8 x9 x10 x11 x12 x13 x14 : Option V), σ = [some v0, some (.ref st), x2, some (.ref a), some (.ref b), x5, x6, x7, x8, x9, x10, x11, x12, x13, x14, none, none, none] ∧ (∃ c' ≤ c + 15, Strm H st l c') ∧ c ≤ 500 ∧
  Pool H st l a (as.map V.str) ∧ Pool H st l b (bs.map V.str) ∧ GoodS as ∧ (∀ z ∈ bs, z ∈ srt) ∧ bs.length ≤ 12
def J3 (v0 : V) (st l : Addr) (c : Nat) : L2.St → Hp → Prop := fun σ H => ∃ (a b : Addr) (as bs : List Str) (x2 x5 x6 x7 x8 x9 x10 x11 x12 x13 x14 : Option V), σ = [some v0, some (.ref st), x2, some (.ref a), some (.ref b), x5, x6, x7, x8, x9, x10, x11, x12, x13, x14, none, none, none] ∧ (∃ c' ≤ c + 15, Strm H st l c') ∧ c ≤ 500 ∧
  Pool H st l a (as.map V.str) ∧ Pool H st l b (bs.map V.str) ∧ GoodS as ∧ GoodS bs
section
variable {P : Program} {w : World} {K : PySem.W.Frag} {mg : Str → Option Value} {base : Heap} {C CB : Addr} {ma : Str → Addr} {md : Str → FuncData} {fa : Str → Addr} {fd : Str → FuncData}
  {f : Addr} {cdv : Value} {A : Around} {outer : List Env} {s : Shared} {H : Hp} {E : XK} {v0 : V} {st l : Addr} {c : Nat}
theorem step0 (V : LV P w K mg base C CB ma md fa fd) (hr : Room 8 (A.deeper (envOfC "law" (defScope sLaw) s.heap.objs.size f cdv))) : Step (XL P w K mg base f cdv A outer s H E) (bd 0) (J0 v0 st l c) (J1 v0 st l c) := by
  obtain ⟨T, R, M, aD, GD, aP, GP, aMx, GMx, aSo, GSo, aSs, GSs, aUp, GUp, aEn, GEn, aSa, GSa, aCm, GCm⟩ := V
  refine ⟨_, ps_asg (pe_tup (pa_cons (pe_call GSs (hr.mono (by decide)) rfl aSs.m aSs.k aSs.b .nil pass0 (pa_cons (pv 1) pa_nil)) (pa_cons (pe_call GSs (hr.mono (by decide)) rfl aSs.m aSs.k aSs.b .nil pass0 (pa_cons (pv 1) pa_nil)) pa_nil))) (pg_tup rfl (pgs_cons (pg_name (i := 3) scLaw.nd rfl (Or.inr rfl)) (pgs_cons (pg_name (i := 4) scLaw.nd rfl (Or.inr rfl)) pgs_nil))), fun D σ H' hA k => ?_⟩
  obtain ⟨x2, x3, x4, x5, x6, x7, x8, x9, x10, x11, x12, x13, x14, rfl, S, hc⟩ := hA
  refine ⟨_, rfl, st, l, c, rfl, S, by omega, fun a as H1 ha La ga B1 S1 => ⟨_, rfl, st, l, c + 7, rfl, S1, by omega, fun b bs H2 hb Lb gb B2 S2 => ?_⟩⟩
  refine ⟨by show 2 ≤ sizeLine; decide, fun t0 ht0 => ⟨t0, _, rfl, SqT.of upd_same, rfl, _, _, rfl, _, _, rfl, rfl, ?_⟩⟩
  have st0 := same_mk (o := .tup [.ref a, .ref b]) ht0
  exact k _ _ ⟨a, b, as, bs, _, _, _, _, _, _, _, _, _, _, _, rfl, ⟨_, by omega, S2.up st0⟩, hc, (La.but B2).but (But.same st0), Lb.but (But.same st0), ga, gb⟩
theorem step1 (V : LV P w K mg base C CB ma md fa fd) (hr : Room 8 (A.deeper (envOfC "law" (defScope sLaw) s.heap.objs.size f cdv))) : Step (XL P w K mg base f cdv A outer s H E) (bd 1) (J1 v0 st l c) (J2 v0 st l c) := by
  obtain ⟨T, R, M, aD, GD, aP, GP, aMx, GMx, aSo, GSo, aSs, GSs, aUp, GUp, aEn, GEn, aSa, GSa, aCm, GCm⟩ := V
  refine ⟨_, ps_set (i := 4) scLaw.nd rfl (Or.inr rfl) (pe_ifExp (pt_cmpR op_eq (pe_call GD (hr.mono (by decide)) rfl aD.m aD.k aD.b .nil pass0 (pa_cons (pv 1) (pa_cons pe_int pa_nil))) pe_int (nomark _)) (pe_op op_cat (pv 3) (pv 4)) (pv 4)), fun D σ H' hA k => ?_⟩
  obtain ⟨a, b, as, bs, x2, x5, x6, x7, x8, x9, x10, x11, x12, x13, x14, rfl, ⟨c', hc', S⟩, hc, La, Lb, ga, gb⟩ := hA
  have l1 := ga.len
  have l2 := gb.len
  refine ⟨_, rfl, st, l, c', 3, rfl, S, by omega, by decide, by decide, fun d H1 d0 d1 B1 S1 => ⟨rfl, _, rfl, ?_⟩⟩
  refine ite2 (fun _ => ?_) (fun _ => ?_)
  · refine ⟨_, rfl, _, rfl, a, b, as.map V.str, bs.map V.str, rfl, rfl, (La.but B1).h, (Lb.but B1).h, ?_, fun p hp => ?_⟩
    · rw [List.length_map, List.length_map]
      exact Nat.le_trans (show as.length + bs.length ≤ 12 by omega) (by decide)
    · have sp := same_mk (o := .lst (as.map V.str ++ bs.map V.str)) hp
      have np := S1.ne_new hp
      refine k _ _ ⟨a, p, as, as ++ bs, _, _, _, _, _, _, _, _, _, _, _, rfl, ⟨c' + 1, by omega, S1.up sp⟩, hc, (La.but B1).but (But.same sp), ⟨by rw [upd_same, List.map_append], np.1, np.2⟩, ga, fun z hz => ?_, by rw [List.length_append]; omega⟩
      rcases List.mem_append.mp hz with h | h
      · exact ga.1 z h
      · exact gb.1 z h
  · exact ⟨_, rfl, k _ _ ⟨a, b, as, bs, _, _, _, _, _, _, _, _, _, _, _, rfl, ⟨c' + 1, by omega, S1⟩, hc, La.but B1, Lb.but B1, ga, gb.1, by omega⟩⟩
theorem step2 (V : LV P w K mg base C CB ma md fa fd) (hr : Room 8 (A.deeper (envOfC "law" (defScope sLaw) s.heap.objs.size f cdv))) : Step (XL P w K mg base f cdv A outer s H E) (bd 2) (J2 v0 st l c) (J3 v0 st l c) := by
  obtain ⟨T, R, M, aD, GD, aP, GP, aMx, GMx, aSo, GSo, aSs, GSs, aUp, GUp, aEn, GEn, aSa, GSa, aCm, GCm⟩ := V
  refine ⟨_, ps_set (i := 4) scLaw.nd rfl (Or.inr rfl) (pe_lc (own := [("_law_k", 15), ("_law_word", 16)]) (g := gTup K 2 (gCons (gName 15) (gCons (gName 16) gNil))) (tt := _) rfl scLaw.nd (pi_enum rfl T.enumerate (pa_cons (pv 4) pa_nil)) (blkOk_by (own := [("_law_k", 15), ("_law_word", 16)]) (N := ["_law_script", "_law_stream", "_law_turn", "_law_a", "_law_b", "_law_passed", "_law_one", "_law_two", "_law_told", "_law_found", "_law_rest", "_law_due", "_law_odd", "_law_row", "_law_bad", "_law_k", "_law_word", "_law_thing"]) (sc := defScope sLaw) (by decide +kernel)) (fun _ _ _ _ _ => (pg_tupK (K0 := K) rfl rfl (pgs_cons (pg_name (i := 15) scLaw.nd rfl (Or.inl rfl)) (pgs_cons (pg_name (i := 16) scLaw.nd rfl (Or.inl rfl)) pgs_nil)))) (fun _ _ _ _ _ => (by exact pts_one (pt_cmpR (notIn_seqK (K0 := K) rfl) (pv 16) (pe_slice (sl_listK (K0 := K) rfl) (pv 4) po_none (po_some (pv 15))) (by rfl)))) (fun _ _ _ _ _ => (by exact (pv 16)))), fun D σ H' hA k => ?_⟩
  obtain ⟨a, b, as, bs, x2, x5, x6, x7, x8, x9, x10, x11, x12, x13, x14, rfl, ⟨c', hc', S⟩, hc, La, Lb, ga, hb, lb⟩ := hA
  refine ⟨_, rfl, b, _, rfl, SqL.of Lb.h, fun D1 hD => ?_⟩
  have nD := S.ne_new hD
  refine lcE (bs.map V.str) (fun i => decide (bs.getD i "" ∉ bs.take i)) (by rw [List.length_map]; omega) hD (SqL.of Lb.h) (fun _ _ => rfl) ?_ ?_ ?_
  · intro i x H2 hx s2 Q1 k1
    rw [List.getElem?_map] at hx
    obtain ⟨z, hz, rfl⟩ := Option.map_eq_some_iff.mp hx
    have ez : bs.getD i "" = z := by rw [List.getD_eq_getElem?_getD, hz]; rfl
    refine ⟨_, rfl, _, rfl, _, rfl, i, rfl, b, _, rfl, SqL.of (s2 _ _ Lb.h), fun p hp => ?_⟩
    rw [show cutV (bs.map V.str) none (some (i : Int)) = (bs.take i).map V.str from (cut_take _ i).trans List.map_take.symm]
    refine nin_row ⟨p, rfl, .inr upd_same⟩ ⟨_, rfl, ?_⟩
    have q := k1 _ (same_mk (o := .lst ((bs.take i).map V.str)) hp)
    rw [ez] at q
    by_cases h : z ∈ bs.take i
    · rw [decide_eq_true h]
      rw [decide_eq_false (fun q => q h)] at q
      exact q
    · rw [decide_eq_false h]
      rw [decide_eq_true h] at q
      exact q
  · intro i x H2 Q1 hx q
    exact ⟨_, rfl, q⟩
  · intro H1 s1 hD1
    rw [List.length_map, pick_firsts bs _ (Nat.le_refl _)] at hD1
    exact k _ _ ⟨a, D1, as, firsts bs bs.length, _, _, _, _, _, _, _, _, _, _, _, rfl, ⟨c', hc', S.up s1⟩, hc, La.but (But.same s1), ⟨hD1, nD.1, nD.2⟩, ga, good_firsts hb⟩
end
end R

set_option maxHeartbeats 3900000
namespace R
open PySem PySem.Spec PyProof.Rows L2 TL RP
open C8 (pss_cut tCut pe_gc)
open CB OW MX
structure Cor (C : Addr) (st l : Addr) (H : Hp) (a b o1 o2 : Addr) (as bs : List Str) : Prop where
  la : Pool H st l a (as.map V.str)
  lb : Pool H st l b (bs.map V.str)
  ga : GoodS as
  gb : GoodS bs
  r1 : RuleAt C H o1 (canon as)
  r2 : RuleAt C H o2 (canon bs)
theorem Cor.same {C st l : Addr} {H H' : Hp} {a b o1 o2 : Addr} {as bs : List Str} (h : Cor C st l H a b o1 o2 as bs) (s : Same H H') : Cor C st l H' a b o1 o2 as bs :=
  ⟨h.la.but (But.same s), h.lb.but (But.same s), h.ga, h.gb, h.r1.up s, h.r2.up s⟩
theorem Cor.but {C st l : Addr} {H H' : Hp} {c : Nat} {a b o1 o2 : Addr} {as bs : List Str} (h : Cor C st l H a b o1 o2 as bs) (S : Strm H st l c) (B : But st l H H') : Cor C st l H' a b o1 o2 as bs :=
  ⟨h.la.but B, h.lb.but B, h.ga, h.gb, h.r1.but S B, h.r2.but S B⟩
theorem RuleAt.put {C : Addr} {H : Hp} {o p : Addr} {ks : List Str} {xs ys : List V} (h : RuleAt C H o ks) (hp : H p = some (.lst xs)) : RuleAt C (upd H p (.lst ys)) o ks := by
  obtain ⟨dx, t, h1, h2⟩ := h
  refine ⟨dx, t, ?_, ?_⟩
  · rw [upd_ne (ne_of h1 hp (by intro z; cases z))]
    exact h1
  · rw [upd_ne (ne_of h2 hp (by intro z; cases z))]
    exact h2
theorem Cor.put {C st l p : Addr} {H : Hp} {a b o1 o2 : Addr} {as bs : List Str} {xs ys : List V} (h : Cor C st l H a b o1 o2 as bs) (hp : H p = some (.lst xs)) (na : p ≠ a) (nb : p ≠ b) : Cor C st l (upd H p (.lst ys)) a b o1 o2 as bs :=
  ⟨⟨by rw [upd_ne na.symm]; exact h.la.h, h.la.n1, h.la.n2⟩, ⟨by rw [upd_ne nb.symm]; exact h.lb.h, h.lb.n1, h.lb.n2⟩, h.ga, h.gb, h.r1.put hp, h.r2.put hp⟩
def J4 (v0 : V) (st l : Addr) (c : Nat) : L2.St → Hp → Prop := fun σ H => ∃ (a b p : Addr) (as bs : List Str) (x2 x6 x7 x8 x9 x10 x11 x12 x13 x14 : Option V), σ = [some v0, some (.ref st), x2, some (.ref a), some (.ref b), some (.ref p), x6, x7, x8, x9, x10, x11, x12, x13, x14, none, none, none] ∧ (∃ c' ≤ c + 15, Strm H st l c') ∧ c ≤ 500 ∧
  Pool H st l a (as.map V.str) ∧ Pool H st l b (bs.map V.str) ∧ GoodS as ∧ GoodS bs ∧ Pool H st l p (as.map V.str) ∧ p ≠ a ∧ p ≠ b
def J5 (C : Addr) (v0 : V) (st l : Addr) (c : Nat) : L2.St → Hp → Prop := fun σ H => ∃ (a b p o1 o2 : Addr) (as bs : List Str) (x2 x8 x9 x10 x11 x12 x13 x14 : Option V), σ = [some v0, some (.ref st), x2, some (.ref a), some (.ref b), some (.ref p), some (.ref o1), some (.ref o2), x8, x9, x10, x11, x12, x13, x14, none, none, none] ∧ (∃ c' ≤ c + 15, Strm H st l c') ∧ c ≤ 500 ∧
  Cor C st l H a b o1 o2 as bs ∧ Pool H st l p (as.map V.str) ∧ p ≠ a ∧ p ≠ b
/-- the lists and the rules stand; e draws at most -/
def JC (C : Addr) (v0 : V) (st l : Addr) (c e : Nat) : L2.St → Hp → Prop := fun σ H => ∃ (a b o1 o2 : Addr) (as bs : List Str) (x2 x5 x8 x9 x10 x11 x12 x13 x14 : Option V), σ = [some v0, some (.ref st), x2, some (.ref a), some (.ref b), x5, some (.ref o1), some (.ref o2), x8, x9, x10, x11, x12, x13, x14, none, none, none] ∧ (∃ c' ≤ c + e, Strm H st l c') ∧ c ≤ 500 ∧
  Cor C st l H a b o1 o2 as bs
def J7 (C : Addr) (v0 : V) (st l : Addr) (c : Nat) : L2.St → Hp → Prop := fun σ H => ∃ (a b t o1 o2 : Addr) (as bs : List Str) (x2 x5 x9 x10 x11 x12 x13 x14 : Option V), σ = [some v0, some (.ref st), x2, some (.ref a), some (.ref b), x5, some (.ref o1), some (.ref o2), some (.ref t), x9, x10, x11, x12, x13, x14, none, none, none] ∧ (∃ c' ≤ c + 15, Strm H st l c') ∧ c ≤ 500 ∧
  Cor C st l H a b o1 o2 as bs ∧ Pool H st l t ((canon as).map V.str) ∧ t ≠ a ∧ t ≠ b
section
variable {P : Program} {w : World} {K : PySem.W.Frag} {mg : Str → Option Value} {base : Heap} {C CB : Addr} {ma : Str → Addr} {md : Str → FuncData} {fa : Str → Addr} {fd : Str → FuncData}
  {f : Addr} {cdv : Value} {A : Around} {outer : List Env} {s : Shared} {H : Hp} {E : XK} {v0 : V} {st l : Addr} {c : Nat}
theorem step3 (V : LV P w K mg base C CB ma md fa fd) (hr : Room 8 (A.deeper (envOfC "law" (defScope sLaw) s.heap.objs.size f cdv))) : Step (XL P w K mg base f cdv A outer s H E) (bd 3) (J3 v0 st l c) (J4 v0 st l c) := by
  obtain ⟨T, R, M, aD, GD, aP, GP, aMx, GMx, aSo, GSo, aSs, GSs, aUp, GUp, aEn, GEn, aSa, GSa, aCm, GCm⟩ := V
  refine ⟨_, ps_set (i := 5) scLaw.nd rfl (Or.inl rfl) (pe_callTy call_list_of (by rfl) T.list (by decide +kernel) (pa_cons (pv 3) pa_nil)), fun D σ H' hA k => ?_⟩
  obtain ⟨a, b, as, bs, x2, x5, x6, x7, x8, x9, x10, x11, x12, x13, x14, rfl, ⟨c', hc', S⟩, hc, La, Lb, ga, gb⟩ := hA
  refine ⟨_, rfl, a, _, rfl, .inl (SqL.of La.h), fun p hp => ?_⟩
  have np := S.ne_new hp
  have sp := same_mk (o := .lst (as.map V.str)) hp
  exact k _ _ ⟨a, b, p, as, bs, _, _, _, _, _, _, _, _, _, _, rfl, ⟨c', hc', S.up sp⟩, hc, La.but (But.same sp), Lb.but (But.same sp), ga, gb, ⟨upd_same, np.1, np.2⟩, (ne_of_none La.h hp).symm, (ne_of_none Lb.h hp).symm⟩
theorem step4 (V : LV P w K mg base C CB ma md fa fd) (hr : Room 8 (A.deeper (envOfC "law" (defScope sLaw) s.heap.objs.size f cdv))) : Step (XL P w K mg base f cdv A outer s H E) (bd 4) (J4 v0 st l c) (J5 C v0 st l c) := by
  obtain ⟨T, R, M, aD, GD, aP, GP, aMx, GMx, aSo, GSo, aSs, GSs, aUp, GUp, aEn, GEn, aSa, GSa, aCm, GCm⟩ := V
  refine ⟨_, ps_asg (pe_tup (pa_cons (pe_make R.mak M.gI (hr.mono (by decide)) rfl R.mg M.bI .nil pass0 (pa_cons (pv 5) pa_nil)) (pa_cons (pe_make R.mak M.gI (hr.mono (by decide)) rfl R.mg M.bI .nil pass0 (pa_cons (pe_callTy call_tuple_of (by rfl) T.tuple (by decide +kernel) (pa_cons (pv 4) pa_nil)) pa_nil)) pa_nil))) (pg_tup rfl (pgs_cons (pg_name (i := 6) scLaw.nd rfl (Or.inr rfl)) (pgs_cons (pg_name (i := 7) scLaw.nd rfl (Or.inl rfl)) pgs_nil))), fun D σ H' hA k => ?_⟩
  obtain ⟨a, b, p, as, bs, x2, x6, x7, x8, x9, x10, x11, x12, x13, x14, rfl, ⟨c', hc', S⟩, hc, La, Lb, ga, gb, Lp, na, nb⟩ := hA
  have sm : ∀ (H : Hp) x dx, H x = none → H dx = none → dx ≠ x → Same H (upd (upd H dx (.own x)) x (.ins C dx [])) := fun H x dx hx hdx hne b u hb => by
    have n1 : b ≠ x := fun e => by rw [e, hx] at hb; cases hb
    have n2 : b ≠ dx := fun e => by rw [e, hdx] at hb; cases hb
    rw [upd_ne n1, upd_ne n2]
    exact hb
  refine ⟨_, rfl, ?_⟩
  intro o1 dx hx hdx hne
  refine ⟨o1, dx, _, as, rfl, upd_same, ⟨p, rfl, .inr (sm _ _ _ hx hdx hne _ _ Lp.h)⟩, ga, fun H1 kp hru => ⟨rfl, ?_⟩⟩
  have s1 : Same H' H1 := fun b u hb => kp b u (sm _ _ _ hx hdx hne b u hb) fun e => by rw [e, hx] at hb; cases hb
  refine ⟨_, rfl, b, _, rfl, .inl ⟨SqL.of (s1 _ _ Lb.h), fun tb htb => ?_⟩⟩
  have s2 := same_mk (o := .tup (bs.map V.str)) htb
  intro o2 dx2 hx2 hdx2 hne2
  refine ⟨o2, dx2, _, bs, rfl, upd_same, ⟨tb, rfl, .inl (sm _ _ _ hx2 hdx2 hne2 _ _ upd_same)⟩, gb, fun H3 kp3 hru3 => ⟨rfl, ?_⟩⟩
  have s3 : Same (upd H1 tb (.tup (bs.map V.str))) H3 := fun b u hb => kp3 b u (sm _ _ _ hx2 hdx2 hne2 b u hb) fun e => by rw [e, hx2] at hb; cases hb
  refine ⟨by show 2 ≤ sizeLine; decide, fun t0 ht0 => ⟨t0, _, rfl, SqT.of upd_same, rfl, _, _, rfl, _, _, rfl, rfl, ?_⟩⟩
  have s4 := same_mk (o := .tup [.ref o1, .ref o2]) ht0
  have s24 := s2.trans (s3.trans s4)
  have s14 := s1.trans s24
  exact k _ _ ⟨a, b, p, o1, o2, as, bs, _, _, _, _, _, _, _, _, rfl, ⟨c', hc', S.up s14⟩, hc, ⟨La.but (But.same s14), Lb.but (But.same s14), ga, gb, hru.up s24, hru3.up s4⟩, Lp.but (But.same s14), na, nb⟩
theorem step5 (V : LV P w K mg base C CB ma md fa fd) (hr : Room 8 (A.deeper (envOfC "law" (defScope sLaw) s.heap.objs.size f cdv))) : Step (XL P w K mg base f cdv A outer s H E) (bd 5) (J5 C v0 st l c) (JC C v0 st l c 15) := by
  obtain ⟨T, R, M, aD, GD, aP, GP, aMx, GMx, aSo, GSo, aSs, GSs, aUp, GUp, aEn, GEn, aSa, GSa, aCm, GCm⟩ := V
  refine ⟨_, ps_expr (pe_bm PySem.F.plainAttrs_list PySem.F.slot_list_append PySem.F.type_list_append mt_append (pv 5) (pa_cons pe_str pa_nil)), fun D σ H' hA k => ?_⟩
  obtain ⟨a, b, p, o1, o2, as, bs, x2, x8, x9, x10, x11, x12, x13, x14, rfl, ⟨c', hc', S⟩, hc, R0, Lp, na, nb⟩ := hA
  have l1 := R0.ga.len
  refine ⟨_, rfl, .inl ⟨rfl, _, SqL.of Lp.h⟩, p, _, _, rfl, rfl, Lp.h, ?_, ?_⟩
  · rw [List.length_map]
    exact Nat.lt_of_lt_of_le (show as.length < 7 by omega) (by decide)
  · exact k _ _ ⟨a, b, o1, o2, as, bs, _, _, _, _, _, _, _, _, _, rfl, ⟨c', hc', S.put ⟨Lp.n1, Lp.n2⟩⟩, hc, R0.put Lp.h na nb⟩
theorem step6 (V : LV P w K mg base C CB ma md fa fd) (hr : Room 8 (A.deeper (envOfC "law" (defScope sLaw) s.heap.objs.size f cdv))) : Step (XL P w K mg base f cdv A outer s H E) (bd 6) (JC C v0 st l c 15) (J7 C v0 st l c) := by
  obtain ⟨T, R, M, aD, GD, aP, GP, aMx, GMx, aSo, GSo, aSs, GSs, aUp, GUp, aEn, GEn, aSa, GSa, aCm, GCm⟩ := V
  refine ⟨_, ps_set (i := 8) scLaw.nd rfl (Or.inl rfl) (pe_meth0 (pv 6) R.cl (R.me "sorts" (by decide +kernel)) M.gS (hr.mono (by decide)) M.bS .nil pass0), fun D σ H' hA k => ?_⟩
  obtain ⟨a, b, o1, o2, as, bs, x2, x5, x8, x9, x10, x11, x12, x13, x14, rfl, ⟨c', hc', S⟩, hc, R0⟩ := hA
  obtain ⟨dx, p, h1, h2⟩ := id R0.r1
  refine ⟨_, rfl, o1, dx, _, rfl, h1, lk_not (by decide +kernel), o1, canon as, rfl, R0.r1, fun t ht => ?_⟩
  have nt := S.ne_new ht
  have s1 := same_mk (o := .lst ((canon as).map V.str)) ht
  exact k _ _ ⟨a, b, t, o1, o2, as, bs, _, _, _, _, _, _, _, _, rfl, ⟨c', hc', S.up s1⟩, hc, R0.same s1, ⟨upd_same, nt.1, nt.2⟩, (ne_of_none R0.la.h ht).symm, (ne_of_none R0.lb.h ht).symm⟩
theorem step7 (V : LV P w K mg base C CB ma md fa fd) (hr : Room 8 (A.deeper (envOfC "law" (defScope sLaw) s.heap.objs.size f cdv))) : Step (XL P w K mg base f cdv A outer s H E) (bd 7) (J7 C v0 st l c) (JC C v0 st l c 15) := by
  obtain ⟨T, R, M, aD, GD, aP, GP, aMx, GMx, aSo, GSo, aSs, GSs, aUp, GUp, aEn, GEn, aSa, GSa, aCm, GCm⟩ := V
  refine ⟨_, ps_expr (pe_bm PySem.F.plainAttrs_list PySem.F.slot_list_append PySem.F.type_list_append mt_append (pv 8) (pa_cons pe_str pa_nil)), fun D σ H' hA k => ?_⟩
  obtain ⟨a, b, t, o1, o2, as, bs, x2, x5, x9, x10, x11, x12, x13, x14, rfl, ⟨c', hc', S⟩, hc, R0, Lt, na, nb⟩ := hA
  have l1 := canon_len as
  refine ⟨_, rfl, .inl ⟨rfl, _, SqL.of Lt.h⟩, t, _, _, rfl, rfl, Lt.h, ?_, ?_⟩
  · rw [List.length_map]
    exact Nat.lt_of_lt_of_le (show (canon as).length < 7 by omega) (by decide)
  · exact k _ _ ⟨a, b, o1, o2, as, bs, _, _, _, _, _, _, _, _, _, rfl, ⟨c', hc', S.put ⟨Lt.n1, Lt.n2⟩⟩, hc, R0.put Lt.h na nb⟩
end
end R

set_option maxHeartbeats 3900000
namespace R
open PySem PySem.Spec PyProof.Rows L2 TL RP
open C8 (pss_cut tCut pe_gc)
open CB OW MX
theorem canon_nd (ws : List Str) : (canon ws).Nodup := srt_nodup.sublist List.filter_sublist
theorem canon_length {as : List Str} (g : GoodS as) : (canon as).length = as.length :=
  Nat.le_antisymm (pigeon _ _ (canon_nd as) fun x hx => (mem_canon g x).mp hx) (pigeon _ _ g.2 fun x hx => (mem_canon g x).mpr hx)
theorem fine_canon (as : List Str) : Fine (strL (canon as)) 20 1000 := (fine_strL (canon_sub as) (canon_len as)).up (by decide) (by decide)
theorem shaped_strsL (l : List Str) (hl : ∀ z ∈ l, Okz z) : SeqAt.shaped (strL l) = true := by
  have h := dep_strs l
  have h2 : PyData.depth (.list (l.map .str)) ≤ 64 := by
    simp only [PyData.depth]
    omega
  show (PyData.canLay0 (.list (l.map .str)) && decide (PyData.depth (.list (l.map .str)) ≤ 64)) = true
  rw [Bool.and_eq_true]
  exact ⟨by simp only [PyData.canLay0]; exact lay_strs l hl, decide_eq_true h2⟩
theorem eqv_strL (l m : List Str) : PyData.eqv (strL l) (strL m) = decide (l = m) := by
  simp only [strL, PyData.eqv]
  exact eqv_strs l m
section
variable {P : Program} {w : World} {K : PySem.W.Frag} {mg : Str → Option Value} {base : Heap} {C CB : Addr} {ma : Str → Addr} {md : Str → FuncData} {fa : Str → Addr} {fd : Str → FuncData}
  {f : Addr} {cdv : Value} {A : Around} {outer : List Env} {s : Shared} {H : Hp} {E : XK} {v0 : V} {st l : Addr} {c : Nat}
theorem step8 (V : LV P w K mg base C CB ma md fa fd) (hg : A.guards = some []) (hr : Room 8 (A.deeper (envOfC "law" (defScope sLaw) s.heap.objs.size f cdv))) : Step (XL P w K mg base f cdv A outer s H E) (bd 8) (JC C v0 st l c 15) (JC C v0 st l c 15) := by
  obtain ⟨T, R, M, aD, GD, aP, GP, aMx, GMx, aSo, GSo, aSs, GSs, aUp, GUp, aEn, GEn, aSa, GSa, aCm, GCm⟩ := V
  have hu := hr.units
  have hu0 := hr.units0
  have hu2 := Nat.lt_of_le_of_lt (Nat.add_le_add_left (show 1 ≤ 64 by decide) _) hr.units
  refine ⟨_, ps_if (PW.pt (pw_or (pt_not (pt_val (pe_callG GSa hg (hr.mono (by decide)) rfl aSa.m aSa.k aSa.b pass0 (pa_cons (pe_meth0 (pv 6) R.cl (R.me "sorts" (by decide +kernel)) M.gS (hr.mono (by decide)) M.bS .nil pass0) (pa_cons (pe_call GUp (hr.mono (by decide)) rfl aUp.m aUp.k aUp.b .nil pass0 (pa_cons (pv 3) pa_nil)) pa_nil))))) (pw_or (pt_cmpR op_ne (pe_callB (call_lenO M.gL (hr.mono (by decide)) M.bL pass0 (R.me "__len__" (by decide +kernel))) (by rfl) T.len PySem.boot_len (pa_cons (pv 6) pa_nil)) (pe_callB call_len_seq (by rfl) T.len PySem.boot_len (pa_cons (pv 3) pa_nil)) (nomark _)) (pw_or1 (pt_not (pt_val (pe_callG GCm hg (hr.mono (by decide)) rfl aCm.m aCm.k aCm.b pass0 (pa_cons (pv 3) (pa_cons (pv 4) (pa_cons (pv 6) (pa_cons (pv 7) pa_nil))))))))))) (pss_one (ps_ret pe_bl)) (pss_nil), fun D σ H' hA k => ?_⟩
  obtain ⟨a, b, o1, o2, as, bs, x2, x5, x8, x9, x10, x11, x12, x13, x14, rfl, ⟨c', hc', S⟩, hc, R0⟩ := hA
  obtain ⟨dx, p, h1, h2⟩ := id R0.r1
  refine ⟨_, rfl, o1, dx, _, rfl, h1, lk_not (by decide +kernel), o1, canon as, rfl, R0.r1, fun t ht => ?_⟩
  have s1 := same_mk (o := .lst ((canon as).map V.str)) ht
  refine ⟨_, rfl, _, as, rfl, ⟨a, rfl, .inr (s1 _ _ R0.la.h)⟩, fun D1 H1 hD s2 hD1 => ?_⟩
  refine ⟨_, _, strL (canon as), rfl, dq_strL (s2 _ _ upd_same), dq_strL hD1, fine_canon as, _, rfl, iteF ?_⟩
  have s12 := s1.trans s2
  have R1 := R0.same s12
  refine ⟨_, rfl, o1, dx, _, rfl, s12 _ _ h1, o1, canon as, rfl, R1.r1, _, rfl, Nat.lt_of_le_of_lt (canon_len as) (by decide), _, rfl, a, _, rfl, .inl (SqL.of R1.la.h), rfl, ?_⟩
  rw [List.length_map, canon_length R0.ga, decide_eq_true rfl]
  refine ⟨_, rfl, iteF ?_⟩
  refine ⟨_, rfl, _, rfl, _, rfl, _, rfl, a, b, o1, o2, as, bs, rfl, R1.la.h, R1.lb.h, R1.ga, R1.gb, R1.r1, R1.r2, fun H3 s3 => ⟨_, rfl, iteF ?_⟩⟩
  exact k _ _ ⟨a, b, o1, o2, as, bs, _, _, _, _, _, _, _, _, _, rfl, ⟨c', hc', S.up (s12.trans s3)⟩, hc, R1.same s3⟩
theorem step9 (V : LV P w K mg base C CB ma md fa fd) (hg : A.guards = some []) (hr : Room 8 (A.deeper (envOfC "law" (defScope sLaw) s.heap.objs.size f cdv))) : Step (XL P w K mg base f cdv A outer s H E) (bd 9) (JC C v0 st l c 15) (JC C v0 st l c 15) := by
  obtain ⟨T, R, M, aD, GD, aP, GP, aMx, GMx, aSo, GSo, aSs, GSs, aUp, GUp, aEn, GEn, aSa, GSa, aCm, GCm⟩ := V
  have hu := hr.units
  have hu0 := hr.units0
  have hu2 := Nat.lt_of_le_of_lt (Nat.add_le_add_left (show 1 ≤ 64 by decide) _) hr.units
  refine ⟨_, ps_if (PW.pt (pw_or (pt_not (pt_val (pe_callG GSa hg (hr.mono (by decide)) rfl aSa.m aSa.k aSa.b pass0 (pa_cons (pe_lc (own := [("_law_word", 16)]) (g := gName 16) (tt := tYes) rfl scLaw.nd (pi_own M.gT (hr.mono (by decide)) M.bT pass0 (R.me "__iter__" (by decide +kernel)) (pv 6)) (blkOk_by (own := [("_law_word", 16)]) (N := ["_law_script", "_law_stream", "_law_turn", "_law_a", "_law_b", "_law_passed", "_law_one", "_law_two", "_law_told", "_law_found", "_law_rest", "_law_due", "_law_odd", "_law_row", "_law_bad", "_law_k", "_law_word", "_law_thing"]) (sc := defScope sLaw) (by decide +kernel)) (fun _ _ _ _ _ => (pg_name (i := 16) scLaw.nd rfl (Or.inl rfl))) (fun _ _ _ _ _ => pts_nil) (fun _ _ _ _ _ => (by exact (pv 16)))) (pa_cons (pe_call GUp (hr.mono (by decide)) rfl aUp.m aUp.k aUp.b .nil pass0 (pa_cons (pv 3) pa_nil)) pa_nil))))) (pw_or1 (pt_cmpR (op_neD hu) (pe_callTy (call_listO M.gT M.bT (R.me "__iter__" (by decide +kernel)) M.gL M.bL (R.me "__len__" (by decide +kernel)) rfl (hr.mono (by decide)) (hr.mono (by decide))) (by rfl) T.list (by decide +kernel) (pa_cons (pv 7) pa_nil)) (pe_meth0 (pv 7) R.cl (R.me "sorts" (by decide +kernel)) M.gS (hr.mono (by decide)) M.bS .nil pass0) (nomark _))))) (pss_one (ps_ret pe_bl)) (pss_nil), fun D σ H' hA k => ?_⟩
  obtain ⟨a, b, o1, o2, as, bs, x2, x5, x8, x9, x10, x11, x12, x13, x14, rfl, ⟨c', hc', S⟩, hc, R0⟩ := hA
  obtain ⟨dx, p, h1, h2⟩ := id R0.r1
  obtain ⟨dx2, p2, g1, g2⟩ := id R0.r2
  have n1 := canon_len as
  have n2 := canon_len bs
  refine ⟨_, rfl, o1, dx, _, p, _, rfl, h1, lk_kept _, SqT.of h2, fun D1 hD => ?_⟩
  refine lc_mapT (canon as) V.str V.str (by omega) hD (SqT.of h2) (fun z hz H2 s2 Q1 k1 => ⟨_, rfl, k1 H2 (Same.refl H2)⟩) (fun H1 s1 hD1 => ?_)
  refine ⟨_, rfl, _, as, rfl, ⟨a, rfl, .inr (s1 _ _ R0.la.h)⟩, fun D2 H2 hD2 s2 hD2' => ?_⟩
  refine ⟨_, _, strL (canon as), rfl, dq_strL (s2 _ _ hD1), dq_strL hD2', fine_canon as, _, rfl, iteF ?_⟩
  have s12 := s1.trans s2
  refine ⟨_, rfl, o2, dx2, _, p2, _, rfl, s12 _ _ g1, lk_kept _, SqT.of (s12 _ _ g2), by rw [List.length_map]; omega, fun H3 Q' e3 q => ⟨o2, canon bs, rfl, (R0.r2.up s12).up e3, q _ (by omega)⟩, fun l1 hl1 => ?_⟩
  have s3 := same_mk (o := .lst ((canon bs).map V.str)) hl1
  have s13 := s12.trans s3
  refine ⟨_, rfl, o2, dx2, _, rfl, s13 _ _ g1, lk_not (by decide +kernel), o2, canon bs, rfl, R0.r2.up s13, fun t ht => ?_⟩
  have s4 := same_mk (o := .lst ((canon bs).map V.str)) ht
  have so := shaped_strsL (canon bs) fun z hz => srt_ok z (canon_sub bs z hz)
  refine ⟨strL (canon bs), strL (canon bs), .lst (SqL.of (s4 _ _ upd_same)) (dp_strs _), .lst (SqL.of upd_same) (dp_strs _), so, so, ?_⟩
  rw [eqv_strL, decide_eq_true rfl]
  refine ⟨_, rfl, iteF ?_⟩
  exact k _ _ ⟨a, b, o1, o2, as, bs, _, _, _, _, _, _, _, _, _, rfl, ⟨c', hc', S.up (s13.trans s4)⟩, hc, R0.same (s13.trans s4)⟩
theorem step10 (V : LV P w K mg base C CB ma md fa fd) (hg : A.guards = some []) (hr : Room 8 (A.deeper (envOfC "law" (defScope sLaw) s.heap.objs.size f cdv))) : Step (XL P w K mg base f cdv A outer s H E) (bd 10) (JC C v0 st l c 15) (JC C v0 st l c 15) := by
  obtain ⟨T, R, M, aD, GD, aP, GP, aMx, GMx, aSo, GSo, aSs, GSs, aUp, GUp, aEn, GEn, aSa, GSa, aCm, GCm⟩ := V
  have hu := hr.units
  have hu0 := hr.units0
  have hu2 := Nat.lt_of_le_of_lt (Nat.add_le_add_left (show 1 ≤ 64 by decide) _) hr.units
  refine ⟨_, ps_if (pt_not (pt_val (pe_callB (cr_all rfl) (by rfl) T.all boot_all (pa_cons (pe_lc (own := [("_law_word", 16)]) (g := gName 16) (tt := tYes) rfl scLaw.nd (pi_list (pe_call0 GSo (hr.mono (by decide)) rfl aSo.m aSo.k aSo.b .nil pass0)) (blkOk_by (own := [("_law_word", 16)]) (N := ["_law_script", "_law_stream", "_law_turn", "_law_a", "_law_b", "_law_passed", "_law_one", "_law_two", "_law_told", "_law_found", "_law_rest", "_law_due", "_law_odd", "_law_row", "_law_bad", "_law_k", "_law_word", "_law_thing"]) (sc := defScope sLaw) (by decide +kernel)) (fun _ _ _ _ _ => (pg_name (i := 16) scLaw.nd rfl (Or.inl rfl))) (fun _ _ _ _ _ => pts_nil) (fun _ _ _ _ _ => (by exact (pe_cmpR op_eq (pe_cmpR (op_inO M.gC (hr.mono (by decide)) M.bC pass0 (R.me "__contains__" (by decide +kernel))) (pv 16) (pv 6) (by rfl)) (pe_cmpR (in_seqK (K0 := K) rfl) (pv 16) (pv 3) (by rfl)) (nomark _))))) pa_nil)))) (pss_one (ps_ret pe_bl)) (pss_nil), fun D σ H' hA k => ?_⟩
  obtain ⟨a, b, o1, o2, as, bs, x2, x5, x8, x9, x10, x11, x12, x13, x14, rfl, ⟨c', hc', S⟩, hc, R0⟩ := hA
  obtain ⟨dx, p, h1, h2⟩ := id R0.r1
  refine ⟨rfl, fun q hq => ?_⟩
  have s0 := same_mk (o := .lst (srt.map V.str)) hq
  refine ⟨q, rfl, ⟨_, SqL.of upd_same⟩, fun D1 hD => ?_⟩
  refine lc_mapL srt V.str (fun _ => .bl true) (by decide) hD (SqL.of upd_same) (fun z hz H2 s2 Q1 k1 => ?_) (fun H1 s1 hD1 => ?_)
  · have s02 := s0.trans s2
    refine ⟨_, rfl, _, rfl, o1, dx, _, rfl, s02 _ _ h1, o1, _, canon as, rfl, R0.r1.up s02, .inl ⟨z, rfl, _, rfl, _, rfl, _, rfl, in_row ⟨a, rfl, .inr (s02 _ _ R0.la.h)⟩ ⟨rfl, ?_⟩⟩⟩
    rw [show decide (z ∈ canon as) = decide (z ∈ as) from decide_eq_decide.mpr (mem_canon R0.ga z), decide_eq_true rfl]
    exact k1 H2 (Same.refl H2)
  · refine ⟨D1, srt.map fun _ => true, rfl, SqL.of hD1, _, rfl, iteF ?_⟩
    exact k _ _ ⟨a, b, o1, o2, as, bs, _, _, _, _, _, _, _, _, _, rfl, ⟨c', hc', S.up (s0.trans s1)⟩, hc, R0.same (s0.trans s1)⟩
theorem step11 (V : LV P w K mg base C CB ma md fa fd) (hg : A.guards = some []) (hr : Room 8 (A.deeper (envOfC "law" (defScope sLaw) s.heap.objs.size f cdv))) : Step (XL P w K mg base f cdv A outer s H E) (bd 11) (JC C v0 st l c 15) (JC C v0 st l c 15) := by
  obtain ⟨T, R, M, aD, GD, aP, GP, aMx, GMx, aSo, GSo, aSs, GSs, aUp, GUp, aEn, GEn, aSa, GSa, aCm, GCm⟩ := V
  have hu := hr.units
  have hu0 := hr.units0
  have hu2 := Nat.lt_of_le_of_lt (Nat.add_le_add_left (show 1 ≤ 64 by decide) _) hr.units
  refine ⟨_, ps_if (pt_val (pe_callB (cr_any rfl) (by rfl) T.any boot_any (pa_cons (pe_lc (own := [("_law_thing", 17)]) (g := gName 17) (tt := tYes) rfl scLaw.nd (pi_tup (pe_tup (pa_cons pe_non (pa_cons pe_int (pa_cons pe_str (pa_cons (pe_lst pa_nil) (pa_cons pe_dnewK (pa_cons (pe_tup (pa_cons pe_str pa_nil)) (pa_cons pe_str (pa_cons pe_str (pa_cons pe_str pa_nil))))))))))) (blkOk_by (own := [("_law_thing", 17)]) (N := ["_law_script", "_law_stream", "_law_turn", "_law_a", "_law_b", "_law_passed", "_law_one", "_law_two", "_law_told", "_law_found", "_law_rest", "_law_due", "_law_odd", "_law_row", "_law_bad", "_law_k", "_law_word", "_law_thing"]) (sc := defScope sLaw) (by decide +kernel)) (fun _ _ _ _ _ => (pg_name (i := 17) scLaw.nd rfl (Or.inl rfl))) (fun _ _ _ _ _ => pts_nil) (fun _ _ _ _ _ => (by exact (pe_cmpR (op_inO M.gC (hr.mono (by decide)) M.bC pass0 (R.me "__contains__" (by decide +kernel))) (pv 17) (pv 6) (by rfl))))) pa_nil))) (pss_one (ps_ret pe_bl)) (pss_nil), fun D σ H' hA k => ?_⟩
  obtain ⟨a, b, o1, o2, as, bs, x2, x5, x8, x9, x10, x11, x12, x13, x14, rfl, ⟨c', hc', S⟩, hc, R0⟩ := hA
  obtain ⟨dx, p, h1, h2⟩ := id R0.r1
  refine ⟨Nat.zero_le _, fun q1 n1 => fun q2 n2 => ⟨by show 1 ≤ sizeLine; decide, fun q3 n3 => ⟨by show 9 ≤ sizeLine; decide, fun q4 n4 => ?_⟩⟩⟩
  have t1 := same_mk (o := .lst []) n1
  have t2 := same_mk (o := .dK []) n2
  have t3 := same_mk (o := .tup [.str "tool"]) n3
  have t4 := same_mk (o := .tup [.non, .int 5, .str "", .ref q1, .ref q2, .ref q3, .str "Tool", .str "read", .str "list"]) n4
  have t14 := t1.trans (t2.trans (t3.trans t4))
  have f1 := (t2.trans (t3.trans t4)) _ _ (upd_same (H := H') (a := q1) (o := .lst []))
  have f2 := (t3.trans t4) _ _ (upd_same (a := q2) (o := .dK []))
  have f3 := t4 _ _ (upd_same (a := q3) (o := .tup [.str "tool"]))
  have f4 := upd_same (H := upd (upd (upd H' q1 (.lst [])) q2 (.dK [])) q3 (.tup [.str "tool"])) (a := q4) (o := .tup [.non, .int 5, .str "", .ref q1, .ref q2, .ref q3, .str "Tool", .str "read", .str "list"])
  generalize upd (upd (upd (upd H' q1 (.lst [])) q2 (.dK [])) q3 (.tup [.str "tool"])) q4 (.tup [.non, .int 5, .str "", .ref q1, .ref q2, .ref q3, .str "Tool", .str "read", .str "list"]) = H4 at t14 f1 f2 f3 f4 ⊢
  have odd : ∀ x ∈ [V.non, .int 5, .str "", .ref q1, .ref q2, .ref q3, .str "Tool", .str "read", .str "list"], Odd H4 x ∨ ∃ z, x = .str z ∧ z ∉ srt := by
    intro x hx
    simp only [List.mem_cons, List.not_mem_nil, or_false] at hx
    rcases hx with rfl | rfl | rfl | rfl | rfl | rfl | rfl | rfl | rfl
    · exact .inl .non
    · exact .inl (.int _)
    · exact .inr ⟨_, rfl, by decide +kernel⟩
    · exact .inl (.lst f1)
    · exact .inl (.dct f2)
    · exact .inl (.tup f3)
    · exact .inr ⟨_, rfl, by decide +kernel⟩
    · exact .inr ⟨_, rfl, by decide +kernel⟩
    · exact .inr ⟨_, rfl, by decide +kernel⟩
  refine ⟨q4, rfl, ⟨_, SqT.of f4⟩, fun D1 hD => ?_⟩
  refine lcW (walk_tup (K := K) (a := q4) (xs := [V.non, .int 5, .str "", .ref q1, .ref q2, .ref q3, .str "Tool", .str "read", .str "list"])) (List.replicate 9 (.bl false)) rfl (show 9 < 1000000 by decide) hD (fun H' s' => sameT s' (SqT.of f4)) ?_ ?_
  · rintro i x y H2 H3 hy s2 ⟨rfl, hx⟩ Q1 k1
    have ey : y = .bl false := List.eq_of_mem_replicate (List.mem_of_getElem? hy)
    subst ey
    have s02 := t14.trans s2
    refine ⟨_, rfl, _, rfl, o1, dx, _, rfl, s02 _ _ h1, o1, _, canon as, rfl, R0.r1.up s02, ?_⟩
    rcases odd x (List.mem_of_getElem? hx) with o | ⟨z, rfl, hz⟩
    · exact .inr ⟨o.up s2, _, rfl, k1 _ (Same.refl _)⟩
    · refine .inl ⟨z, rfl, false, ?_, k1 _ (Same.refl _)⟩
      rw [decide_eq_false fun q => hz (canon_sub as z q)]
  · intro H1 s1 hD1
    refine ⟨D1, List.replicate 9 false, rfl, SqL.of hD1, _, rfl, iteF ?_⟩
    exact k _ _ ⟨a, b, o1, o2, as, bs, _, _, _, _, _, _, _, _, _, rfl, ⟨c', hc', S.up (t14.trans s1)⟩, hc, R0.same (t14.trans s1)⟩
end
end R

set_option maxHeartbeats 3900000
namespace R
open PySem PySem.Spec PyProof.Rows L2 TL RP
open C8 (pss_cut tCut pe_gc)
open CB OW MX
def orS (as bs : List Str) : List Str := srt.filter fun z => decide (z ∈ canon as) || decide (z ∈ canon bs)
def andS (as bs : List Str) : List Str := srt.filter fun z => decide (z ∈ canon as) && decide (z ∈ canon bs)
def notS (as : List Str) : List Str := srt.filter fun z => !decide (z ∈ canon as)
def dF (as bs : List Str) : PyData := .list [strL (orS as bs), strL (andS as bs), strL (notS as), strL (canon as), strL (canon bs)]
theorem fine_filter (p : Str → Bool) : Fine (strL (srt.filter p)) 1 80 := fine_strL (fun z hz => (List.mem_filter.mp hz).1) (List.length_filter_le _ srt)
theorem fine_dF (as bs : List Str) : Fine (dF as bs) 20 1000 := by
  refine (Fine.lst (dep := 1) (n := 80) (m := 1000) (fun d hd => ?_) (by show 2 + 5 * 82 ≤ 1000; decide)).up (by decide) (Nat.le_refl _)
  simp only [List.mem_cons, List.not_mem_nil, or_false] at hd
  rcases hd with rfl | rfl | rfl | rfl | rfl <;> exact fine_filter _
theorem due_or {as bs : List Str} (ga : GoodS as) (gb : GoodS bs) : canon (as ++ bs) = orS as bs := by
  refine List.filter_congr fun z hz => ?_
  rw [Bool.eq_iff_iff, decide_eq_true_iff, Bool.or_eq_true, decide_eq_true_iff, decide_eq_true_iff, List.mem_append, mem_canon ga, mem_canon gb]
theorem due_and {as bs : List Str} (ga : GoodS as) (gb : GoodS bs) : (canon as).filter (fun z => decide (z ∈ bs)) = andS as bs := by
  show (srt.filter _).filter _ = _
  rw [List.filter_filter]
  refine List.filter_congr fun z hz => ?_
  rw [Bool.eq_iff_iff, Bool.and_eq_true, Bool.and_eq_true, decide_eq_true_iff, decide_eq_true_iff, decide_eq_true_iff, decide_eq_true_iff, mem_canon ga, mem_canon gb, and_comm]
theorem due_not {as : List Str} (ga : GoodS as) : srt.filter (fun z => !decide (z ∈ as)) = notS as := by
  refine List.filter_congr fun z hz => ?_
  rw [show decide (z ∈ as) = decide (z ∈ canon as) from decide_eq_decide.mpr (mem_canon ga z).symm]
theorem not_not {as : List Str} (ga : GoodS as) : (srt.filter fun z => !decide (z ∈ notS as)) = canon as := by
  refine List.filter_congr fun z hz => ?_
  rw [Bool.eq_iff_iff, Bool.not_eq_true', decide_eq_false_iff_not, decide_eq_true_iff, ← mem_canon ga z]
  constructor
  · intro h
    exact Classical.byContradiction fun q => h (List.mem_filter.mpr ⟨hz, by rw [decide_eq_false q]; rfl⟩)
  · intro h q
    have := (List.mem_filter.mp q).2
    rw [decide_eq_true h] at this
    cases this
theorem canon_perm {as ys : List Str} (h : ys.Perm as) : canon ys = canon as := by
  refine List.filter_congr fun z hz => ?_
  exact decide_eq_decide.mpr h.mem_iff
def JF (K : PySem.W.Frag) (C : Addr) (v0 : V) (st l : Addr) (c : Nat) : L2.St → Hp → Prop := fun σ H => ∃ (a b o1 o2 q : Addr) (as bs : List Str) (x2 x5 x8 x10 x11 x12 x13 x14 : Option V), σ = [some v0, some (.ref st), x2, some (.ref a), some (.ref b), x5, some (.ref o1), some (.ref o2), x8, some (.ref q), x10, x11, x12, x13, x14, none, none, none] ∧ (∃ c' ≤ c + 15, Strm H st l c') ∧ c ≤ 500 ∧
  Cor C st l H a b o1 o2 as bs ∧ Dq K H (.ref q) (dF as bs)
def JR (K : PySem.W.Frag) (C : Addr) (v0 : V) (st l : Addr) (c : Nat) : L2.St → Hp → Prop := fun σ H => ∃ (a b o1 o2 q r : Addr) (as bs : List Str) (x2 x5 x8 x11 x12 x13 x14 : Option V), σ = [some v0, some (.ref st), x2, some (.ref a), some (.ref b), x5, some (.ref o1), some (.ref o2), x8, some (.ref q), some (.ref r), x11, x12, x13, x14, none, none, none] ∧ (∃ c' ≤ c + 15, Strm H st l c') ∧ c ≤ 500 ∧
  Cor C st l H a b o1 o2 as bs ∧ Dq K H (.ref q) (dF as bs) ∧ H r = some (.lst ((notS as).map V.str))
def JD (K : PySem.W.Frag) (C : Addr) (v0 : V) (st l : Addr) (c : Nat) : L2.St → Hp → Prop := fun σ H => ∃ (a b o1 o2 q u : Addr) (as bs : List Str) (x2 x5 x8 x10 x12 x13 x14 : Option V), σ = [some v0, some (.ref st), x2, some (.ref a), some (.ref b), x5, some (.ref o1), some (.ref o2), x8, some (.ref q), x10, some (.ref u), x12, x13, x14, none, none, none] ∧ (∃ c' ≤ c + 15, Strm H st l c') ∧ c ≤ 500 ∧
  Cor C st l H a b o1 o2 as bs ∧ Dq K H (.ref q) (dF as bs) ∧ Dq K H (.ref u) (dF as bs)
section
variable {P : Program} {w : World} {K : PySem.W.Frag} {mg : Str → Option Value} {base : Heap} {C CB : Addr} {ma : Str → Addr} {md : Str → FuncData} {fa : Str → Addr} {fd : Str → FuncData}
  {f : Addr} {cdv : Value} {A : Around} {outer : List Env} {s : Shared} {H : Hp} {E : XK} {v0 : V} {st l : Addr} {c : Nat}
theorem step12 (V : LV P w K mg base C CB ma md fa fd) (hr : Room 8 (A.deeper (envOfC "law" (defScope sLaw) s.heap.objs.size f cdv))) : Step (XL P w K mg base f cdv A outer s H E) (bd 12) (JC C v0 st l c 15) (JF K C v0 st l c) := by
  obtain ⟨T, R, M, aD, GD, aP, GP, aMx, GMx, aSo, GSo, aSs, GSs, aUp, GUp, aEn, GEn, aSa, GSa, aCm, GCm⟩ := V
  refine ⟨_, ps_set (i := 9) scLaw.nd rfl (Or.inl rfl) (pe_lst (pa_cons (pe_meth0 (pe_op (op_binO (op := .BitOr) M.gO (hr.mono (by decide)) M.bO pass0 R.sf (R.me "__or__" (by decide +kernel)).at_ (R.me "__or__" (by decide +kernel)).fn) (pv 6) (pv 7)) R.cl (R.me "sorts" (by decide +kernel)) M.gS (hr.mono (by decide)) M.bS .nil pass0) (pa_cons (pe_meth0 (pe_op (op_binO (op := .BitAnd) M.gA (hr.mono (by decide)) M.bA pass0 R.sf (R.me "__and__" (by decide +kernel)).at_ (R.me "__and__" (by decide +kernel)).fn) (pv 6) (pv 7)) R.cl (R.me "sorts" (by decide +kernel)) M.gS (hr.mono (by decide)) M.bS .nil pass0) (pa_cons (pe_meth0 (pe_un (OW.un_inv M.gV (hr.mono (by decide)) M.bV pass0 (R.me "__invert__" (by decide +kernel))) (pv 6)) R.cl (R.me "sorts" (by decide +kernel)) M.gS (hr.mono (by decide)) M.bS .nil pass0) (pa_cons (pe_meth0 (pv 6) R.cl (R.me "sorts" (by decide +kernel)) M.gS (hr.mono (by decide)) M.bS .nil pass0) (pa_cons (pe_meth0 (pv 7) R.cl (R.me "sorts" (by decide +kernel)) M.gS (hr.mono (by decide)) M.bS .nil pass0) pa_nil)))))), fun D σ H' hA k => ?_⟩
  obtain ⟨a, b, o1, o2, as, bs, x2, x5, x8, x9, x10, x11, x12, x13, x14, rfl, ⟨c', hc', S⟩, hc, R0⟩ := hA
  obtain ⟨dx, p, h1, h2⟩ := id R0.r1
  obtain ⟨dx2, p2, g1, g2⟩ := id R0.r2
  refine ⟨_, rfl, _, rfl, o1, o2, dx, dx2, _, _, rfl, rfl, h1, g1, o1, o2, canon as, canon bs, rfl, R0.r1, R0.r2, fun u1 H1 s1 hn1 hu1 => ?_⟩
  obtain ⟨dy1, q1, k1, k1'⟩ := id hu1
  refine ⟨u1, dy1, _, rfl, k1, lk_not (by decide +kernel), u1, orS as bs, rfl, hu1, fun t1 ht1 => ?_⟩
  have e1 := same_mk (o := .lst ((orS as bs).map V.str)) ht1
  have S1 := s1.trans e1
  have m1 := upd_same (H := H1) (a := t1) (o := .lst ((orS as bs).map V.str))
  generalize upd H1 t1 (.lst ((orS as bs).map V.str)) = H2 at S1 m1 ⊢
  refine ⟨_, rfl, _, rfl, o1, o2, dx, dx2, _, _, rfl, rfl, S1 _ _ h1, S1 _ _ g1, o1, o2, canon as, canon bs, rfl, R0.r1.up S1, R0.r2.up S1, fun u2 H3 s3 hn2 hu2 => ?_⟩
  obtain ⟨dy2, q2, k2, k2'⟩ := id hu2
  refine ⟨u2, dy2, _, rfl, k2, lk_not (by decide +kernel), u2, andS as bs, rfl, hu2, fun t2 ht2 => ?_⟩
  have e2 := same_mk (o := .lst ((andS as bs).map V.str)) ht2
  have S2 := s3.trans e2
  have m2 := upd_same (H := H3) (a := t2) (o := .lst ((andS as bs).map V.str))
  generalize upd H3 t2 (.lst ((andS as bs).map V.str)) = H4 at S2 m2 ⊢
  have S12 := S1.trans S2
  refine ⟨_, rfl, o1, dx, _, rfl, S12 _ _ h1, o1, canon as, rfl, R0.r1.up S12, fun u3 H5 s5 hn3 hu3 => ?_⟩
  obtain ⟨dy3, q3, k3, k3'⟩ := id hu3
  refine ⟨u3, dy3, _, rfl, k3, lk_not (by decide +kernel), u3, notS as, rfl, hu3, fun t3 ht3 => ?_⟩
  have e3 := same_mk (o := .lst ((notS as).map V.str)) ht3
  have S3 := s5.trans e3
  have m3 := upd_same (H := H5) (a := t3) (o := .lst ((notS as).map V.str))
  generalize upd H5 t3 (.lst ((notS as).map V.str)) = H6 at S3 m3 ⊢
  have S13 := S12.trans S3
  refine ⟨_, rfl, o1, dx, _, rfl, S13 _ _ h1, lk_not (by decide +kernel), o1, canon as, rfl, R0.r1.up S13, fun t4 ht4 => ?_⟩
  have S4 := same_mk (o := .lst ((canon as).map V.str)) ht4
  have S14 := S13.trans S4
  refine ⟨_, rfl, o2, dx2, _, rfl, S14 _ _ g1, lk_not (by decide +kernel), o2, canon bs, rfl, R0.r2.up S14, fun t5 ht5 => ?_⟩
  have S5 := same_mk (o := .lst ((canon bs).map V.str)) ht5
  refine ⟨by show 5 ≤ sizeLine; decide, fun q hq => ?_⟩
  have S6 := same_mk (o := .lst [.ref t1, .ref t2, .ref t3, .ref t4, .ref t5]) hq
  have S16 := S14.trans (S5.trans S6)
  have S26 := S2.trans (S3.trans (S4.trans (S5.trans S6)))
  have S36 := S3.trans (S4.trans (S5.trans S6))
  refine k _ _ ⟨a, b, o1, o2, q, as, bs, _, _, _, _, _, _, _, _, rfl, ⟨c', hc', S.up S16⟩, hc, R0.same S16, .lst upd_same (.cons (dq_strL (S26 _ _ m1)) (.cons (dq_strL (S36 _ _ m2)) (.cons (dq_strL ((S4.trans (S5.trans S6)) _ _ m3)) (.cons (dq_strL ((S5.trans S6) _ _ upd_same)) (.cons (dq_strL (S6 _ _ upd_same)) .nil)))))⟩
theorem step13 (V : LV P w K mg base C CB ma md fa fd) (hr : Room 8 (A.deeper (envOfC "law" (defScope sLaw) s.heap.objs.size f cdv))) : Step (XL P w K mg base f cdv A outer s H E) (bd 13) (JF K C v0 st l c) (JR K C v0 st l c) := by
  obtain ⟨T, R, M, aD, GD, aP, GP, aMx, GMx, aSo, GSo, aSs, GSs, aUp, GUp, aEn, GEn, aSa, GSa, aCm, GCm⟩ := V
  refine ⟨_, ps_setLc (i := 10) (own := [("_law_word", 16)]) (g := gName 16) (tt := _) rfl scLaw.nd rfl rfl (sw_true rfl rfl rfl (by decide +kernel)) (pi_list (pe_call0 GSo (hr.mono (by decide)) rfl aSo.m aSo.k aSo.b .nil pass0)) (blkOk_by (own := [("_law_word", 16)]) (N := ["_law_script", "_law_stream", "_law_turn", "_law_a", "_law_b", "_law_passed", "_law_one", "_law_two", "_law_told", "_law_found", "_law_rest", "_law_due", "_law_odd", "_law_row", "_law_bad", "_law_k", "_law_word", "_law_thing"]) (sc := defScope sLaw) (by decide +kernel)) (fun _ _ _ _ _ => (pg_name (i := 16) scLaw.nd rfl (Or.inl rfl))) (fun _ _ _ _ _ => (by exact pts_one (pt_cmpR (notIn_seqK (K0 := K) rfl) (pv 16) (pv 3) (by rfl)))) (fun _ _ _ _ _ => (by exact (pv 16))), fun D σ H' hA k => ?_⟩
  obtain ⟨a, b, o1, o2, q, as, bs, x2, x5, x8, x10, x11, x12, x13, x14, rfl, ⟨c', hc', S⟩, hc, R0, dq⟩ := hA
  refine ⟨rfl, fun p hp => ?_⟩
  have s0 := same_mk (o := .lst (srt.map V.str)) hp
  refine ⟨p, rfl, ⟨_, SqL.of upd_same⟩, fun D1 hD => ?_⟩
  refine lcF (walk_list (K := K) (a := p) (xs := srt.map V.str)) srt (fun z => !decide (z ∈ as)) (by rw [List.length_map]) (by decide) (fun i H x H' y => ⟨y.1, y.2⟩) hD (fun H' s' => SqL.of (s' _ _ upd_same)) ?_ ?_ ?_
  · intro z H2 hz s2 Q1 k1
    exact ⟨_, rfl, _, rfl, nin_row ⟨a, rfl, .inr ((s0.trans s2) _ _ R0.la.h)⟩ ⟨_, rfl, k1 H2 (Same.refl H2)⟩⟩
  · intro z H2 Q1 hz k1
    exact ⟨_, rfl, k1⟩
  · intro H1 s1 hD1
    have s01 := s0.trans s1
    rw [due_not R0.ga] at hD1
    exact k _ _ ⟨a, b, o1, o2, q, D1, as, bs, _, _, _, _, _, _, _, rfl, ⟨c', hc', S.up s01⟩, hc, R0.same s01, dq.up s01, hD1⟩
theorem step14 (V : LV P w K mg base C CB ma md fa fd) (hr : Room 8 (A.deeper (envOfC "law" (defScope sLaw) s.heap.objs.size f cdv))) : Step (XL P w K mg base f cdv A outer s H E) (bd 14) (JR K C v0 st l c) (JD K C v0 st l c) := by
  obtain ⟨T, R, M, aD, GD, aP, GP, aMx, GMx, aSo, GSo, aSs, GSs, aUp, GUp, aEn, GEn, aSa, GSa, aCm, GCm⟩ := V
  refine ⟨_, ps_set (i := 11) scLaw.nd rfl (Or.inl rfl) (pe_lst (pa_cons (pe_call GUp (hr.mono (by decide)) rfl aUp.m aUp.k aUp.b .nil pass0 (pa_cons (pe_op op_cat (pv 3) (pv 4)) pa_nil)) (pa_cons (pe_lc (own := [("_law_word", 16)]) (g := gName 16) (tt := _) rfl scLaw.nd (pi_list (pe_call GUp (hr.mono (by decide)) rfl aUp.m aUp.k aUp.b .nil pass0 (pa_cons (pv 3) pa_nil))) (blkOk_by (own := [("_law_word", 16)]) (N := ["_law_script", "_law_stream", "_law_turn", "_law_a", "_law_b", "_law_passed", "_law_one", "_law_two", "_law_told", "_law_found", "_law_rest", "_law_due", "_law_odd", "_law_row", "_law_bad", "_law_k", "_law_word", "_law_thing"]) (sc := defScope sLaw) (by decide +kernel)) (fun _ _ _ _ _ => (pg_name (i := 16) scLaw.nd rfl (Or.inl rfl))) (fun _ _ _ _ _ => (by exact pts_one (pt_cmpR (in_seqK (K0 := K) rfl) (pv 16) (pv 4) (by rfl)))) (fun _ _ _ _ _ => (by exact (pv 16)))) (pa_cons (pv 10) (pa_cons (pe_call GUp (hr.mono (by decide)) rfl aUp.m aUp.k aUp.b .nil pass0 (pa_cons (pv 3) pa_nil)) (pa_cons (pe_call GUp (hr.mono (by decide)) rfl aUp.m aUp.k aUp.b .nil pass0 (pa_cons (pv 4) pa_nil)) pa_nil)))))), fun D σ H' hA k => ?_⟩
  obtain ⟨a, b, o1, o2, q, r, as, bs, x2, x5, x8, x11, x12, x13, x14, rfl, ⟨c', hc', S⟩, hc, R0, dq, hrr⟩ := hA
  have l1 := R0.ga.len
  have l2 := R0.gb.len
  refine ⟨_, rfl, _, rfl, a, b, as.map V.str, bs.map V.str, rfl, rfl, R0.la.h, R0.lb.h, ?_, fun p hp => ?_⟩
  · rw [List.length_map, List.length_map]
    exact Nat.le_trans (show as.length + bs.length ≤ 12 by omega) (by decide)
  have s0 := same_mk (o := .lst (as.map V.str ++ bs.map V.str)) hp
  refine ⟨_, as ++ bs, rfl, ⟨p, rfl, .inr (by rw [upd_same, List.map_append])⟩, fun D1 H1 hD1 s1 hD1' => ?_⟩
  have s01 := s0.trans s1
  rw [due_or R0.ga R0.gb] at hD1'
  refine ⟨_, rfl, _, as, rfl, ⟨a, rfl, .inr (s01 _ _ R0.la.h)⟩, fun D2 H2 hD2 s2 hD2' => ?_⟩
  have s02 := s01.trans s2
  refine ⟨D2, rfl, ⟨_, SqL.of hD2'⟩, fun D3 hD3 => ?_⟩
  refine lcF (walk_list (K := K) (a := D2) (xs := (canon as).map V.str)) (canon as) (fun z => decide (z ∈ bs)) (by rw [List.length_map]) (Nat.lt_of_le_of_lt (by rw [List.length_map]; exact canon_len as) (show 6 < 1000000 by decide)) (fun i H x H' y => ⟨y.1, y.2⟩) hD3 (fun H' s' => SqL.of (s' _ _ hD2')) ?_ ?_ ?_
  · intro z H3 hz s3 Q1 k1
    exact ⟨_, rfl, _, rfl, in_row ⟨b, rfl, .inr ((s02.trans s3) _ _ R0.lb.h)⟩ ⟨_, rfl, k1 H3 (Same.refl H3)⟩⟩
  · intro z H3 Q1 hz k1
    exact ⟨_, rfl, k1⟩
  · intro H3 s3 hD3'
    rw [due_and R0.ga R0.gb] at hD3'
    have s03 := s02.trans s3
    refine ⟨_, rfl, _, rfl, _, as, rfl, ⟨a, rfl, .inr (s03 _ _ R0.la.h)⟩, fun D4 H4 hD4 s4 hD4' => ?_⟩
    have s04 := s03.trans s4
    refine ⟨_, rfl, _, bs, rfl, ⟨b, rfl, .inr (s04 _ _ R0.lb.h)⟩, fun D5 H5 hD5 s5 hD5' => ⟨by show 5 ≤ sizeLine; decide, fun u hu => ?_⟩⟩
    have s6 := same_mk (o := .lst [.ref D1, .ref D3, .ref r, .ref D4, .ref D5]) hu
    have s06 := s04.trans (s5.trans s6)
    exact k _ _ ⟨a, b, o1, o2, q, u, as, bs, _, _, _, _, _, _, _, rfl, ⟨c', hc', S.up s06⟩, hc, R0.same s06, dq.up s06, .lst upd_same (.cons (dq_strL ((s2.trans (s3.trans (s4.trans (s5.trans s6)))) _ _ hD1')) (.cons (dq_strL ((s4.trans (s5.trans s6)) _ _ hD3')) (.cons (dq_strL (s06 _ _ hrr)) (.cons (dq_strL ((s5.trans s6) _ _ hD4')) (.cons (dq_strL (s6 _ _ hD5')) .nil)))))⟩
theorem step15 (V : LV P w K mg base C CB ma md fa fd) (hg : A.guards = some []) (hr : Room 8 (A.deeper (envOfC "law" (defScope sLaw) s.heap.objs.size f cdv))) : Step (XL P w K mg base f cdv A outer s H E) (bd 15) (JD K C v0 st l c) (JC C v0 st l c 21) := by
  obtain ⟨T, R, M, aD, GD, aP, GP, aMx, GMx, aSo, GSo, aSs, GSs, aUp, GUp, aEn, GEn, aSa, GSa, aCm, GCm⟩ := V
  have hu := hr.units
  have hu0 := hr.units0
  have hu2 := Nat.lt_of_le_of_lt (Nat.add_le_add_left (show 1 ≤ 64 by decide) _) hr.units
  refine ⟨_, ps_if (PW.pt (pw_or (pt_not (pt_val (pe_callG GSa hg (hr.mono (by decide)) rfl aSa.m aSa.k aSa.b pass0 (pa_cons (pv 9) (pa_cons (pv 11) pa_nil))))) (pw_or (pt_not (pt_val (pe_callB call_isi (by rfl) T.isinstance (by decide +kernel) (pa_cons (pe_op (op_binO (op := .BitOr) M.gO (hr.mono (by decide)) M.bO pass0 R.sf (R.me "__or__" (by decide +kernel)).at_ (R.me "__or__" (by decide +kernel)).fn) (pv 6) (pv 7)) (pa_cons (pe_glob (v := .ref C) rfl R.mg rfl) pa_nil))))) (pw_or1 (pt_cmpR (op_neO M.gE (hr.mono (by decide)) hu2 M.bE pass0 (R.me "__eq__" (by decide +kernel)) R.ne R.so) (pe_un (OW.un_inv M.gV (hr.mono (by decide)) M.bV pass0 (R.me "__invert__" (by decide +kernel))) (pe_un (OW.un_inv M.gV (hr.mono (by decide)) M.bV pass0 (R.me "__invert__" (by decide +kernel))) (pv 6))) (pe_make R.mak M.gI (hr.mono (by decide)) rfl R.mg M.bI .nil pass0 (pa_cons (pe_call GMx (hr.mono (by decide)) rfl aMx.m aMx.k aMx.b .nil pass0 (pa_cons (pv 1) (pa_cons (pv 3) pa_nil))) pa_nil)) (nomark _)))))) (pss_one (ps_ret pe_bl)) (pss_nil), fun D σ H' hA k => ?_⟩
  obtain ⟨a, b, o1, o2, q, u, as, bs, x2, x5, x8, x10, x12, x13, x14, rfl, ⟨c', hc', S⟩, hc, R0, dq, du⟩ := hA
  obtain ⟨dx, p, h1, h2⟩ := id R0.r1
  obtain ⟨dx2, p2, g1, g2⟩ := id R0.r2
  have l1 := R0.ga.len
  refine ⟨_, rfl, _, rfl, _, _, dF as bs, rfl, dq, du, fine_dF as bs, _, rfl, iteF ?_⟩
  refine ⟨_, rfl, _, rfl, o1, o2, dx, dx2, _, _, rfl, rfl, h1, g1, o1, o2, canon as, canon bs, rfl, R0.r1, R0.r2, fun u1 H1 s1 hn1 hu1 => ?_⟩
  obtain ⟨dy1, q1, k1, k1'⟩ := id hu1
  refine ⟨_, _, .ref C, .ref C, true, rfl, .own C, .base (.ins k1 R.cl R.ha R.hn R.ht R.hm), R.kC, _, rfl, iteF ?_⟩
  refine ⟨_, rfl, o1, dx, _, rfl, s1 _ _ h1, o1, canon as, rfl, R0.r1.up s1, fun u2 H2 s2 hn2 hu2 => ?_⟩
  obtain ⟨dy2, q2, k2, k2'⟩ := id hu2
  refine ⟨u2, dy2, _, rfl, k2, u2, notS as, rfl, hu2, fun u3 H3 s3 hn3 hu3 => ?_⟩
  rw [not_not R0.ga] at hu3
  have s13 := s1.trans (s2.trans s3)
  have S3 := S.up s13
  have R3 := R0.same s13
  refine ⟨_, rfl, _, rfl, st, l, a, c', _, rfl, S3, by omega, R3.la, by rw [List.length_map]; omega, fun D ys H4 pm hD L4 B4 S4 => ?_⟩
  obtain ⟨ws, rfl, pw⟩ := perm_strs pm
  rw [List.length_map] at S4
  have sm : ∀ (H : Hp) x dx, H x = none → H dx = none → dx ≠ x → Same H (upd (upd H dx (.own x)) x (.ins C dx [])) := fun H x dx hx hdx hne b u hb => by
    have n1 : b ≠ x := fun e => by rw [e, hx] at hb; cases hb
    have n2 : b ≠ dx := fun e => by rw [e, hdx] at hb; cases hb
    rw [upd_ne n1, upd_ne n2]
    exact hb
  intro o3 dx3 hx hdx hne
  refine ⟨o3, dx3, _, ws, rfl, upd_same, ⟨D, rfl, .inr (sm _ _ _ hx hdx hne _ _ L4.h)⟩, good_perm pw R0.ga, fun H5 kp hru => ⟨rfl, ?_⟩⟩
  have s5 : Same H4 H5 := fun b u hb => kp b u (sm _ _ _ hx hdx hne b u hb) fun e => by rw [e, hx] at hb; cases hb
  rw [canon_perm pw] at hru
  have hu5 := (hu3.but S3 B4).up s5
  obtain ⟨dy3, q3, k3, k3'⟩ := id hu5
  obtain ⟨dy4, q4, k4, k4'⟩ := id hru
  have n1 := canon_len as
  refine ⟨u3, o3, dy3, dy4, _, _, rfl, rfl, k3, k4, u3, _, canon as, rfl, hu5, by omega, canon_sub as, .inl ⟨o3, canon as, rfl, hru, by omega, canon_sub as, _, rfl, ?_⟩⟩
  rw [decide_eq_true rfl]
  refine ⟨_, rfl, iteF ?_⟩
  exact k _ _ ⟨a, b, o1, o2, as, bs, _, _, _, _, _, _, _, _, _, rfl, ⟨c' + as.length, by omega, S4.up s5⟩, hc, (R3.but S3 B4).same s5⟩
end
end R

set_option maxHeartbeats 3900000
namespace R
open PySem PySem.Spec PyProof.Rows L2 TL RP
open C8 (pss_cut tCut pe_gc)
open CB OW MX
/-- what may stand for the odd one -/
inductive OddI (H : Hp) (st l : Addr) : V → PyData → Prop
  | non : OddI H st l .non .none
  | int : OddI H st l (.int 5) (.int 5)
  | tru : OddI H st l (.bl true) (.bool true)
  | str (z : Str) (h : z = "" ∨ z = "read" ∨ z = "Tool") : OddI H st l (.str z) (.str z)
  | tup {p : Addr} (h : H p = some (.tup [.str "tool"])) : OddI H st l (.ref p) (.tuple [.str "tool"])
  | lst {p : Addr} (h : H p = some (.lst [.str "names"])) (n1 : p ≠ st) (n2 : p ≠ l) : OddI H st l (.ref p) (.list [.str "names"])
  | dct {p : Addr} (h : H p = some (.dK [])) : OddI H st l (.ref p) (.dict [])
theorem OddI.but {H H' : Hp} {st l : Addr} {c : Nat} {y : V} {d : PyData} (h : OddI H st l y d) (S : Strm H st l c) (B : But st l H H') : OddI H' st l y d := by
  obtain ⟨ns, a, m, ⟨g1, g2⟩, _⟩ := S.ex
  cases h with
  | non => exact .non
  | int => exact .int
  | tru => exact .tru
  | str z h => exact .str z h
  | tup h => exact .tup (B _ _ h (ne_of h g1 (by intro z; cases z)) (ne_of h g2 (by intro z; cases z)))
  | lst h n1 n2 => exact .lst (B _ _ h n1 n2) n1 n2
  | dct h => exact .dct (B _ _ h (ne_of h g1 (by intro z; cases z)) (ne_of h g2 (by intro z; cases z)))
theorem OddI.same {H H' : Hp} {st l : Addr} {y : V} {d : PyData} (h : OddI H st l y d) (s : Same H H') : OddI H' st l y d := by
  cases h with
  | non => exact .non
  | int => exact .int
  | tru => exact .tru
  | str z h => exact .str z h
  | tup h => exact .tup (s _ _ h)
  | lst h n1 n2 => exact .lst (s _ _ h) n1 n2
  | dct h => exact .dct (s _ _ h)
theorem OddI.dq {K : PySem.W.Frag} {H : Hp} {st l : Addr} {y : V} {d : PyData} (h : OddI H st l y d) : Dq K H y d := by
  cases h with
  | non => exact .non
  | int => exact .int 5
  | tru => exact .bl true
  | str z h => exact .str z
  | tup h => exact .tup h (.cons (.str "tool") .nil)
  | lst h n1 n2 => exact .lst h (.cons (.str "names") .nil)
  | dct h => exact .dct h .nil
theorem OddI.fine {H : Hp} {st l : Addr} {y : V} {d : PyData} (h : OddI H st l y d) : Fine d 2 60 := by
  cases h with
  | non => exact ⟨by decide +kernel, by decide +kernel, by decide +kernel⟩
  | int => exact ⟨by decide +kernel, by decide +kernel, by decide +kernel⟩
  | tru => exact ⟨by decide +kernel, by decide +kernel, by decide +kernel⟩
  | str z h => rcases h with rfl | rfl | rfl <;> exact ⟨by decide +kernel, by decide +kernel, by decide +kernel⟩
  | tup h => exact ⟨by decide +kernel, by decide +kernel, by decide +kernel⟩
  | lst h n1 n2 => exact ⟨by decide +kernel, by decide +kernel, by decide +kernel⟩
  | dct h => exact ⟨by decide +kernel, by decide +kernel, by decide +kernel⟩
theorem OddI.bad {H : Hp} {st l : Addr} {y : V} {d : PyData} (h : OddI H st l y d) : Odd H y ∨ ∃ z, y = .str z ∧ z ∉ srt := by
  cases h with
  | non => exact .inl .non
  | int => exact .inl (.int 5)
  | tru => exact .inl (.bl true)
  | str z h => exact .inr ⟨z, rfl, by rcases h with rfl | rfl | rfl <;> decide +kernel⟩
  | tup h => exact .inl (.tup h)
  | lst h n1 n2 => exact .inl (.lst h)
  | dct h => exact .inl (.dct h)
/-- beside a text -/
theorem OddI.eqL {K : PySem.W.Frag} {H : Hp} {st l : Addr} {y : V} {d : PyData} (h : OddI H st l y d) (b : Str) : StrEq K H y (.str b) (decide (y = .str b)) := by
  have no : ∀ {v : V}, (∀ z, v ≠ .str z) → decide (v = .str b) = false := fun h => decide_eq_false (h b)
  cases h with
  | non => rw [no fun z => by intro e; cases e]; exact .nonL b
  | int => rw [no fun z => by intro e; cases e]; exact .intL 5 b
  | tru => rw [no fun z => by intro e; cases e]; exact .blL true b
  | str z h => rw [dec_str]; exact .str z b
  | tup h => rw [no fun z => by intro e; cases e]; exact .tupL (SqT.of h) b
  | lst h n1 n2 => rw [no fun z => by intro e; cases e]; exact .lstL (SqL.of h) b
  | dct h => rw [no fun z => by intro e; cases e]; exact .dctL h b
theorem OddI.eqR {K : PySem.W.Frag} {H : Hp} {st l : Addr} {y : V} {d : PyData} (h : OddI H st l y d) (b : Str) : StrEq K H (.str b) y (decide (V.str b = y)) := by
  have no : ∀ {v : V}, (∀ z, v ≠ .str z) → decide (V.str b = v) = false := fun h => decide_eq_false fun e => h b e.symm
  cases h with
  | non => rw [no fun z => by intro e; cases e]; exact .nonR b
  | int => rw [no fun z => by intro e; cases e]; exact .intR 5 b
  | tru => rw [no fun z => by intro e; cases e]; exact .blR true b
  | str z h => rw [dec_str]; exact .str b z
  | tup h => rw [no fun z => by intro e; cases e]; exact .tupR (SqT.of h) b
  | lst h n1 n2 => rw [no fun z => by intro e; cases e]; exact .lstR (SqL.of h) b
  | dct h => rw [no fun z => by intro e; cases e]; exact .dctR h b
structure RowF (xs : List V) (as : List Str) (y : V) : Prop where
  mem : ∀ x ∈ xs, (∃ z ∈ as, x = .str z) ∨ x = y
  all : ∀ z ∈ as, V.str z ∈ xs
  one : (∀ z, y ≠ .str z) → xs.count y ≤ 1
  len : xs.length ≤ 8
def badB (xs : List V) (i : Nat) : Bool := !decide (xs.getD i .non ∈ srt.map V.str) || decide (xs.getD i .non ∈ xs.take i)
theorem any_dec (xs : List V) (x : V) : (xs.any fun z => decide (z = x)) = decide (x ∈ xs) := by
  rw [Bool.eq_iff_iff, List.any_eq_true, decide_eq_true_iff]
  constructor
  · rintro ⟨z, hz, e⟩
    rw [← of_decide_eq_true e]
    exact hz
  · intro h
    exact ⟨x, h, decide_eq_true rfl⟩
theorem first_bad (p : Nat → Bool) : ∀ n, (∀ i < n, p i = false) ∨ ∃ m < n, p m = true ∧ ∀ i < m, p i = false
  | 0 => .inl fun i h => absurd h (by omega)
  | n + 1 => by
    rcases first_bad p n with h | ⟨m, h1, h2, h3⟩
    · cases hp : p n with
      | true => exact .inr ⟨n, by omega, hp, h⟩
      | false =>
        refine .inl fun i hi => ?_
        by_cases e : i = n
        · rw [e]; exact hp
        · exact h i (by omega)
    · exact .inr ⟨m, by omega, h2, h3⟩
theorem good_pre (xs : List V) : ∀ n ≤ xs.length, (∀ i < n, badB xs i = false) → ∃ ws : List Str, xs.take n = ws.map V.str ∧ GoodS ws
  | 0, _, _ => ⟨[], by simp, by simp, by simp⟩
  | n + 1, hn, h => by
    obtain ⟨ws, e, g⟩ := good_pre xs n (by omega) fun i hi => h i (by omega)
    have hl : n < xs.length := hn
    have hb := h n (by omega)
    have ex : xs.getD n .non = xs[n] := by rw [List.getD_eq_getElem?_getD, List.getElem?_eq_getElem hl]; rfl
    unfold badB at hb
    rw [ex, Bool.or_eq_false_iff, Bool.not_eq_false', decide_eq_true_iff, decide_eq_false_iff_not] at hb
    obtain ⟨z, hz, ez⟩ := List.mem_map.mp hb.1
    refine ⟨ws ++ [z], ?_, ?_, ?_⟩
    · rw [List.take_succ, List.getElem?_eq_getElem hl, e, List.map_append, ← ez]
      rfl
    · intro u hu
      rcases List.mem_append.mp hu with h | h
      · exact g.1 u h
      · rw [List.mem_singleton.mp h]; exact hz
    · rw [List.nodup_append]
      refine ⟨g.2, by simp, fun u hu v hv => ?_⟩
      rw [List.mem_singleton.mp hv]
      rintro rfl
      refine hb.2 ?_
      rw [← ez, e]
      exact List.mem_map_of_mem hu
theorem pick_none (xs : List V) (p : Nat → Bool) (n : Nat) (h : ∀ i < n, p i = false) : pick xs p n = [] := by
  unfold pick
  rw [List.filter_eq_nil_iff.mpr fun i hi => by rw [h i (List.mem_range.mp hi)]; decide]
  rfl
theorem pick_first (xs : List V) (p : Nat → Bool) {m : Nat} (h : ∀ i < m, p i = false) (hm : p m = true) : ∀ k, ∃ r, pick xs p (m + 1 + k) = xs.getD m .non :: r
  | 0 => ⟨[], by
      show pick xs p (m + 1) = _
      rw [pick_succ, pick_none xs p m h, if_pos hm]; rfl⟩
  | k + 1 => by
    obtain ⟨r, e⟩ := pick_first xs p h hm k
    exact ⟨r ++ (if p (m + 1 + k) = true then [xs.getD (m + 1 + k) .non] else []), by
      show pick xs p (m + 1 + k + 1) = _
      rw [pick_succ, e]; rfl⟩
/-- how a row ends -/
theorem row_ends {H : Hp} {st l : Addr} {xs : List V} {as : List Str} {y : V} {d : PyData} (R : RowF xs as y) (ga : GoodS as) (o : OddI H st l y d) :
    (pick xs (badB xs) xs.length = [] ∧ ∃ ws : List Str, xs = ws.map V.str ∧ GoodS ws ∧ canon ws = canon as) ∨
    ∃ (x : V) (r : List V) (ws : List Str) (rest : List V), pick xs (badB xs) xs.length = x :: r ∧ xs = ws.map V.str ++ x :: rest ∧ GoodS ws ∧ BadX H ws x ∧ ((∃ z ∈ as, x = .str z) ∨ x = y) := by
  rcases first_bad (badB xs) xs.length with h | ⟨m, hm, hb, h⟩
  · left
    refine ⟨pick_none _ _ _ h, ?_⟩
    obtain ⟨ws, e, g⟩ := good_pre xs xs.length (Nat.le_refl _) h
    rw [List.take_length] at e
    refine ⟨ws, e, g, List.filter_congr fun z hz => decide_eq_decide.mpr ⟨fun q => ?_, fun q => ?_⟩⟩
    · have hx : V.str z ∈ xs := by rw [e]; exact List.mem_map_of_mem q
      rcases R.mem _ hx with ⟨u, hu, eu⟩ | ey
      · cases eu
        exact hu
      · rcases o.bad with ob | ⟨u, eu, hu⟩
        · rw [← ey] at ob
          cases ob
        · rw [← ey] at eu
          cases eu
          exact absurd hz hu
    · have hx := R.all z q
      rw [e] at hx
      obtain ⟨u, hu, eu⟩ := List.mem_map.mp hx
      cases eu
      exact hu
  · right
    obtain ⟨ws, e, g⟩ := good_pre xs m (by omega) h
    have ex : xs.getD m .non = xs[m] := by rw [List.getD_eq_getElem?_getD, List.getElem?_eq_getElem hm]; rfl
    obtain ⟨r, er⟩ := pick_first xs (badB xs) h hb (xs.length - (m + 1))
    rw [show m + 1 + (xs.length - (m + 1)) = xs.length by omega, ex] at er
    have mm := R.mem xs[m] (List.getElem_mem hm)
    refine ⟨xs[m], r, ws, xs.drop (m + 1), er, ?_, g, ?_, mm⟩
    · rw [← e, ← List.drop_eq_getElem_cons hm, List.take_append_drop]
    · unfold badB at hb
      rw [ex, e, Bool.or_eq_true, Bool.not_eq_true', decide_eq_false_iff_not, decide_eq_true_iff] at hb
      rcases hb with hb | hb
      · rcases mm with ⟨z, hz, ez⟩ | ey
        · exact absurd (by rw [ez]; exact List.mem_map_of_mem (ga.1 z hz)) hb
        · rw [ey]
          rcases o.bad with ob | ⟨z, ez, hz⟩
          · exact .inl ob
          · exact .inr ⟨z, ez, .inl hz⟩
      · obtain ⟨z, hz, ez⟩ := List.mem_map.mp hb
        exact .inr ⟨z, ez.symm, .inr hz⟩
/-- a row's own equalities -/
theorem row_eq {K : PySem.W.Frag} {H : Hp} {st l : Addr} {xs : List V} {as : List Str} {y : V} {d : PyData} (R : RowF xs as y) (o : OddI H st l y d) {i : Nat} {x : V} (hx : xs[i]? = some x) : ∀ z ∈ xs.take i, StrEq K H z x (decide (z = x)) := by
  intro z hz
  have hl : i < xs.length := (List.getElem?_eq_some_iff.mp hx).1
  have ex : xs[i] = x := by
    rw [List.getElem?_eq_getElem hl] at hx
    exact Option.some.inj hx
  have mz := R.mem z (List.mem_of_mem_take hz)
  have mx := R.mem x (List.mem_of_getElem? hx)
  rcases mx with ⟨u, _, rfl⟩ | ey
  · rcases mz with ⟨v, _, rfl⟩ | rfl
    · rw [dec_str]; exact .str v u
    · exact o.eqL u
  · rcases mz with ⟨v, _, rfl⟩ | ez
    · rw [ey]; exact o.eqR v
    · by_cases hs : ∃ u, y = .str u
      · obtain ⟨u, rfl⟩ := hs
        rw [ez, ey, dec_str]; exact .str u u
      · exfalso
        have h1 := R.one fun u e => hs ⟨u, e⟩
        have hc : (xs.take (i + 1)).count y ≤ xs.count y := (List.take_sublist _ _).count_le _
        rw [List.take_succ, List.getElem?_eq_getElem hl, List.count_append, ex, ey] at hc
        have h2 : 0 < (xs.take i).count y := List.count_pos_iff.mpr (by rw [← ez]; exact hz)
        simp at hc
        omega
theorem srt_eq {K : PySem.W.Frag} {H : Hp} {st l : Addr} {xs : List V} {as : List Str} {y : V} {d : PyData} (R : RowF xs as y) (o : OddI H st l y d) {x : V} (hx : x ∈ xs) : ∀ z ∈ srt.map V.str, StrEq K H z x (decide (z = x)) := by
  intro z hz
  obtain ⟨v, _, rfl⟩ := List.mem_map.mp hz
  rcases R.mem x hx with ⟨u, _, rfl⟩ | rfl
  · rw [dec_str]; exact .str v u
  · exact o.eqR v
end R

set_option maxHeartbeats 3900000
namespace R
open PySem PySem.Spec PyProof.Rows L2 TL RP
open C8 (pss_cut tCut pe_gc)
open CB OW MX
theorem flat_rep (y : V) : ∀ e : Nat, (List.replicate e [y]).flatten = List.replicate e y
  | 0 => rfl
  | e + 1 => by
    rw [List.replicate_succ, List.flatten_cons, flat_rep y e]
    rfl
theorem eqOK {X : Cx} {K0 : PySem.W.Frag} {k : Nat} {C f : Addr} {fd : FuncData} {ps : List Str} {sp : Sp} {CX : CXT} {E : XK} (hK : X.K = K0) (F : FnOk X.prog X.w X.K X.mg X.base CX k f fd ps sp) (hr : Room k X.A) (hu : X.A.units < cLine) (hb : L2.Binds X.K fd ps []) (hx : Passes CX X E) (M : Meth X.K C "__eq__" f) :
    OpR X (compareOp .Eq) (rEqO K0 C sp E) := by
  subst hK
  exact op_eqO F hr hu hb hx M
def JO (C : Addr) (v0 : V) (st l : Addr) (c : Nat) : L2.St → Hp → Prop := fun σ H => ∃ (a b o1 o2 : Addr) (y : V) (d : PyData) (as bs : List Str) (x2 x5 x8 x9 x10 x11 x13 x14 : Option V), σ = [some v0, some (.ref st), x2, some (.ref a), some (.ref b), x5, some (.ref o1), some (.ref o2), x8, x9, x10, x11, some y, x13, x14, none, none, none] ∧ (∃ c' ≤ c + 22, Strm H st l c') ∧ c ≤ 500 ∧
  Cor C st l H a b o1 o2 as bs ∧ OddI H st l y d
def JW (v0 : V) (st l : Addr) (c : Nat) : L2.St → Hp → Prop := fun σ H => ∃ (a r : Addr) (y : V) (d : PyData) (as : List Str) (xs : List V) (x2 x4 x5 x6 x7 x8 x9 x10 x11 x12 x14 : Option V), σ = [some v0, some (.ref st), x2, some (.ref a), x4, x5, x6, x7, x8, x9, x10, x11, x12, some (.ref r), x14, none, none, none] ∧ (∃ c' ≤ c + 40, Strm H st l c') ∧ c ≤ 500 ∧
  H a = some (.lst (as.map V.str)) ∧ GoodS as ∧ OddI H st l y d ∧ H r = some (.lst xs) ∧ RowF xs as y
def JB (v0 : V) (st l : Addr) (c : Nat) : L2.St → Hp → Prop := fun σ H => ∃ (a r u : Addr) (y : V) (d : PyData) (as : List Str) (xs : List V) (x2 x4 x5 x6 x7 x8 x9 x10 x11 x12 : Option V), σ = [some v0, some (.ref st), x2, some (.ref a), x4, x5, x6, x7, x8, x9, x10, x11, x12, some (.ref r), some (.ref u), none, none, none] ∧ (∃ c' ≤ c + 40, Strm H st l c') ∧ c ≤ 500 ∧
  H a = some (.lst (as.map V.str)) ∧ GoodS as ∧ OddI H st l y d ∧ H r = some (.lst xs) ∧ RowF xs as y ∧ H u = some (.lst (pick xs (badB xs) xs.length))
def JE (v0 : V) (st l : Addr) (c : Nat) : L2.St → Hp → Prop := fun σ H => ∃ x2 x3 x4 x5 x6 x7 x8 x9 x10 x11 x12 x13 x14, σ = [some v0, some (.ref st), x2, x3, x4, x5, x6, x7, x8, x9, x10, x11, x12, x13, x14, none, none, none] ∧ (∃ c' ≤ c + 40, Strm H st l c')
section
variable {P : Program} {w : World} {K : PySem.W.Frag} {mg : Str → Option Value} {base : Heap} {C CB : Addr} {ma : Str → Addr} {md : Str → FuncData} {fa : Str → Addr} {fd : Str → FuncData}
  {f : Addr} {cdv : Value} {A : Around} {outer : List Env} {s : Shared} {H : Hp} {E : XK} {v0 : V} {st l : Addr} {c : Nat}
theorem step16 (V : LV P w K mg base C CB ma md fa fd) (hg : A.guards = some []) (hr : Room 8 (A.deeper (envOfC "law" (defScope sLaw) s.heap.objs.size f cdv))) : Step (XL P w K mg base f cdv A outer s H E) (bd 16) (JC C v0 st l c 21) (JC C v0 st l c 21) := by
  obtain ⟨T, R, M, aD, GD, aP, GP, aMx, GMx, aSo, GSo, aSs, GSs, aUp, GUp, aEn, GEn, aSa, GSa, aCm, GCm⟩ := V
  have hu := hr.units
  have hu0 := hr.units0
  have hu2 := Nat.lt_of_le_of_lt (Nat.add_le_add_left (show 1 ≤ 64 by decide) _) hr.units
  refine ⟨_, ps_if (pt_val (pe_callB (cr_any rfl) (by rfl) T.any boot_any (pa_cons (pe_lc (own := [("_law_thing", 17)]) (g := gName 17) (tt := tYes) rfl scLaw.nd (pi_tup (pe_tup (pa_cons pe_non (pa_cons pe_int (pa_cons (pv 3) (pa_cons (pe_callTy call_tuple_of (by rfl) T.tuple (by decide +kernel) (pa_cons (pv 3) pa_nil)) (pa_cons pe_str pa_nil))))))) (blkOk_by (own := [("_law_thing", 17)]) (N := ["_law_script", "_law_stream", "_law_turn", "_law_a", "_law_b", "_law_passed", "_law_one", "_law_two", "_law_told", "_law_found", "_law_rest", "_law_due", "_law_odd", "_law_row", "_law_bad", "_law_k", "_law_word", "_law_thing"]) (sc := defScope sLaw) (by decide +kernel)) (fun _ _ _ _ _ => (pg_name (i := 17) scLaw.nd rfl (Or.inl rfl))) (fun _ _ _ _ _ => pts_nil) (fun _ _ _ _ _ => (by exact (pe_cmpR (eqOK (K0 := K) rfl M.gE (hr.mono (by decide)) hu0 M.bE pass0 (R.me "__eq__" (by decide +kernel))) (pv 6) (pv 17) (nomark _))))) pa_nil))) (pss_one (ps_ret pe_bl)) (pss_nil), fun D σ H' hA k => ?_⟩
  obtain ⟨a, b, o1, o2, as, bs, x2, x5, x8, x9, x10, x11, x12, x13, x14, rfl, ⟨c', hc', S⟩, hc, R0⟩ := hA
  obtain ⟨dx, p, h1, h2⟩ := id R0.r1
  have n1 := canon_len as
  refine ⟨_, rfl, _, rfl, a, _, rfl, .inl ⟨SqL.of R0.la.h, fun t ht => ⟨by show 5 ≤ sizeLine; decide, fun q hq => ?_⟩⟩⟩
  have t1 := same_mk (o := .tup (as.map V.str)) ht
  have t2 := same_mk (o := .tup [.non, .int 5, .ref a, .ref t, .str "tool"]) hq
  have t12 := t1.trans t2
  have f1 := t2 _ _ (upd_same (H := H') (a := t) (o := .tup (as.map V.str)))
  have f2 := upd_same (H := upd H' t (.tup (as.map V.str))) (a := q) (o := .tup [.non, .int 5, .ref a, .ref t, .str "tool"])
  generalize upd (upd H' t (.tup (as.map V.str))) q (.tup [.non, .int 5, .ref a, .ref t, .str "tool"]) = H2 at t12 f1 f2 ⊢
  have ty : ∀ x ∈ [V.non, .int 5, .ref a, .ref t, .str "tool"], ∀ H3, Same H2 H3 → ∃ n : String, TyX K H3 x (.type n) ∧ n ∈ (["NoneType", "int", "bool", "str", "list", "tuple"] : List String) := by
    intro x hx H3 s3
    simp only [List.mem_cons, List.not_mem_nil, or_false] at hx
    rcases hx with rfl | rfl | rfl | rfl | rfl
    · exact ⟨"NoneType", .base .non, by decide⟩
    · exact ⟨"int", .base (.int 5), by decide⟩
    · exact ⟨"list", .base (.lst ((t12.trans s3) _ _ R0.la.h)), by decide⟩
    · exact ⟨"tuple", .base (.tup (s3 _ _ f1)), by decide⟩
    · exact ⟨"str", .base (.str _), by decide⟩
  refine ⟨q, rfl, ⟨_, SqT.of f2⟩, fun D1 hD => ?_⟩
  refine lcW (walk_tup (K := K) (a := q) (xs := [V.non, .int 5, .ref a, .ref t, .str "tool"])) (List.replicate 5 (.bl false)) rfl (show 5 < 1000000 by decide) hD (fun H' s' => sameT s' (SqT.of f2)) ?_ ?_
  · rintro i x y H3 H4 hy s3 ⟨rfl, hx⟩ Q1 k1
    have ey : y = .bl false := List.eq_of_mem_replicate (List.mem_of_getElem? hy)
    subst ey
    obtain ⟨n, hn, hm⟩ := ty x (List.mem_of_getElem? hx) _ s3
    obtain ⟨m1, m2⟩ := R.kT n hm
    have s02 := t12.trans s3
    exact ⟨_, rfl, _, rfl, o1, dx, _, .type n, rfl, s02 _ _ h1, hn, m2, o1, _, canon as, rfl, R0.r1.up s02, by omega, canon_sub as, .inr ⟨.type n, hn, m1, k1 _ (Same.refl _)⟩⟩
  · intro H1 s1 hD1
    refine ⟨D1, List.replicate 5 false, rfl, SqL.of hD1, _, rfl, iteF ?_⟩
    exact k _ _ ⟨a, b, o1, o2, as, bs, _, _, _, _, _, _, _, _, _, rfl, ⟨c', hc', S.up (t12.trans s1)⟩, hc, R0.same (t12.trans s1)⟩
theorem step17 (V : LV P w K mg base C CB ma md fa fd) (hr : Room 8 (A.deeper (envOfC "law" (defScope sLaw) s.heap.objs.size f cdv))) : Step (XL P w K mg base f cdv A outer s H E) (bd 17) (JC C v0 st l c 21) (JO C v0 st l c) := by
  obtain ⟨T, R, M, aD, GD, aP, GP, aMx, GMx, aSo, GSo, aSs, GSs, aUp, GUp, aEn, GEn, aSa, GSa, aCm, GCm⟩ := V
  refine ⟨_, ps_set (i := 12) scLaw.nd rfl (Or.inl rfl) (pe_call GP (hr.mono (by decide)) rfl aP.m aP.k aP.b .nil pass0 (pa_cons (pv 1) (pa_cons (pe_lst (pa_cons pe_non (pa_cons pe_int (pa_cons pe_str (pa_cons pe_str (pa_cons pe_str (pa_cons (pe_tup (pa_cons pe_str pa_nil)) (pa_cons (pe_lst (pa_cons pe_str pa_nil)) (pa_cons pe_dnewK (pa_cons pe_bl pa_nil)))))))))) pa_nil))), fun D σ H' hA k => ?_⟩
  obtain ⟨a, b, o1, o2, as, bs, x2, x5, x8, x9, x10, x11, x12, x13, x14, rfl, ⟨c', hc', S⟩, hc, R0⟩ := hA
  refine ⟨_, rfl, by show 1 ≤ sizeLine; decide, fun q1 n1 => ⟨by show 1 ≤ sizeLine; decide, fun q2 n2 => fun q3 n3 => ⟨by show 9 ≤ sizeLine; decide, fun q n4 => ?_⟩⟩⟩
  have t1 := same_mk (o := .tup [.str "tool"]) n1
  have t2 := same_mk (o := .lst [.str "names"]) n2
  have t3 := same_mk (o := .dK []) n3
  have t4 := same_mk (o := .lst [.non, .int 5, .str "", .str "read", .str "Tool", .ref q1, .ref q2, .ref q3, .bl true]) n4
  have t14 := t1.trans (t2.trans (t3.trans t4))
  have m2 := (S.up t1).ne_new n2
  have m4 := (S.up (t1.trans (t2.trans t3))).ne_new n4
  have f1 := (t2.trans (t3.trans t4)) _ _ (upd_same (H := H') (a := q1) (o := .tup [.str "tool"]))
  have f2 := (t3.trans t4) _ _ (upd_same (a := q2) (o := .lst [.str "names"]))
  have f3 := t4 _ _ (upd_same (a := q3) (o := .dK []))
  refine .inl ⟨st, l, c', q, _, rfl, S.up t14, by omega, upd_same, m4.1, m4.2, (show 0 < 9 by decide), (show 9 < 1000 by decide), fun i x H2 hx B2 S2 => ?_⟩
  have R2 := (R0.same t14).but (S.up t14) B2
  suffices h : ∃ d, OddI H2 st l x d by
    obtain ⟨d, o⟩ := h
    exact k _ _ ⟨a, b, o1, o2, x, d, as, bs, _, _, _, _, _, _, _, _, rfl, ⟨c' + 1, by omega, S2⟩, hc, R2, o⟩
  match i, hx with
  | 0, hx => cases hx; exact ⟨_, .non⟩
  | 1, hx => cases hx; exact ⟨_, .int⟩
  | 2, hx => cases hx; exact ⟨_, .str _ (.inl rfl)⟩
  | 3, hx => cases hx; exact ⟨_, .str _ (.inr (.inl rfl))⟩
  | 4, hx => cases hx; exact ⟨_, .str _ (.inr (.inr rfl))⟩
  | 5, hx => cases hx; exact ⟨_, OddI.but (.tup f1) (S.up t14) B2⟩
  | 6, hx => cases hx; exact ⟨_, OddI.but (.lst f2 m2.1 m2.2) (S.up t14) B2⟩
  | 7, hx => cases hx; exact ⟨_, OddI.but (.dct f3) (S.up t14) B2⟩
  | 8, hx => cases hx; exact ⟨_, .tru⟩
  | n + 9, hx => cases hx
theorem step18 (V : LV P w K mg base C CB ma md fa fd) (hr : Room 8 (A.deeper (envOfC "law" (defScope sLaw) s.heap.objs.size f cdv))) : Step (XL P w K mg base f cdv A outer s H E) (bd 18) (JO C v0 st l c) (JW v0 st l c) := by
  obtain ⟨T, R, M, aD, GD, aP, GP, aMx, GMx, aSo, GSo, aSs, GSs, aUp, GUp, aEn, GEn, aSa, GSa, aCm, GCm⟩ := V
  refine ⟨_, ps_set (i := 13) scLaw.nd rfl (Or.inr rfl) (pe_call GMx (hr.mono (by decide)) rfl aMx.m aMx.k aMx.b .nil pass0 (pa_cons (pv 1) (pa_cons (pe_op op_cat (pe_op op_cat (pv 3) (pe_op op_rep (pe_lst (pa_cons (pv 12) pa_nil)) (pe_call GD (hr.mono (by decide)) rfl aD.m aD.k aD.b .nil pass0 (pa_cons (pv 1) (pa_cons pe_int pa_nil))))) (pe_slice sl_list (pv 3) po_none (po_some (pe_call GD (hr.mono (by decide)) rfl aD.m aD.k aD.b .nil pass0 (pa_cons (pv 1) (pa_cons pe_int pa_nil)))))) pa_nil))), fun D σ H' hA k => ?_⟩
  obtain ⟨a, b, o1, o2, y, d, as, bs, x2, x5, x8, x9, x10, x11, x13, x14, rfl, ⟨c', hc', S⟩, hc, R0, o⟩ := hA
  have l1 := R0.ga.len
  refine ⟨_, rfl, _, rfl, _, rfl, by show 1 ≤ sizeLine; decide, fun p1 n1 => ?_⟩
  have t1 := same_mk (o := .lst [y]) n1
  have m1 := S.ne_new n1
  refine ⟨_, rfl, st, l, c', 2, rfl, S.up t1, by omega, by decide, by decide, fun e H1 e0 e1 B1 S1 => ?_⟩
  obtain ⟨e, rfl⟩ := Int.eq_ofNat_of_zero_le e0
  have R1 := (R0.same t1).but (S.up t1) B1
  have o1' := OddI.but (o.same t1) (S.up t1) B1
  have h1 : H1 p1 = some (.lst [y]) := B1 _ _ upd_same m1.1 m1.2
  refine ⟨p1, (e : Int), [y], rfl, rfl, h1, by omega, by omega, ?_, fun p2 n2 => ?_⟩
  · show 1 * e ≤ sizeLine
    exact Nat.le_trans (show 1 * e ≤ 1 by omega) (by decide)
  rw [show ((e : Int)).toNat = e from rfl, flat_rep]
  have t2 := same_mk (o := .lst (List.replicate e y)) n2
  have R2 := R1.same t2
  refine ⟨a, p2, as.map V.str, List.replicate e y, rfl, rfl, R2.la.h, upd_same, ?_, fun p3 n3 => ?_⟩
  · rw [List.length_map, List.length_replicate]
    exact Nat.le_trans (show as.length + e ≤ 8 by omega) (by decide)
  have t3 := same_mk (o := .lst (as.map V.str ++ List.replicate e y)) n3
  have m3 := (S1.up t2).ne_new n3
  have t23 := t2.trans t3
  refine ⟨_, rfl, _, rfl, st, l, c' + 1, 2, rfl, S1.up t23, by omega, by decide, by decide, fun g H2 g0 g1 B2 S2 => ⟨g, rfl, ?_⟩⟩
  obtain ⟨g, rfl⟩ := Int.eq_ofNat_of_zero_le g0
  have R3 := (R1.same t23).but (S1.up t23) B2
  have o3' := OddI.but (o1'.same t23) (S1.up t23) B2
  refine ⟨a, _, rfl, SqL.of R3.la.h, fun p4 n4 => ?_⟩
  rw [show cutV (as.map V.str) none (some (g : Int)) = (as.take g).map V.str from (cut_take _ g).trans List.map_take.symm]
  have t4 := same_mk (o := .lst ((as.take g).map V.str)) n4
  have h3 : H2 p3 = some (.lst (as.map V.str ++ List.replicate e y)) := B2 _ _ upd_same m3.1 m3.2
  have lt : (as.take g).length ≤ 1 := by rw [List.length_take]; omega
  have ll : (as.map V.str ++ List.replicate e y ++ (as.take g).map V.str).length ≤ 8 := by
    rw [List.length_append, List.length_append, List.length_map, List.length_replicate, List.length_map]
    omega
  refine ⟨p3, p4, _, _, rfl, rfl, t4 _ _ h3, upd_same, ?_, fun p5 n5 => ?_⟩
  · rw [← List.length_append]
    exact Nat.le_trans ll (by decide)
  have t5 := same_mk (o := .lst (as.map V.str ++ List.replicate e y ++ (as.take g).map V.str)) n5
  have t45 := t4.trans t5
  have m5 := (S2.up t4).ne_new n5
  refine ⟨st, l, p5, c' + 2, _, rfl, S2.up t45, by omega, ⟨upd_same, m5.1, m5.2⟩, by omega, fun D ys H3 pm hD L3 B3 S3 => ?_⟩
  have R4 := (R3.same t45).but (S2.up t45) B3
  have o4' := OddI.but (o3'.same t45) (S2.up t45) B3
  refine k _ _ ⟨a, D, y, d, as, ys, _, _, _, _, _, _, _, _, _, _, _, rfl, ⟨_, by omega, S3⟩, hc, R4.la.h, R0.ga, o4', L3.h, ?_, ?_, ?_, ?_⟩
  · intro x hx
    rcases List.mem_append.mp (pm.mem_iff.mp hx) with hx | hx
    · rcases List.mem_append.mp hx with hx | hx
      · obtain ⟨z, hz, rfl⟩ := List.mem_map.mp hx
        exact .inl ⟨z, hz, rfl⟩
      · exact .inr (List.eq_of_mem_replicate hx)
    · obtain ⟨z, hz, rfl⟩ := List.mem_map.mp hx
      exact .inl ⟨z, List.mem_of_mem_take hz, rfl⟩
  · intro z hz
    exact pm.mem_iff.mpr (List.mem_append_left _ (List.mem_append_left _ (List.mem_map_of_mem hz)))
  · intro ny
    have z1 : ∀ ws : List Str, (ws.map V.str).count y = 0 := fun ws => List.count_eq_zero.mpr fun q => by
      obtain ⟨z, _, ez⟩ := List.mem_map.mp q
      exact ny z ez.symm
    rw [pm.count_eq, List.count_append, List.count_append, z1, z1]
    have := List.count_le_length (a := y) (l := List.replicate e y)
    rw [List.length_replicate] at this
    omega
  · rw [pm.length_eq]
    exact ll
end
end R

set_option maxHeartbeats 3900000
namespace R
open PySem PySem.Spec PyProof.Rows L2 TL RP
open C8 (pss_cut tCut pe_gc)
open CB OW MX
section
variable {P : Program} {w : World} {K : PySem.W.Frag} {mg : Str → Option Value} {base : Heap} {C CB : Addr} {ma : Str → Addr} {md : Str → FuncData} {fa : Str → Addr} {fd : Str → FuncData}
  {f : Addr} {cdv : Value} {A : Around} {outer : List Env} {s : Shared} {H : Hp} {E : XK} {v0 : V} {st l : Addr} {c : Nat}
theorem step19 (V : LV P w K mg base C CB ma md fa fd) (hr : Room 8 (A.deeper (envOfC "law" (defScope sLaw) s.heap.objs.size f cdv))) : Step (XL P w K mg base f cdv A outer s H E) (bd 19) (JW v0 st l c) (JB v0 st l c) := by
  obtain ⟨T, R, M, aD, GD, aP, GP, aMx, GMx, aSo, GSo, aSs, GSs, aUp, GUp, aEn, GEn, aSa, GSa, aCm, GCm⟩ := V
  have hu2 := Nat.lt_of_le_of_lt (Nat.add_le_add_left (show 1 ≤ 64 by decide) _) hr.units
  refine ⟨_, ps_setLc (i := 14) (own := [("_law_k", 15), ("_law_word", 16)]) (g := gTup K 2 (gCons (gName 15) (gCons (gName 16) gNil))) (tt := _) rfl scLaw.nd rfl rfl (sw_true rfl rfl rfl (by decide +kernel)) (pi_enum rfl T.enumerate (pa_cons (pv 13) pa_nil)) (blkOk_by (own := [("_law_k", 15), ("_law_word", 16)]) (N := ["_law_script", "_law_stream", "_law_turn", "_law_a", "_law_b", "_law_passed", "_law_one", "_law_two", "_law_told", "_law_found", "_law_rest", "_law_due", "_law_odd", "_law_row", "_law_bad", "_law_k", "_law_word", "_law_thing"]) (sc := defScope sLaw) (by decide +kernel)) (fun _ _ _ _ _ => (pg_tupK (K0 := K) rfl rfl (pgs_cons (pg_name (i := 15) scLaw.nd rfl (Or.inl rfl)) (pgs_cons (pg_name (i := 16) scLaw.nd rfl (Or.inl rfl)) pgs_nil)))) (fun _ _ _ _ _ => (by exact pts_one (PW.pt (pw_or (pt_cmpR (notInMixK (K0 := K) rfl hu2) (pv 16) (pe_call0 GSo (hr.mono (by decide)) rfl aSo.m aSo.k aSo.b .nil pass0) (by rfl)) (pw_or1 (pt_cmpR (inMixK (K0 := K) rfl hu2) (pv 16) (pe_slice (sl_listK (K0 := K) rfl) (pv 13) po_none (po_some (pv 15))) (by rfl))))))) (fun _ _ _ _ _ => (by exact (pv 16))), fun D σ H' hA k => ?_⟩
  obtain ⟨a, r, y, d, as, xs, x2, x4, x5, x6, x7, x8, x9, x10, x11, x12, x14, rfl, ⟨c', hc', S⟩, hc, ha, ga, o, hrr, RF⟩ := hA
  have lx := RF.len
  refine ⟨_, rfl, r, _, rfl, SqL.of hrr, fun D1 hD => ?_⟩
  refine lcE xs (badB xs) (by omega) hD (SqL.of hrr) (fun _ _ => rfl) ?_ ?_ ?_
  · intro i x H2 hx s2 Q1 k1
    have ex : xs.getD i .non = x := by rw [List.getD_eq_getElem?_getD, hx]; rfl
    refine ⟨_, rfl, rfl, fun p hp => ⟨p, srt.map V.str, fun z => decide (z = x), rfl, SqL.of upd_same, srt_eq RF (o.same (s2.trans (same_mk hp))) (List.mem_of_getElem? hx), ?_⟩⟩
    have s3 := s2.trans (same_mk (o := .lst (srt.map V.str)) hp)
    rw [if_pos rfl, any_dec]
    by_cases h : x ∈ srt.map V.str
    · rw [decide_eq_true h]
      refine ⟨_, rfl, iteF ⟨_, rfl, _, rfl, _, rfl, i, rfl, r, xs, rfl, SqL.of (s3 _ _ hrr), fun p2 hp2 => ?_⟩⟩
      rw [show cutV xs none (some (i : Int)) = xs.take i from cut_take xs i]
      refine ⟨p2, xs.take i, fun z => decide (z = x), rfl, SqL.of upd_same, row_eq RF (o.same (s3.trans (same_mk hp2))) hx, ?_⟩
      rw [if_neg (by decide), any_dec]
      have q := k1 _ ((same_mk (o := .lst (srt.map V.str)) hp).trans (same_mk (o := .lst (xs.take i)) hp2))
      unfold badB at q
      rw [ex, decide_eq_true h, Bool.not_true, Bool.false_or] at q
      exact ⟨_, rfl, q⟩
    · rw [decide_eq_false h]
      have q := k1 _ (same_mk (o := .lst (srt.map V.str)) hp)
      unfold badB at q
      rw [ex, decide_eq_false h, Bool.not_false, Bool.true_or] at q
      exact ⟨_, rfl, iteT q⟩
  · intro i x H2 Q1 hx q
    exact ⟨_, rfl, q⟩
  · intro H1 s1 hD1
    exact k _ _ ⟨a, r, D1, y, d, as, xs, _, _, _, _, _, _, _, _, _, _, rfl, ⟨c', hc', S.up s1⟩, hc, s1 _ _ ha, ga, o.same s1, s1 _ _ hrr, RF, hD1⟩
theorem step20 (V : LV P w K mg base C CB ma md fa fd) (hg : A.guards = some []) (hr : Room 8 (A.deeper (envOfC "law" (defScope sLaw) s.heap.objs.size f cdv))) : Step (XL P w K mg base f cdv A outer s H E) (bd 20) (JB v0 st l c) (JE v0 st l c) := by
  obtain ⟨T, R, M, aD, GD, aP, GP, aMx, GMx, aSo, GSo, aSs, GSs, aUp, GUp, aEn, GEn, aSa, GSa, aCm, GCm⟩ := V
  have hu := hr.units
  have hu0 := hr.units0
  have hu2 := Nat.lt_of_le_of_lt (Nat.add_le_add_left (show 1 ≤ 64 by decide) _) hr.units
  refine ⟨_, ps_if (pt_not (pt_val (pe_callG GSa hg (hr.mono (by decide)) rfl aSa.m aSa.k aSa.b pass0 (pa_cons (pe_call GEn (hr.mono (by decide)) rfl aEn.m aEn.k aEn.b .nil pass0 (pa_cons (pv 13) pa_nil)) (pa_cons (pe_ifExp (pt_cmpR (op_neNil hu0) (pv 14) (pe_lst pa_nil) (nomark _)) (pe_tup (pa_cons pe_str (pa_cons (pe_ix ix_list (pv 14) pe_int (fun _ _ => rfl)) pa_nil))) (pe_tup (pa_cons pe_str (pa_cons (pe_call GUp (hr.mono (by decide)) rfl aUp.m aUp.k aUp.b .nil pass0 (pa_cons (pv 3) pa_nil)) pa_nil)))) pa_nil))))) (pss_one (ps_ret pe_bl)) (pss_nil), fun D σ H' hA k => ?_⟩
  obtain ⟨a, r, u, y, d, as, xs, x2, x4, x5, x6, x7, x8, x9, x10, x11, x12, rfl, ⟨c', hc', S⟩, hc, ha, ga, o, hrr, RF, hub⟩ := hA
  rcases row_ends RF ga o with ⟨e0, ws, ex, g, ec⟩ | ⟨x, r0, ws, rest, e0, ex, g, bad, mx⟩
  · rw [e0] at hub
    refine ⟨_, rfl, _, ws, [], rfl, ⟨r, rfl, .inr (by rw [List.append_nil, ← ex]; exact hrr)⟩, g, .inl ⟨rfl, fun p D H1 s1 hp hD => ?_⟩⟩
    refine ⟨_, rfl, Nat.zero_le _, fun p0 n0 => ⟨u, p0, [], rfl, rfl, ?_, SqL.of upd_same, _, rfl, iteF ?_⟩⟩
    · exact SqL.of (same_mk n0 _ _ (s1 _ _ hub))
    have s2 := s1.trans (same_mk (o := .lst []) n0)
    refine ⟨_, rfl, _, as, rfl, ⟨a, rfl, .inr (s2 _ _ ha)⟩, fun D2 H2 hD2 s3 hD2' => ⟨by show 2 ≤ sizeLine; decide, fun t ht => ?_⟩⟩
    have s4 := same_mk (o := .tup [.str "told", .ref D2]) ht
    have s14 := s2.trans (s3.trans s4)
    have s24 := (same_mk (o := .lst []) n0).trans (s3.trans s4)
    rw [← ec] at hD2'
    have fi : Fine (.tuple [.str "told", strL (canon ws)]) 20 1000 := (Fine.pair (dep := 1) (n := 80) ⟨by decide +kernel, by decide +kernel, by decide +kernel⟩ (fine_strL (canon_sub ws) (canon_len ws))).up (by decide) (by decide)
    refine ⟨_, _, _, rfl, .tup (s24 _ _ hp) (.cons (.str _) (.cons (dq_strL (s24 _ _ hD)) .nil)), .tup upd_same (.cons (.str _) (.cons (dq_strL (s4 _ _ hD2')) .nil)), fi, _, rfl, iteF ?_⟩
    exact k _ _ ⟨_, _, _, _, _, _, _, _, _, _, _, _, _, rfl, c', hc', S.up s14⟩
  · rw [e0] at hub
    refine ⟨_, rfl, _, ws, x :: rest, rfl, ⟨r, rfl, .inr (by rw [← ex]; exact hrr)⟩, g, .inr ⟨x, rest, rfl, bad, fun p H1 s1 hp => ?_⟩⟩
    refine ⟨_, rfl, Nat.zero_le _, fun p0 n0 => ⟨u, p0, x :: r0, rfl, rfl, ?_, SqL.of upd_same, _, rfl, iteT ?_⟩⟩
    · exact SqL.of (same_mk n0 _ _ (s1 _ _ hub))
    have s2 := s1.trans (same_mk (o := .lst []) n0)
    refine ⟨_, rfl, u, _, 0, x, rfl, rfl, SqL.of (s2 _ _ hub), atI_nat (j := 0) rfl, by show 2 ≤ sizeLine; decide, fun t ht => ?_⟩
    have s4 := same_mk (o := .tup [.str "sort", x]) ht
    have s14 := s2.trans s4
    have s24 := (same_mk (o := .lst []) n0).trans s4
    obtain ⟨dx, hdx, fx⟩ : ∃ dx, (∀ H', Same H' H' → Same _ H' → Dq K H' x dx) ∧ Fine dx 2 60 := by
      rcases mx with ⟨z, hz, rfl⟩ | rfl
      · exact ⟨.str z, fun _ _ _ => .str z, (fine_srt (ga.1 z hz)).up (by decide) (by decide)⟩
      · exact ⟨d, fun H' _ s => (o.same s).dq, o.fine⟩
    have fi : Fine (.tuple [.str "sort", dx]) 20 1000 := (Fine.pair (dep := 2) (n := 60) ⟨by decide +kernel, by decide +kernel, by decide +kernel⟩ fx).up (by decide) (by decide)
    refine ⟨_, _, _, rfl, .tup (s24 _ _ hp) (.cons (.str _) (.cons (hdx _ (Same.refl _) s14) .nil)), .tup upd_same (.cons (.str _) (.cons (hdx _ (Same.refl _) s14) .nil)), fi, _, rfl, iteF ?_⟩
    exact k _ _ ⟨_, _, _, _, _, _, _, _, _, _, _, _, _, rfl, c', hc', S.up s14⟩
end
end R

set_option maxHeartbeats 3900000
namespace R
open PySem PySem.Spec PyProof.Rows L2 TL RP
open C8 (pss_cut tCut pe_gc)
open CB OW MX
/-- what a block itself asks -/
def tW (X : Cx) (ss : List Stmt) : TS := fun D σ H => ∀ (pins : List (Addr × Obj)) (s : Shared), Inv X pins σ H s → wpAny (model X.prog X.w) X.A (execs ss X.env) (SP X pins D) X.xe s
theorem psW {X : Cx} {ss : List Stmt} : PSs X ss (tW X ss) := ⟨fun pins s σ H D I h => h pins s I⟩
theorem Steps.wish {X : Cx} {ss : List Stmt} {A B : L2.St → Hp → Prop} (h : Steps X ss A B) {D : Ends} {σ : L2.St} {H : Hp} (a : A σ H) (k : ∀ σ' H', B σ' H' → D.nx σ' H') : tW X ss D σ H := by
  obtain ⟨t, p, q⟩ := h
  exact fun pins s I => p.run pins s σ H D I (q D σ H a k)
def spLaw (K : PySem.W.Frag) : Sp := fun vs H Q _ => ∃ (a : Addr) (ns : List Int), vs = [.ref a] ∧ ns.length ≤ 63 ∧ SqL K H a (ns.map V.int) ∧ ∀ H', Q (.bl true) H'
section
variable {P : Program} {w : World} {K : PySem.W.Frag} {mg : Str → Option Value} {base : Heap} {C CB : Addr} {ma : Str → Addr} {md : Str → FuncData} {fa : Str → Addr} {fd : Str → FuncData}
theorem turn {f : Addr} {cdv : Value} {A : Around} {outer : List Env} {s : Shared} {H : Hp} {E : XK} (V : LV P w K mg base C CB ma md fa fd) (hg : A.guards = some []) (hr : Room 8 (A.deeper (envOfC "law" (defScope sLaw) s.heap.objs.size f cdv))) (v0 : L2.V) (st l : Addr) (c : Nat) :
    Steps (XL P w K mg base f cdv A outer s H E) (forBody ((defBody sLaw).getD 1 (.Pass ⟨0, 0, 0, 0⟩))) (J0 v0 st l c) (JE v0 st l c) :=
  steps_cons (step0 V hr) (steps_cons (step1 V hr) (steps_cons (step2 V hr) (steps_cons (step3 V hr) (steps_cons (step4 V hr) (steps_cons (step5 V hr) (steps_cons (step6 V hr) (steps_cons (step7 V hr) (steps_cons (step8 V hg hr) (steps_cons (step9 V hg hr)
    (steps_cons (step10 V hg hr) (steps_cons (step11 V hg hr) (steps_cons (step12 V hr) (steps_cons (step13 V hr) (steps_cons (step14 V hr) (steps_cons (step15 V hg hr) (steps_cons (step16 V hg hr) (steps_cons (step17 V hr) (steps_cons (step18 V hr) (steps_cons (step19 V hr) (steps_one (step20 V hg hr)))))))))))))))))))))
theorem ok_law {f : Addr} {fdl : FuncData} (F : Fun K "law" "law" sLaw f fdl) (V : LV P w K mg base C CB ma md fa fd) : FnG P w K mg base CX0 9 f fdl ["_law_script"] (spLaw K) := by
  refine okG F scLaw (fun vs H Q E h => ?_) (fun cdv A outer s H vs Q E hg hr h => ?_)
  · obtain ⟨a, ns, rfl, _⟩ := h
    rfl
  · have V0 := V
    obtain ⟨T, R, M, aD, GD, aP, GP, aMx, GMx, aSo, GSo, aSs, GSs, aUp, GUp, aEn, GEn, aSa, GSa, aCm, GCm⟩ := V
    obtain ⟨a, ns, rfl, hl, hS, fin⟩ := h
    refine ⟨_, pss_cut (ps_set (i := 1) scLaw.nd rfl (Or.inl rfl) (pe_lst (pa_cons (pe_callTy call_list_of (by rfl) T.list (by decide +kernel) (pa_cons (pv 0) pa_nil)) (pa_cons pe_int (pa_cons pe_int (pa_cons pe_int pa_nil))))))
      (pss_cut (ps_for PassesOwn.never rfl (pi_range1 rfl T.range (pa_cons pe_int pa_nil)) (pg_name (i := 2) scLaw.nd rfl (Or.inl rfl)) (psW (ss := forBody ((defBody sLaw).getD 1 (.Pass ⟨0, 0, 0, 0⟩)))))
      (pss_one (ps_ret (pe_and (pe_cmpR op_eq (pe_callB (call_lenO M.gL (hr.mono (by decide)) M.bL pass0 (R.me "__len__" (by decide +kernel))) (by rfl) T.len PySem.boot_len (pa_cons (pe_make R.mak M.gI (hr.mono (by decide)) rfl R.mg M.bI .nil pass0 (pa_cons (pe_lst pa_nil) pa_nil)) pa_nil)) pe_int (nomark _)) (pe_one (pe_cmpR op_eq (pe_callB (call_lenO M.gL (hr.mono (by decide)) M.bL pass0 (R.me "__len__" (by decide +kernel))) (by rfl) T.len PySem.boot_len (pa_cons (pe_un (OW.un_inv M.gV (hr.mono (by decide)) M.bV pass0 (R.me "__invert__" (by decide +kernel))) (pe_make R.mak M.gI (hr.mono (by decide)) rfl R.mg M.bI .nil pass0 (pa_cons (pe_lst pa_nil) pa_nil))) pa_nil)) pe_int (nomark _))))))), ?_⟩
    refine ⟨fun σ H' => ∃ st l, σ = [some (.ref a), some (.ref st), none, none, none, none, none, none, none, none, none, none, none, none, none, none, none, none] ∧ Strm H' st l 0,
      ⟨_, rfl, a, _, rfl, .inl hS, fun l hl0 => ⟨by show 4 ≤ sizeLine; decide, fun st hst => ⟨st, l, rfl, ?_⟩⟩⟩, ?_⟩
    · have e : upd (upd H l (.lst (ns.map V.int))) st (.lst [.ref l, .int 0, .int 0, .int 0]) l = some (.lst (ns.map V.int)) := same_mk hst _ _ upd_same
      exact ⟨ns, 0, 0, ⟨upd_same, e⟩, hl, by decide, by decide, by decide⟩
    rintro _ H0 ⟨st, l, rfl, S0⟩
    refine ⟨fun _ _ => True, ?_, ?_⟩
    · refine ⟨12, rfl, by decide, by decide, for_range (lo := 0) (n := 12) (fun i σ H' => ∃ x2 x3 x4 x5 x6 x7 x8 x9 x10 x11 x12 x13 x14 c, σ = [some (.ref a), some (.ref st), x2, x3, x4, x5, x6, x7, x8, x9, x10, x11, x12, x13, x14, none, none, none] ∧ Strm H' st l c ∧ c ≤ 40 * i)
        ⟨none, none, none, none, none, none, none, none, none, none, none, none, none, 0, rfl, S0, Nat.le_refl _⟩ ?_ (fun _ _ _ => trivial)⟩
      rintro i _ H1 hi ⟨x2, x3, x4, x5, x6, x7, x8, x9, x10, x11, x12, x13, x14, c, rfl, S1, hc⟩
      refine Steps.wish (turn V0 hg hr (.ref a) st l c) ⟨_, _, _, _, _, _, _, _, _, _, _, _, _, rfl, S1, by omega⟩ ?_
      rintro σ' H' ⟨y2, y3, y4, y5, y6, y7, y8, y9, y10, y11, y12, y13, y14, rfl, c', hc', S'⟩
      exact ⟨_, _, _, _, _, _, _, _, _, _, _, _, _, c', rfl, S', by omega⟩
    · rintro σ H1 _
      have sm : ∀ (H : Hp) x dx, H x = none → H dx = none → dx ≠ x → Same H (upd (upd H dx (.own x)) x (.ins C dx [])) := fun H x dx hx hdx hne b u hb => by
        have n1 : b ≠ x := fun e => by rw [e, hx] at hb; cases hb
        have n2 : b ≠ dx := fun e => by rw [e, hdx] at hb; cases hb
        rw [upd_ne n1, upd_ne n2]
        exact hb
      have gn : GoodS [] := ⟨by simp, by simp⟩
      refine ⟨Nat.zero_le _, fun p hp => ?_⟩
      intro o1 dx hx hdx hne
      refine ⟨o1, dx, _, [], rfl, upd_same, ⟨p, rfl, .inr (sm _ _ _ hx hdx hne _ _ upd_same)⟩, gn, fun H2 kp hru => ⟨rfl, ?_⟩⟩
      obtain ⟨dy, q, k1, k2⟩ := id hru
      refine ⟨o1, dy, _, rfl, k1, o1, _, rfl, hru, _, rfl, by decide, rfl, true, rfl, iteT ?_⟩
      refine ⟨Nat.zero_le _, fun p2 hp2 => ?_⟩
      intro o2 dx2 hx2 hdx2 hne2
      refine ⟨o2, dx2, _, [], rfl, upd_same, ⟨p2, rfl, .inr (sm _ _ _ hx2 hdx2 hne2 _ _ upd_same)⟩, gn, fun H3 kp3 hru3 => ⟨rfl, ?_⟩⟩
      obtain ⟨dz, q3, k3, k4⟩ := id hru3
      refine ⟨o2, dz, _, rfl, k3, o2, _, rfl, hru3, fun o3 H4 s4 hn4 hru4 => ?_⟩
      obtain ⟨du, q5, k5, k6⟩ := id hru4
      exact ⟨o3, du, _, rfl, k5, o3, _, rfl, hru4, _, rfl, by decide, rfl, fin _⟩
end
end R

set_option maxHeartbeats 3900000
/-! The end of a law whose defs are called where no repr is under way; tables of code objects. -/
namespace EG
open PySem PySem.Spec PyProof.Rows L2 LamX RP
section
variable {P : Program} {w : World} {K : PySem.W.Frag} {tabs : List Addr} {a : Addr} {ob : Obj} {xs : List V}
/-- tracked at the start: the empty tables, and the script where the written part does not hold it -/
def track (K : PySem.W.Frag) (tabs : List Addr) (a : Addr) (ob : Obj) (xs : List V) : Hp := fun b =>
  if b ∈ tabs then some (.tbl #[]) else if b = a ∧ K.lookup a = none then some (.frz ob (.lst xs)) else none
theorem track_cases (b : Addr) : (b ∈ tabs ∧ track K tabs a ob xs b = some (.tbl #[])) ∨ (b ∉ tabs ∧ b = a ∧ K.lookup a = none ∧ track K tabs a ob xs b = some (.frz ob (.lst xs))) ∨
    (b ∉ tabs ∧ (b = a → K.lookup a ≠ none) ∧ track K tabs a ob xs b = none) := by
  unfold track
  by_cases h1 : b ∈ tabs
  · exact .inl ⟨h1, if_pos h1⟩
  · by_cases h2 : b = a ∧ K.lookup a = none
    · exact .inr (.inl ⟨h1, h2.1, h2.2, by rw [if_neg h1, if_pos h2]⟩)
    · exact .inr (.inr ⟨h1, fun e z => h2 ⟨e, z⟩, by rw [if_neg h1, if_neg h2]⟩)
end
theorem end_call {P : Program} {w : World} {K : PySem.W.Frag} {mg mb : Str → Option Value} {k : Nat} {fa a : Addr} {cs : List (Addr × Addr)} {fd : FuncData} {x : Str} {sp : Sp} {s : Shared} {us : List Value} {ns : List Int}
    (kin : K.In s.heap) (gn : s.heap.Ns mainGlobals mg) (bn : s.heap.Ns builtinsNs mb) (bb : ∀ y : Str, y ≠ "__name__" → mb y = bootBuiltins y) (nl : s.heap.NoLimit) (ng : s.gens = #[])
    (tE : ∀ p ∈ cs, s.heap.get? p.2 = some { cls := .none, data := .fields #[] }) (tK : ∀ p ∈ cs, K.lookup p.2 = none) (tC : ∀ p ∈ cs, PySem.W.CodeHd s.heap p.1 p.2)
    (sys : ∃ (o : Obj) (es : Array DictEntry) (n : Nat), s.heap.get? sysModules = some o ∧ o.data = .dict es n)
    (mod : ∃ (m : Addr) (o : Obj), mg "__builtins__" = some (.ref m) ∧ m ≠ builtinsNs ∧ s.heap.get? m = some o ∧ o.cls = .type "module" ∧ o.dict = some builtinsNs ∧ o.data = .plain)
    (ia : s.heap.get? a = some { cls := .type "list", data := .seq us.toArray }) (ii : IntsAre us ns) (il : ns.length ≤ sizeLine) (room : Room k callerA)
    (F : ∀ base : Heap, K.In base → base.Ns mainGlobals mg → (∀ p ∈ cs, TabB base mg p.1 p.2) → (base.get? sysModules).isSome = true → FnG P w K mg base CX0 k fa fd [x] sp) (hb : ∀ (t : Shared) (u : Value), BindsTo t fd ⟨[u], []⟩ [(x, u)])
    (hsp : ∀ H : Hp, (∀ p ∈ cs, H p.2 = some (.tbl #[])) → SqL K H a (ns.map V.int) → sp [.ref a] H (fun v _ => v = .bl true) fun _ _ _ => False) :
    codeAny (model P w) callerA (.call (.ref fa) ⟨[.ref a], []⟩) (fun r t => r = .ok (.ret (.bool true)) ∧ OldK s.heap t.heap ∧ t.os = s.os ∧ AllBare t.gens) s := by
  have rv := vals_ints ii
  have tE' : ∀ b ∈ cs.map (·.2), s.heap.get? b = some { cls := .none, data := .fields #[] } := fun b hb => by
    obtain ⟨p, hp, rfl⟩ := List.mem_map.mp hb
    exact tE p hp
  generalize hob : ({ cls := .type "list", data := .seq us.toArray } : Obj) = ob at ia
  have na : a ∉ cs.map (·.2) := fun z => by
    have q := (tE' a z).symm.trans ia
    rw [← hob] at q
    cases q
  generalize hH : track K (cs.map (·.2)) a ob (ns.map V.int) = H
  have tc := fun b => track_cases (K := K) (tabs := cs.map (·.2)) (a := a) (ob := ob) (xs := ns.map V.int) b
  rw [hH] at tc
  -- what the heap holds is as tracked
  have ok : HOk P w H s.heap := fun b o e => by
    rcases tc b with ⟨h1, h2⟩ | ⟨h1, h2, h3, h4⟩ | ⟨_, _, h4⟩
    · rw [h2] at e
      cases e
      exact tE' b h1
    · rw [h4] at e
      cases e
      subst h2
      exact ⟨ia, by rw [List.length_map]; exact il, us, _, rv, ia.trans (congrArg some hob.symm)⟩
    · rw [h4] at e
      cases e
  -- other objects are not tracked
  have free : ∀ {b : Addr} {o : Obj}, s.heap.get? b = some o → o ≠ ob → o.data ≠ .fields #[] → H b = none := fun {b o} e d1 d2 => by
    rcases tc b with ⟨h1, _⟩ | ⟨_, h2, _, _⟩ | ⟨_, _, h4⟩
    · rw [tE' b h1] at e
      cases e
      exact (d2 rfl).elim
    · rw [h2, ia] at e
      exact (d1 (Option.some.inj e).symm).elim
    · exact h4
  have down : ∀ {b : Addr} {o : Obj}, s.heap.get? b = some o → o ≠ ob → o.data ≠ .fields #[] → (hidT s.heap H).get? b = some o := fun e d1 d2 => hidT_get e (free e d1 d2)
  have dict : ∀ {b : Addr} {m : Str → Option Value}, s.heap.Ns b m → (hidT s.heap H).Ns b m := fun {b m} ⟨o, es, ep, e, d, r⟩ =>
    ⟨o, es, ep, down e (fun z => by rw [z, ← hob] at d; cases d) (fun z => by rw [d] at z; cases z), d, r⟩
  have kB : K.In (hidT s.heap H) := fun b o e => hidT_get (kin b o e) (by
    rcases tc b with ⟨h1, _⟩ | ⟨_, h2, h3, _⟩ | ⟨_, _, h4⟩
    · obtain ⟨p, hp, rfl⟩ := List.mem_map.mp h1
      rw [tK p hp] at e
      cases e
    · rw [h2, h3] at e
      cases e
    · exact h4)
  have tabB : ∀ p ∈ cs, TabB (hidT s.heap H) mg p.1 p.2 := fun p hp => by
    obtain ⟨m, o, m1, m2, m3, m4, m5, m6⟩ := mod
    have dm : m ≠ mainGlobals := fun z => by
      obtain ⟨o', es, ep, e, d, _⟩ := gn
      rw [z, e] at m3
      cases m3
      rw [d] at m6
      cases m6
    have dp : m ≠ p.2 := fun z => by
      rw [z, tE p hp] at m3
      cases m3
      cases m6
    obtain ⟨oc, vs, file, tf, fl, tg, inF, tx, tt, c1, c2, c3, c4, cr⟩ := tC p hp
    have cne : oc ≠ ob := fun z => by
      rw [z, ← hob] at c3
      cases c3
    have cnf : oc.data ≠ .fields #[] := fun z => by
      rw [c3] at z
      cases z
      simp at c4
    have mne : o ≠ ob := fun z => by
      rw [z, ← hob] at m6
      cases m6
    have mnf : o.data ≠ .fields #[] := fun z => by
      rw [m6] at z
      cases z
    refine ⟨⟨oc, vs, file, tf, fl, tg, inF, tx, tt, down c1 cne cnf, c2, c3, c4, cr⟩, ⟨m, o, m1, m2, dm, dp, down m3 mne mnf, m4, m5, m6⟩, fun z => ?_⟩
    obtain ⟨o', es, ep, e, d, _⟩ := gn
    rw [z, tE p hp] at e
    cases e
    cases d
  have sysB : ((hidT s.heap H).get? sysModules).isSome = true := by
    obtain ⟨o, es, n, h1, h2⟩ := sys
    have q := down h1 (fun z => by rw [z, ← hob] at h2; cases h2) (fun z => by rw [h2] at z; cases z)
    rw [q]
    rfl
  have e0 : Env0 P w K mg (hidT s.heap H) callerA [] s H :=
    ⟨rfl, ⟨kB, dict gn, ⟨mb, dict bn, bb⟩, let ⟨mc, l1, l2⟩ := nl; ⟨mc, dict l1, l2⟩⟩, fun b o e => of_hidT e, Nat.le_of_eq (hidT_size _ _), trivial, fun b z => absurd (show b ∈ ([] : List Addr) from z) (by simp), ok, .of_eq ng⟩
  have seq : SqL K H a (ns.map V.int) := by
    rcases tc a with ⟨h1, _⟩ | ⟨_, _, _, h4⟩ | ⟨_, h3, _⟩
    · exact (na h1).elim
    · exact .inl (.inr ⟨ob, h4⟩)
    · cases q : K.lookup a with
      | none => exact (h3 rfl q).elim
      | some o =>
        have z := kin a o q
        rw [ia] at z
        cases z
        rw [← hob] at q
        exact .inr ⟨_, us.toArray, _, q, rfl, rfl, rfl, by rw [List.size_toArray, ii.length]; exact il, by simpa using rv⟩
  have tabs : ∀ p ∈ cs, H p.2 = some (.tbl #[]) := fun p hp => by
    have hm : p.2 ∈ cs.map (·.2) := List.mem_map.mpr ⟨p, hp, rfl⟩
    rcases tc p.2 with ⟨_, h2⟩ | ⟨h1, _⟩ | ⟨h1, _⟩
    · exact h2
    · exact (h1 hm).elim
    · exact (h1 hm).elim
  refine codeAny_mono ((F _ kB (dict gn) tabB sysB).run callerA [] s H ⟨[.ref a], []⟩ [.ref a] [.ref a] _ _ rfl room e0 (hb s (.ref a)) (.cons rfl .nil) (hsp H tabs seq)) fun r t h => ?_
  cases r with
  | error e => exact (show False from h).elim
  | ok fl =>
    cases fl with
    | next => exact False.elim h
    | brk => exact False.elim h
    | cont => exact False.elim h
    | ret u =>
      obtain ⟨v, H', os, bare, un, ok', r', q⟩ := h
      have q' : v = .bl true := q
      subst q'
      obtain rfl : u = Value.bool true := r'
      have old : ∀ b o, b ∉ cs.map (·.2) → s.heap.get? b = some o → t.heap.get? b = some o := fun b o nb e => by
        rcases tc b with ⟨h1, _⟩ | ⟨_, h2, h3, h4⟩ | ⟨_, _, h4⟩
        · exact (nb h1).elim
        · have z := un.frzs b _ _ h4
          obtain ⟨e2, _⟩ := ok' b _ z
          rw [h2, ia] at e
          cases e
          exact e2
        · exact un.keep b o e h4 (fun z => absurd (show b ∈ ([] : List Addr) from z) (by simp)) (by simp)
      have more : ∀ p ∈ cs, ∃ m : Array Value, t.heap.get? p.2 = some { cls := .none, data := .fields m } := fun p hp => by
        obtain ⟨m, z⟩ := un.tbls p.2 #[] (tabs p hp)
        exact ⟨_, ok' p.2 _ z⟩
      refine ⟨rfl, ⟨fun b o e => ?_, fun b o e => ?_⟩, os, bare⟩
      · by_cases z : b ∈ cs.map (·.2)
        · obtain ⟨p, hp, rfl⟩ := List.mem_map.mp z
          obtain ⟨m, hm⟩ := more p hp
          rw [tE p hp] at e
          cases e
          exact .inr (.inl ⟨((tC p hp).tab (tE p hp)).isCodeTable, rfl, #[], m, rfl, by rw [Array.empty_append]; exact hm⟩)
        · exact .inl (old b o z e)
      · by_cases z : b ∈ cs.map (·.2)
        · obtain ⟨p, hp, rfl⟩ := List.mem_map.mp z
          obtain ⟨m, hm⟩ := more p hp
          exact ⟨_, hm⟩
        · exact ⟨o, old b o z e⟩
/-- a law: F gives the written part, the tables, the function object, the promise over every base -/
theorem walkG {l : PySem.W.OpenLaw} {n k : Nat} {q : Program} {loose : List Str} {XP : (Str → Option Value) → Heap → Prop} {YP : World → Heap → Prop} {d : DefRec} {x : Str}
    (hn : l.most = some n) (hn2 : n ≤ sizeLine) (hdf : d.params.defaults = []) (room : Room k callerA)
    (F : ∀ (w : World) (mg : Str → Option Value) (fa : Addr) (h : Heap), YP w h → h.Ns mainGlobals mg → mg d.name = some (.ref fa) →
      ∃ (K : PySem.W.Frag) (cs : List (Addr × Addr)) (fd : FuncData) (sp : Sp), K.In h ∧ (∀ p ∈ cs, h.get? p.2 = some { cls := .none, data := .fields #[] }) ∧ (∀ p ∈ cs, K.lookup p.2 = none) ∧ (∀ p ∈ cs, PySem.W.CodeHd h p.1 p.2) ∧ (∃ (o : Obj) (es : Array DictEntry) (n : Nat), h.get? sysModules = some o ∧ o.data = .dict es n) ∧
        (∀ (s : Shared) (u : Value), BindsTo s fd ⟨[u], []⟩ [(x, u)]) ∧
        (∀ (H : Hp) (a : Addr) (ns : List Int), ns.length ≤ n → (∀ z ∈ ns, Builtin.Int.intBits z ≤ 1048576) → (∀ p ∈ cs, H p.2 = some (.tbl #[])) → SqL K H a (ns.map V.int) → sp [.ref a] H (fun v _ => v = .bl true) fun _ _ _ => False) ∧
        ∀ base : Heap, K.In base → base.Ns mainGlobals mg → (∀ p ∈ cs, TabB base mg p.1 p.2) → (base.get? sysModules).isSome = true → FnG l.prog w K mg base CX0 k fa fd [x] sp) :
    PySem.W.WalkO q loose XP YP l.row.toRowW d [] (fun f vs => PySem.call f vs) := by
  refine Att.attach_callB hn hdf fun w s₀ s mg mb fa o pm cd doc a vs ns G Y ho hd hcd hmg hobj hints hlen hbits hg => ?_
  obtain ⟨K, cs, fd, sp, KX, h1, h2, h3, h4, hb, hsp, hF⟩ := F w mg fa _ Y G.T.g hmg
  exact end_call KX G.T.g G.T.b G.T.builtins G.T.nolimit hg h1 h2 h3 h4 G.T.bmain hobj hints (Nat.le_trans hlen hn2) room hF hb fun H => hsp H a ns hlen hbits
end EG

set_option maxHeartbeats 0
namespace R
open PySem PySem.Spec PyProof.Rows L2 EG RP
def oexB (K : PySem.W.Frag) (C : Addr) : Bool := match K.lookup C with
  | some ⟨.type t, _, .cls cd, sl⟩ => decide (t = "type") && ((match cd.mro with
      | .ref C' :: bm => decide (C' = C) && PySem.HandSPX.refsVE bm
      | _ => false) && (cd.hasDict && (!cd.hasDel && (match sl.toList with
      | [_, _, _, _, some (.builtin n), _] => decide (n = "ValueError.__new__")
      | _ => false))))
  | _ => false
theorem oexB_ok {K : PySem.W.Frag} {C : Addr} (h : oexB K C = true) : ∃ nm q N bs bm sn sub ab col dd k0 k1 k2 k3 k5, K.lookup C = some (excClassObj nm q C N bs bm true sn sub ab col dd k0 k1 k2 k3 k5 "ValueError.__new__") ∧ PySem.HandSPX.refsVE bm = true := by
  unfold oexB at h
  split at h
  · rename_i t dd cd sl ho
    obtain ⟨h1, h⟩ := He.ba h
    obtain ⟨h2, h⟩ := He.ba h
    obtain ⟨h3, h⟩ := He.ba h
    obtain ⟨h4, h5⟩ := He.ba h
    split at h2
    · rename_i C' bm hm
      split at h5
      · rename_i k0 k1 k2 k3 n k5 hs
        obtain ⟨h6, h7⟩ := He.ba h2
        have e1 : t = "type" := of_decide_eq_true h1
        have e2 : C' = C := of_decide_eq_true h6
        have e3 : n = "ValueError.__new__" := of_decide_eq_true h5
        have e4 : sl = #[k0, k1, k2, k3, some (.builtin n), k5] := by
          have := congrArg List.toArray hs
          simpa using this
        obtain ⟨nm, bs, mro, ns, qn, hd, sn, sub, ab, col, del⟩ := cd
        dsimp only at hm h3 h4
        have e5 : del = false := by simpa using h4
        rw [e1, e4, hm, h3, e5, e2, e3] at ho
        exact ⟨nm, qn, ns, bs, bm, sn, sub, ab, col, dd, k0, k1, k2, k3, k5, ho, h7⟩
      · cases h5
    · cases h2
  · cases h
def eqV (a b : Option (Option Value)) : Bool := decide (a = b)
def textsB : List Value → List Str → Bool
  | [], [] => true
  | .str a _ :: vs, z :: zs => decide (a = z) && textsB vs zs
  | _, _ => false
theorem textsB_ok : ∀ {vs : List Value} {zs : List Str}, textsB vs zs = true → Vals (zs.map V.str) vs
  | [], [], _ => .nil
  | [], _ :: _, h => by cases h
  | .str a t :: vs, z :: zs, h => by
    obtain ⟨h1, h2⟩ := He.ba (show (decide (a = z) && textsB vs zs) = true from h)
    have e : a = z := of_decide_eq_true h1
    rw [e]
    exact .cons ⟨t, rfl⟩ (textsB_ok h2)
  | .str _ _ :: _, [], h => by cases h
def rowB (o : Option Obj) (zs : List Str) : Bool := match o with
  | some ⟨.type t, _, .seq its _, _⟩ => decide (t = "tuple") && textsB its.toList zs
  | _ => false
theorem rowB_ok {K : PySem.W.Frag} {a : Addr} {zs : List Str} (hz : zs.length ≤ sizeLine) (h : rowB (K.lookup a) zs = true) : ∀ H, SqT K H a (zs.map V.str) := by
  intro H
  unfold rowB at h
  split at h
  · rename_i t dd its n sl ho
    obtain ⟨h1, h2⟩ := He.ba h
    have e1 : t = "tuple" := of_decide_eq_true h1
    have rv := textsB_ok h2
    refine .inr ⟨_, its, n, ho, by rw [e1], rfl, ?_, rv⟩
    have e : its.size = zs.length := by
      have q := rv.length
      simpa using q.symm
    rw [e]
    exact hz
  · cases h
def tyL : List String := ["NoneType", "int", "bool", "str", "list", "tuple"]
def ruleB (K : PySem.W.Frag) (C : Addr) : Bool :=
  eqV (PySem.W.findIn K (.ref C) "__class__") (some (some (.builtin "object.__class__"))) && (decide (PySem.W.specialIn K (.builtin "object.__class__") "__get__" = some (some (.builtin "getset_descriptor.__get__"))) &&
  (decide (PySem.W.takesIn K (.builtin "object.__class__") = some true) && (decide (PySem.W.mroIn K C (.type "object") = some true) && (eqV (PySem.W.findIn K (.ref C) "__ne__") (some (some (.builtin "object.__ne__"))) &&
  (decide (PySem.W.subIn K (.ref C) (.type "object") = some true) && (PySem.W.selfFirst K C && (decide (PySem.W.kitOne K (.ref C) (.ref C) = some true) &&
  ((tyL.all fun t => decide (PySem.W.kitOne K (.type t) (.ref C) = some false) && PySem.W.notFirst K C (.type t)) && PySem.W.notFirst K C (.ref C)))))))))
def badB' (K : PySem.W.Frag) (C : Addr) : Bool := oexB K C && (eqV (PySem.W.findIn K (.ref C) "__setattr__") (some (some (.builtin "object.__setattr__"))) && (decide (PySem.W.subIn K (.ref C) (.type "BaseException") = some true) && (decide (PySem.W.typeIn K (.ref C) = some (.type "type")) &&
  (PySem.W.keepIn K (.ref C) && (eqV (PySem.W.findIn K (.ref C) "__init__") (some (some (.ref (He.ma K C "__init__")))) && (decide (PySem.W.typeIn K (.ref (He.ma K C "__init__")) = some (.type "function")) && (eqV (PySem.W.findIn K (.ref C) "thing") (some none) &&
  (xfB K C && decide (PySem.W.exmOne K (.ref C) (.ref C) = some true)))))))))
def exB (K : PySem.W.Frag) : Bool := rowB (K.lookup (He.ga K "SORTS")) srt && (ruleB K (He.ga K "Rule") && badB' K (He.ga K "BadSort"))
def dG (x : Str) (i : Nat) : He.DefD := ⟨(x, none), x, x, defArgs (top i), defBody (top i), defScope (top i), [], []⟩
def dI (x m q : Str) (i j : Nat) : He.DefD := ⟨(x, some m), m, q, defArgs (inClass (top i) j), defBody (inClass (top i) j), defScope (inClass (top i) j), [], []⟩
def fnL : List He.DefD := [dG "check_sorts" 7, dG "_law_draw" 9, dG "_law_pick" 10, dG "_law_mixed" 11, dG "_law_same" 12, dG "_law_sorts" 13, dG "_law_some_sorts" 14, dG "_law_end" 15, dG "_law_up" 16, dG "_law_compared" 17, dG "law" 18,
  dI "BadSort" "__init__" "BadSort.__init__" 3 0, dI "Rule" "__init__" "Rule.__init__" 6 0, dI "Rule" "sorts" "Rule.sorts" 6 1, dI "Rule" "keeps" "Rule.keeps" 6 4, dI "Rule" "__or__" "Rule.__or__" 6 5, dI "Rule" "__and__" "Rule.__and__" 6 6, dI "Rule" "__invert__" "Rule.__invert__" 6 7,
  dI "Rule" "__iter__" "Rule.__iter__" 6 8, dI "Rule" "__len__" "Rule.__len__" 6 9, dI "Rule" "__contains__" "Rule.__contains__" 6 10, dI "Rule" "__eq__" "Rule.__eq__" 6 11]
def gloL : List Str := ["check_sorts", "_law_draw", "_law_pick", "_law_mixed", "_law_same", "_law_sorts", "_law_some_sorts", "_law_end", "_law_up", "_law_compared", "law", "Rule", "BadSort", "SORTS"]
def freeL : List Str := ["int", "len", "range", "list", "tuple", "any", "all", "isinstance", "enumerate", "str", "repr", "iter"]
def conL : List He.Fa := [.cls "Rule", .noat "Rule" "kept", .mkr "Rule"] ++ methL.map fun m => He.Fa.meth "Rule" m
def faL : List He.Fa := (gloL.map fun x => He.Fa.glo x) ++ ((freeL.map fun x => He.Fa.free x) ++ conL)
def isD (o : Option Obj) : Bool := match o with
  | some ⟨_, _, .dict _ _, _⟩ => true
  | _ => false
def hkL : PySem.W.Hook where
  α := He.AlX × Bool
  obs := fun s => (He.obsX 5 faL fnL [] [] exB s.heap.get?, isD (s.heap.get? sysModules))
  val := fun w => (He.valX fnL [] w, true)
  says := fun w h => (∃ K : PySem.W.Frag, K.In h ∧ He.SaysX faL fnL [] [] exB w h K) ∧ ∃ (o : Obj) (es : Array DictEntry) (n : Nat), h.get? sysModules = some o ∧ o.data = .dict es n
  of := fun w s e => by
    refine ⟨(He.hookX 5 faL fnL [] [] exB).of w s (congrArg (fun z : He.AlX × Bool => z.1) e), ?_⟩
    have e2 : isD (s.heap.get? sysModules) = true := congrArg (fun z : He.AlX × Bool => z.2) e
    unfold isD at e2
    split at e2
    · rename_i c d es n sl ho
      exact ⟨_, es, n, ho, rfl⟩
    · cases e2
  keeps := fun w h h' ⟨a, o, es, n, h1, h2⟩ k => ⟨(He.hookX 5 faL fnL [] [] exB).keeps w h h' a k, o, es, n, k _ _ h1, h2⟩
abbrev RL : PySem.W.OpenRow := PySem.W.OpenLaw.row PySem.Challenge.rw_trueagain_k24_rules_told
def obL (s : PySem.W.SharedT) : hkL.α := (He.obsX 5 faL fnL [] [] exB (HandSHeadRun.getT s), isD (HandSHeadRun.getT s sysModules))
theorem obL_eq (s : PySem.W.SharedT) : obL s = hkL.obs s.abs := by
  have e : HandSHeadRun.getT s = s.abs.heap.get? := funext (HandSHeadRun.getT_eq s)
  show (He.obsX 5 faL fnL [] [] exB (HandSHeadRun.getT s), isD (HandSHeadRun.getT s sysModules)) = _
  rw [e]
  rfl
def looseL : List PySem.Str := ["_wall", "check_sorts", "_law_draw", "_law_pick", "_law_mixed", "_law_same", "_law_sorts", "_law_some_sorts", "_law_end", "_law_up", "_law_compared", "Rule", "BadSort", "AgainError", "SORTS"]
theorem runL (w : World) : HandSHeadRun.RunEq RL (PySem.W.view RL.prog [18]) hkL obL 20000 looseL w := by
  intro os
  kernel_rfl
end R

set_option maxHeartbeats 0
namespace R
open PySem PySem.Spec PyProof.Rows L2 EG RP
theorem fun_of {K : PySem.W.Frag} {x q : Str} {st : Stmt} {f : Addr} {fd : FuncData} (F : FunD K x q (defArgs st) (defBody st) (defScope st) [] [] f fd) : Fun K x q st f fd := by
  obtain ⟨oc, od, dV, kV, doc, pm, an, cdv, ct, osl, rfl, lk, hcd, hD, hK⟩ := F.ex
  rcases hD with ⟨_, rfl⟩ | ⟨e, _⟩
  · exact ⟨⟨oc, od, kV, doc, pm, an, cdv, ct, osl, rfl, lk, hcd⟩, F.kp⟩
  · exact absurd rfl e
theorem rule_of {K : PySem.W.Frag} {C : Addr} {mg : Str → Option Value} {ma : Str → Addr} (h : ruleB K C = true) (m : mg "Rule" = some (.ref C)) (cl : Cls K C) (no : NoAttr K C "kept") (mak : Mk K C (ma "__init__")) (me : ∀ x ∈ methL, Meth K C x (ma x)) : RCl K mg C ma := by
  obtain ⟨h1, h⟩ := He.ba h
  obtain ⟨h2, h⟩ := He.ba h
  obtain ⟨h3, h⟩ := He.ba h
  obtain ⟨h4, h⟩ := He.ba h
  obtain ⟨h5, h⟩ := He.ba h
  obtain ⟨h6, h⟩ := He.ba h
  obtain ⟨h7, h⟩ := He.ba h
  obtain ⟨h8, h⟩ := He.ba h
  obtain ⟨h9, h10⟩ := He.ba h
  exact ⟨m, cl, no, mak, me, of_decide_eq_true h1, of_decide_eq_true h2, of_decide_eq_true h3, of_decide_eq_true h4, of_decide_eq_true h5, of_decide_eq_true h6, h7, of_decide_eq_true h8, fun t ht => by
    obtain ⟨a, b⟩ := He.ba (List.all_eq_true.mp h9 t ht)
    exact ⟨of_decide_eq_true a, b⟩, h10⟩
theorem badS_of {K : PySem.W.Frag} {C : Addr} {mg : Str → Option Value} (h : badB' K C = true) (m : mg "BadSort" = some (.ref C)) : BCl K mg C (He.ma K C "__init__") := by
  obtain ⟨h1, h⟩ := He.ba h
  obtain ⟨h2, h⟩ := He.ba h
  obtain ⟨h3, h⟩ := He.ba h
  obtain ⟨h4, h⟩ := He.ba h
  obtain ⟨h5, h⟩ := He.ba h
  obtain ⟨h6, h⟩ := He.ba h
  obtain ⟨h7, h⟩ := He.ba h
  obtain ⟨h8, h⟩ := He.ba h
  obtain ⟨h9, h10⟩ := He.ba h
  exact ⟨m, ⟨oexB_ok h1, of_decide_eq_true h2, of_decide_eq_true h3, of_decide_eq_true h4, h5⟩, of_decide_eq_true h6, of_decide_eq_true h7, of_decide_eq_true h8, xfB_ok h9, of_decide_eq_true h10⟩
section
variable {P : Program} {w : World} {K : PySem.W.Frag} {h : Heap} {mg : Str → Option Value} {f : Addr}
theorem whole (X : K.In h) (G : h.Ns mainGlobals mg) (hfa : mg ("law" : Str) = some (.ref f)) (c : He.SaysX faL fnL [] [] exB w h K) :
    ∃ fd : FuncData, (∀ (s : Shared) (u : Value), BindsTo s fd ⟨[u], []⟩ [("_law_script", u)]) ∧ ∀ base : Heap, K.In base → base.Ns mainGlobals mg → (base.get? sysModules).isSome = true → FnG P w K mg base CX0 9 f fd ["_law_script"] (spLaw K) := by
  have D := c.t.d
  have ex := c.more
  obtain ⟨x1, ex⟩ := He.ba ex
  obtain ⟨x2, x3⟩ := He.ba ex
  have gl : ∀ x ∈ gloL, mg x = some (.ref (He.ga K x)) := fun x hx => He.glo_ok X G (D.facts (f := .glo x) (List.mem_append_left _ (List.mem_map.mpr ⟨x, hx, rfl⟩)))
  have fr : ∀ x ∈ freeL, mg x = none := fun x hx => He.free_ok X G (D.facts (f := .free x) (List.mem_append_right _ (List.mem_append_left _ (List.mem_map.mpr ⟨x, hx, rfl⟩))))
  have co : ∀ x ∈ conL, x.ok K = true := fun x hx => D.facts (List.mem_append_right _ (List.mem_append_right _ hx))
  have e := hfa.symm.trans (gl "law" (by decide +kernel))
  cases e
  obtain ⟨d0, U0⟩ := D.def_ 0 (d := dG "check_sorts" 7) rfl
  have F0 : Fun K "check_sorts" "check_sorts" (top 7) (He.ga K "check_sorts") d0 := fun_of U0
  have b0 : L2.Binds K d0 ["sorts"] [] := F0.binds fun _ _ _ _ _ _ us hl => match us, hl with | [_], _ => rfl
  have a0 : At K mg "check_sorts" (He.ga K "check_sorts") d0 ["sorts"] := ⟨gl _ (by decide +kernel), F0.kp, b0⟩
  obtain ⟨d1, U1⟩ := D.def_ 1 (d := dG "_law_draw" 9) rfl
  have F1 : Fun K "_law_draw" "_law_draw" (top 9) (He.ga K "_law_draw") d1 := fun_of U1
  have b1 : L2.Binds K d1 ["_law_stream", "_law_many"] [] := F1.binds fun _ _ _ _ _ _ us hl => match us, hl with | [_, _], _ => rfl
  have a1 : At K mg "_law_draw" (He.ga K "_law_draw") d1 ["_law_stream", "_law_many"] := ⟨gl _ (by decide +kernel), F1.kp, b1⟩
  obtain ⟨d2, U2⟩ := D.def_ 2 (d := dG "_law_pick" 10) rfl
  have F2 : Fun K "_law_pick" "_law_pick" (top 10) (He.ga K "_law_pick") d2 := fun_of U2
  have b2 : L2.Binds K d2 ["_law_stream", "_law_things"] [] := F2.binds fun _ _ _ _ _ _ us hl => match us, hl with | [_, _], _ => rfl
  have a2 : At K mg "_law_pick" (He.ga K "_law_pick") d2 ["_law_stream", "_law_things"] := ⟨gl _ (by decide +kernel), F2.kp, b2⟩
  obtain ⟨d3, U3⟩ := D.def_ 3 (d := dG "_law_mixed" 11) rfl
  have F3 : Fun K "_law_mixed" "_law_mixed" (top 11) (He.ga K "_law_mixed") d3 := fun_of U3
  have b3 : L2.Binds K d3 ["_law_stream", "_law_things"] [] := F3.binds fun _ _ _ _ _ _ us hl => match us, hl with | [_, _], _ => rfl
  have a3 : At K mg "_law_mixed" (He.ga K "_law_mixed") d3 ["_law_stream", "_law_things"] := ⟨gl _ (by decide +kernel), F3.kp, b3⟩
  obtain ⟨d4, U4⟩ := D.def_ 4 (d := dG "_law_same" 12) rfl
  have F4 : Fun K "_law_same" "_law_same" (top 12) (He.ga K "_law_same") d4 := fun_of U4
  have b4 : L2.Binds K d4 ["_law_found", "_law_due"] [] := F4.binds fun _ _ _ _ _ _ us hl => match us, hl with | [_, _], _ => rfl
  have a4 : At K mg "_law_same" (He.ga K "_law_same") d4 ["_law_found", "_law_due"] := ⟨gl _ (by decide +kernel), F4.kp, b4⟩
  obtain ⟨d5, U5⟩ := D.def_ 5 (d := dG "_law_sorts" 13) rfl
  have F5 : Fun K "_law_sorts" "_law_sorts" (top 13) (He.ga K "_law_sorts") d5 := fun_of U5
  have b5 : L2.Binds K d5 [] [] := F5.binds fun _ _ _ _ _ _ us hl => match us, hl with | [], _ => rfl
  have a5 : At K mg "_law_sorts" (He.ga K "_law_sorts") d5 [] := ⟨gl _ (by decide +kernel), F5.kp, b5⟩
  obtain ⟨d6, U6⟩ := D.def_ 6 (d := dG "_law_some_sorts" 14) rfl
  have F6 : Fun K "_law_some_sorts" "_law_some_sorts" (top 14) (He.ga K "_law_some_sorts") d6 := fun_of U6
  have b6 : L2.Binds K d6 ["_law_stream"] [] := F6.binds fun _ _ _ _ _ _ us hl => match us, hl with | [_], _ => rfl
  have a6 : At K mg "_law_some_sorts" (He.ga K "_law_some_sorts") d6 ["_law_stream"] := ⟨gl _ (by decide +kernel), F6.kp, b6⟩
  obtain ⟨d7, U7⟩ := D.def_ 7 (d := dG "_law_end" 15) rfl
  have F7 : Fun K "_law_end" "_law_end" (top 15) (He.ga K "_law_end") d7 := fun_of U7
  have b7 : L2.Binds K d7 ["_law_sorts_here"] [] := F7.binds fun _ _ _ _ _ _ us hl => match us, hl with | [_], _ => rfl
  have a7 : At K mg "_law_end" (He.ga K "_law_end") d7 ["_law_sorts_here"] := ⟨gl _ (by decide +kernel), F7.kp, b7⟩
  obtain ⟨d8, U8⟩ := D.def_ 8 (d := dG "_law_up" 16) rfl
  have F8 : Fun K "_law_up" "_law_up" (top 16) (He.ga K "_law_up") d8 := fun_of U8
  have b8 : L2.Binds K d8 ["_law_sorts_here"] [] := F8.binds fun _ _ _ _ _ _ us hl => match us, hl with | [_], _ => rfl
  have a8 : At K mg "_law_up" (He.ga K "_law_up") d8 ["_law_sorts_here"] := ⟨gl _ (by decide +kernel), F8.kp, b8⟩
  obtain ⟨d9, U9⟩ := D.def_ 9 (d := dG "_law_compared" 17) rfl
  have F9 : Fun K "_law_compared" "_law_compared" (top 17) (He.ga K "_law_compared") d9 := fun_of U9
  have b9 : L2.Binds K d9 ["_law_a", "_law_b", "_law_one", "_law_two"] [] := F9.binds fun _ _ _ _ _ _ us hl => match us, hl with | [_, _, _, _], _ => rfl
  have a9 : At K mg "_law_compared" (He.ga K "_law_compared") d9 ["_law_a", "_law_b", "_law_one", "_law_two"] := ⟨gl _ (by decide +kernel), F9.kp, b9⟩
  obtain ⟨d10, U10⟩ := D.def_ 10 (d := dG "law" 18) rfl
  have F10 : Fun K "law" "law" (top 18) (He.ga K "law") d10 := fun_of U10
  obtain ⟨d11, U11⟩ := D.def_ 11 (d := dI "BadSort" "__init__" "BadSort.__init__" 3 0) rfl
  have F11 : Fun K "__init__" "BadSort.__init__" (inClass (top 3) 0) (He.ma K (He.ga K "BadSort") "__init__") d11 := fun_of U11
  have b11 : L2.Binds K d11 ["self", "thing"] [] := F11.binds fun _ _ _ _ _ _ us hl => match us, hl with | [_, _], _ => rfl
  obtain ⟨d12, U12⟩ := D.def_ 12 (d := dI "Rule" "__init__" "Rule.__init__" 6 0) rfl
  have F12 : Fun K "__init__" "Rule.__init__" (inClass (top 6) 0) (He.ma K (He.ga K "Rule") "__init__") d12 := fun_of U12
  have b12 : L2.Binds K d12 ["self", "sorts"] [] := F12.binds fun _ _ _ _ _ _ us hl => match us, hl with | [_, _], _ => rfl
  obtain ⟨d13, U13⟩ := D.def_ 13 (d := dI "Rule" "sorts" "Rule.sorts" 6 1) rfl
  have F13 : Fun K "sorts" "Rule.sorts" (inClass (top 6) 1) (He.ma K (He.ga K "Rule") "sorts") d13 := fun_of U13
  have b13 : L2.Binds K d13 ["self"] [] := F13.binds fun _ _ _ _ _ _ us hl => match us, hl with | [_], _ => rfl
  obtain ⟨d14, U14⟩ := D.def_ 14 (d := dI "Rule" "keeps" "Rule.keeps" 6 4) rfl
  have F14 : Fun K "keeps" "Rule.keeps" (inClass (top 6) 4) (He.ma K (He.ga K "Rule") "keeps") d14 := fun_of U14
  have b14 : L2.Binds K d14 ["self", "other"] [] := F14.binds fun _ _ _ _ _ _ us hl => match us, hl with | [_, _], _ => rfl
  obtain ⟨d15, U15⟩ := D.def_ 15 (d := dI "Rule" "__or__" "Rule.__or__" 6 5) rfl
  have F15 : Fun K "__or__" "Rule.__or__" (inClass (top 6) 5) (He.ma K (He.ga K "Rule") "__or__") d15 := fun_of U15
  have b15 : L2.Binds K d15 ["self", "other"] [] := F15.binds fun _ _ _ _ _ _ us hl => match us, hl with | [_, _], _ => rfl
  obtain ⟨d16, U16⟩ := D.def_ 16 (d := dI "Rule" "__and__" "Rule.__and__" 6 6) rfl
  have F16 : Fun K "__and__" "Rule.__and__" (inClass (top 6) 6) (He.ma K (He.ga K "Rule") "__and__") d16 := fun_of U16
  have b16 : L2.Binds K d16 ["self", "other"] [] := F16.binds fun _ _ _ _ _ _ us hl => match us, hl with | [_, _], _ => rfl
  obtain ⟨d17, U17⟩ := D.def_ 17 (d := dI "Rule" "__invert__" "Rule.__invert__" 6 7) rfl
  have F17 : Fun K "__invert__" "Rule.__invert__" (inClass (top 6) 7) (He.ma K (He.ga K "Rule") "__invert__") d17 := fun_of U17
  have b17 : L2.Binds K d17 ["self"] [] := F17.binds fun _ _ _ _ _ _ us hl => match us, hl with | [_], _ => rfl
  obtain ⟨d18, U18⟩ := D.def_ 18 (d := dI "Rule" "__iter__" "Rule.__iter__" 6 8) rfl
  have F18 : Fun K "__iter__" "Rule.__iter__" (inClass (top 6) 8) (He.ma K (He.ga K "Rule") "__iter__") d18 := fun_of U18
  have b18 : L2.Binds K d18 ["self"] [] := F18.binds fun _ _ _ _ _ _ us hl => match us, hl with | [_], _ => rfl
  obtain ⟨d19, U19⟩ := D.def_ 19 (d := dI "Rule" "__len__" "Rule.__len__" 6 9) rfl
  have F19 : Fun K "__len__" "Rule.__len__" (inClass (top 6) 9) (He.ma K (He.ga K "Rule") "__len__") d19 := fun_of U19
  have b19 : L2.Binds K d19 ["self"] [] := F19.binds fun _ _ _ _ _ _ us hl => match us, hl with | [_], _ => rfl
  obtain ⟨d20, U20⟩ := D.def_ 20 (d := dI "Rule" "__contains__" "Rule.__contains__" 6 10) rfl
  have F20 : Fun K "__contains__" "Rule.__contains__" (inClass (top 6) 10) (He.ma K (He.ga K "Rule") "__contains__") d20 := fun_of U20
  have b20 : L2.Binds K d20 ["self", "x"] [] := F20.binds fun _ _ _ _ _ _ us hl => match us, hl with | [_, _], _ => rfl
  obtain ⟨d21, U21⟩ := D.def_ 21 (d := dI "Rule" "__eq__" "Rule.__eq__" 6 11) rfl
  have F21 : Fun K "__eq__" "Rule.__eq__" (inClass (top 6) 11) (He.ma K (He.ga K "Rule") "__eq__") d21 := fun_of U21
  have b21 : L2.Binds K d21 ["self", "other"] [] := F21.binds fun _ _ _ _ _ _ us hl => match us, hl with | [_, _], _ => rfl
  have bL : ∀ (s : Shared) (u : Value), BindsTo s d10 ⟨[u], []⟩ [("_law_script", u)] := by
    obtain ⟨oc, od, kV, doc, pm, an, cdv, ct, osl, rfl, lk, hcd⟩ := F10.ex
    exact fun s u => .of_eq rfl
  refine ⟨d10, bL, fun base KB GB SM => ?_⟩
  have T : TB mg := ⟨fr _ (by decide +kernel), fr _ (by decide +kernel), fr _ (by decide +kernel), fr _ (by decide +kernel), fr _ (by decide +kernel), fr _ (by decide +kernel), fr _ (by decide +kernel), fr _ (by decide +kernel), fr _ (by decide +kernel), fr _ (by decide +kernel), fr _ (by decide +kernel), fr _ (by decide +kernel)⟩
  have mS := gl "SORTS" (by decide +kernel)
  have hS : ∀ H, SqT K H (He.ga K "SORTS") (srt.map V.str) := rowB_ok (by decide) x1
  have R0 : RCl K mg (He.ga K "Rule") (He.ma K (He.ga K "Rule")) := rule_of x2 (gl _ (by decide +kernel)) (He.cls_ok (co _ (List.mem_cons_self ..))) (He.noat_ok (co _ (List.mem_cons_of_mem _ (List.mem_cons_self ..)))) (He.mkr_ok (co _ (List.mem_cons_of_mem _ (List.mem_cons_of_mem _ (List.mem_cons_self ..)))))
    fun m hm => He.meth_ok (co _ (List.mem_append_right _ (List.mem_map.mpr ⟨m, hm, rfl⟩)))
  have B0 : BCl K mg (He.ga K "BadSort") (He.ma K (He.ga K "BadSort") "__init__") := badS_of x3 (gl _ (by decide +kernel))
  have GB0 : FnOk P w K mg base CX0 1 (He.ma K (He.ga K "BadSort") "__init__") d11 ["self", "thing"] (spIniB (He.ga K "BadSort")) := ok_iniB F11 B0
  have GCh := ok_check (P := P) (w := w) (base := base) F0 T mS hS
  have GChX := ok_checkX (P := P) (w := w) (base := base) F0 T mS hS B0 b11 GB0
  have gI := ok_ini (P := P) (w := w) (base := base) F12 T R0 mS hS a0 GCh
  have gX := ok_iniX (P := P) (w := w) (base := base) F12 T R0 mS hS a0 GChX
  have GD : FnOk P w K mg base CX0 1 (He.ga K "_law_draw") d1 ["_law_stream", "_law_many"] spDraw := ok_draw F1 ⟨fr _ (by decide +kernel)⟩
  have GP := ok_pick (P := P) (w := w) (base := base) F2 ⟨T.int, T.len, T.range, T.list, a1.m, a1.k, a1.b⟩ GD
  have GMx := ok_mixed (P := P) (w := w) (base := base) F3 T a1 GD
  have GSa := ok_same (P := P) (w := w) (base := base) F4 T SM
  have GSo := ok_lsorts (P := P) (w := w) (base := base) F5 T
  have GSs := ok_some (P := P) (w := w) (base := base) F6 T a1 GD a3 GMx a5 GSo
  have GUp := ok_up (P := P) (w := w) (base := base) F8 T a5 GSo
  let md : Str → FuncData := fun m => if m = "__init__" then d12 else if m = "sorts" then d13 else if m = "keeps" then d14 else if m = "__or__" then d15 else if m = "__and__" then d16 else if m = "__invert__" then d17 else if m = "__iter__" then d18 else if m = "__len__" then d19 else if m = "__contains__" then d20 else d21
  have M : RM P w K mg base (He.ga K "Rule") (He.ga K "BadSort") (He.ma K (He.ga K "Rule")) md :=
    { bI := b12, gI := gI, gX := gX, bS := b13, gS := ok_sorts F13 T R0, bK := b14, gK := ok_keeps F14 T R0, bO := b15, gO := ok_or (fI := 0) F15 T R0 mS hS b12 gI, bA := b16, gA := ok_and (fI := 0) F16 T R0 mS hS b12 gI,
      bV := b17, gV := ok_inv F17 T R0 mS hS b12 gI, bT := b18, gT := ok_iter F18 T R0, bL := b19, gL := ok_len F19 T R0, bC := b20, gC := ok_con F20 T R0, bE := b21, gE := ok_eq F21 T R0 }
  have GEn := ok_end (P := P) (w := w) (base := base) F7 T R0 B0 b12 gX b13 M.gS
  have GCm := ok_cmp F9 T R0 M a4 GSa
  let fa : Str → Addr := fun m => if m = "draw" then He.ga K "_law_draw" else if m = "pick" then He.ga K "_law_pick" else if m = "mixed" then He.ga K "_law_mixed" else if m = "sorts" then He.ga K "_law_sorts" else if m = "some" then He.ga K "_law_some_sorts" else if m = "up" then He.ga K "_law_up" else if m = "end" then He.ga K "_law_end" else if m = "same" then He.ga K "_law_same" else He.ga K "_law_compared"
  let fdd : Str → FuncData := fun m => if m = "draw" then d1 else if m = "pick" then d2 else if m = "mixed" then d3 else if m = "sorts" then d5 else if m = "some" then d6 else if m = "up" then d8 else if m = "end" then d7 else if m = "same" then d4 else d9
  have V0 : LV P w K mg base (He.ga K "Rule") (He.ga K "BadSort") (He.ma K (He.ga K "Rule")) md fa fdd :=
    { T := T, R := R0, M := M, aD := a1, GD := GD, aP := a2, GP := GP, aMx := a3, GMx := GMx, aSo := a5, GSo := GSo, aSs := a6, GSs := GSs, aUp := a8, GUp := GUp, aEn := a7, GEn := GEn, aSa := a4, GSa := GSa, aCm := a9, GCm := GCm }
  exact ok_law F10 V0
end
end R

set_option maxHeartbeats 0
open PySem PySem.W PySem.Calls PyProof.Rows
theorem PySem.Challenge.cw_trueagain_k24_rules_told_holds : PySem.Challenge.rw_trueagain_k24_rules_told.Holds := by
  w_on; o_law
  refine HandSHeadRun.head_any (r := R.RL) (q := view R.RL.prog [18]) (H := R.hkL) (ob := R.obL) (M := 20000) (loose := R.looseL) (d := HandSHeadRun.topDef R.RL.prog 18) (kwd := []) R.obL_eq
    (by kernel_rfl) (fun s => by kernel_rfl) R.runL (by kernel_rfl) (by kernel_rfl) (by kernel_rfl) (by rfl) (by first | assumption | decide +kernel) (by decide +kernel) ⟨rfl, rfl, rfl, rfl, rfl, by decide +kernel⟩ ?hw ?hc
  case hw => w_witness2
  case hc =>
    refine EG.walkG (l := PySem.Challenge.rw_trueagain_k24_rules_told) (n := 63) (k := 9) (x := "_law_script") rfl (by decide) (by kernel_rfl) ⟨rfl, by decide, by decide⟩ ?F
    intro w mg fa h Y GG hmg0
    obtain ⟨⟨K, KX, c⟩, sys⟩ := Y
    have hmg : mg ("law" : PySem.Str) = some (.ref fa) := by
      have e : (HandSHeadRun.topDef R.RL.prog 18).name = ("law" : PySem.Str) := by kernel_rfl
      rw [← e]
      exact hmg0
    obtain ⟨fd, hb, hF⟩ := R.whole (P := PySem.Challenge.rw_trueagain_k24_rules_told.prog) (w := w) KX GG hmg c
    have no : ∀ p : PySem.Addr × PySem.Addr, p ∉ ([] : List (PySem.Addr × PySem.Addr)) := fun p hp => by cases hp
    exact ⟨K, [], fd, R.spLaw K, KX, fun p hp => absurd hp (no p), fun p hp => absurd hp (no p), fun p hp => absurd hp (no p), sys, hb, fun H a ns hl _ _ hS => ⟨a, ns, rfl, hl, hS, fun _ => rfl⟩, fun base b1 b2 _ b4 => hF base b1 b2 b4⟩
