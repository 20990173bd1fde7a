import PyProof.Rows.All
import Wide.All
import OpenK.AllK
import Wide.FinOn
import HandS.ForMost
import HandS.Wide
import HandS.Codes
import HandS.Conv
import HandS.Deep
import PySem.Challenge.RW_trueagain_k04_changes_done
import HandS.StrMore
import HandS.Walk
import HandS.IsInst
import HandS.SetKeys
import HandS.DictTup
import PyProof.DictMoreH
import KE.KEqDict
import HandS.More
import HandS.SetBool
import HandS.Strs
import HandS.Iter
import KE.GoesMore
import HandS.Defaults
import HandS.DictComp
import PyProof.ReprRoads
import HandS.Lambda
import HandS.TupSets
import HandS.OwnEq
import KE.KOpsOwn
import PyProof.InstNe
import HandS.Style
import HandS.HotCalls
import HandS.ExcCtx
import HandS.ExcInit
import HandS.ExcInitHot
import HandS.WordsExc
import HandS.Exc
import HandS.TryOnly
import HandS.ExcField
import HandS.ExcOwn
import HandS.Text
import HandS.TupAny
import PyProof.Rows.InDataRows
import HandS.ListItems
import HandS.EndTab
import HandS.Head0
import HandS.Head1
import HandS.Head2
import HandS.HeadEnd
import HandS.HeadHook1
import HandS.HeadHook2
import HandS.HeadHook3
import HandS.HeadHook4
set_option Elab.async false
set_option linter.all false
set_option maxRecDepth 100000
set_option maxHeartbeats 3900000
namespace N4
open PySem PySem.Spec PyProof.Rows L2
open C8 (pss_cut tCut pe_gc)
def top (i : Nat) : Stmt := PySem.Challenge.pw_trueagain_k04_changes_done.main.body.getD i (.Pass ⟨0, 0, 0, 0⟩)
abbrev sDraw : Stmt := top 34
abbrev sPick : Stmt := top 35
abbrev sFresh : Stmt := top 37
abbrev sPool : Stmt := top 38
abbrev sPath : Stmt := top 39
abbrev sText : Stmt := top 42
/-! the stream: its list of what is left, the number that is being used up, the count of draws, the mixed number -/
def SV (H : Hp) (st l : Addr) (ns : List Int) (a c m : Int) : Prop := H st = some (.lst [.ref l, .int a, .int c, .int m]) ∧ H l = some (.lst (ns.map V.int))
theorem SV.ne {H : Hp} {st l : Addr} {ns : List Int} {a c m : Int} (S : SV H st l ns a c m) : st ≠ l := by
  refine ne_of S.1 S.2 fun z => ?_
  have z2 : [V.ref l, V.int a, V.int c, V.int m] = ns.map V.int := HO.lst.inj z
  cases ns with
  | nil => cases z2
  | cons n r =>
    rw [List.map_cons] at z2
    have := (List.cons.inj z2).1
    cases this
def Good (H : Hp) (st l : Addr) (c : Int) : Prop := ∃ (ns : List Int) (a m : Int), SV H st l ns a c m ∧ ns.length ≤ 63 ∧ 0 ≤ a ∧ 0 ≤ m ∧ m < 2147483647
structure Strm (H : Hp) (st l : Addr) (c : Nat) : Prop where
  ex : Good H st l (c : Int)
theorem Strm.ne {H : Hp} {st l : Addr} {c : Nat} (S : Strm H st l c) : st ≠ l := by
  obtain ⟨ns, a, m, h, _⟩ := S.ex
  exact h.ne
/-- all but the stream is as it was -/
def But (st l : Addr) (H H' : Hp) : Prop := ∀ b o, H b = some o → b ≠ st → b ≠ l → H' b = some o
theorem But.refl {st l : Addr} {H : Hp} : But st l H H := fun _ _ e _ _ => e
theorem But.st {st l : Addr} {H H' : Hp} {o : HO} (B : But st l H H') : But st l H (upd H' st o) := fun b u e h1 h2 => by
  rw [upd_ne h1]
  exact B b u e h1 h2
theorem But.li {st l : Addr} {H H' : Hp} {o : HO} (B : But st l H H') : But st l H (upd H' l o) := fun b u e h1 h2 => by
  rw [upd_ne h2]
  exact B b u e h1 h2
theorem But.new {st l p : Addr} {H H' : Hp} {o : HO} (B : But st l H H') (h : H' p = none) : But st l H (upd H' p o) := fun b u e h1 h2 => by
  have q := B b u e h1 h2
  rw [upd_ne (ne_of_none q h)]
  exact q
theorem SV.st {H : Hp} {st l : Addr} {ns : List Int} {a c m a' c' m' : Int} {xs : List V} (S : SV H st l ns a c m) (e : xs = [.ref l, .int a', .int c', .int m']) : SV (upd H st (.lst xs)) st l ns a' c' m' := by
  subst e
  refine ⟨upd_same, ?_⟩
  rw [upd_ne S.ne.symm]
  exact S.2
theorem SV.new {H : Hp} {st l p : Addr} {ns : List Int} {a c m : Int} {o : HO} (S : SV H st l ns a c m) (h : H p = none) : SV (upd H p o) st l ns a c m := by
  refine ⟨?_, ?_⟩
  · rw [upd_ne (ne_of_none S.1 h)]
    exact S.1
  · rw [upd_ne (ne_of_none S.2 h)]
    exact S.2
theorem SV.li {H : Hp} {st l : Addr} {ns ns' : List Int} {a c m : Int} {xs : List V} (S : SV H st l ns a c m) (e : xs = ns'.map V.int) : SV (upd H l (.lst xs)) st l ns' a c m := by
  subst e
  refine ⟨?_, upd_same⟩
  rw [upd_ne S.ne]
  exact S.1
def spDraw : Sp := fun vs H Q _ => ∃ (st l : Addr) (c : Nat) (many : Int), vs = [.ref st, .int many] ∧ Strm H st l c ∧ c ≤ 1000000 ∧ 0 < many ∧ many < 1000000 ∧
  ∀ (d : Int) (H' : Hp), 0 ≤ d → d < many → But st l H H' → Strm H' st l (c + 1) → Q (.int d) H'
structure TDraw (mg : Str → Option Value) : Prop where
  int : mg "int" = none
section
variable {P : Program} {w : World} {K : PySem.W.Frag} {mg : Str → Option Value} {base : Heap}
theorem dp_ints {H : Hp} : ∀ ns : List Int, DpAll K H (ns.map V.int) (ns.map PyData.int)
  | [] => .nil
  | n :: r => .cons (.int n) (dp_ints r)
theorem scD : FnScope ["_law_stream", "_law_many", "_law_digit", "_law_mixed"] ["_law_stream", "_law_many"] (defScope sDraw) := ⟨rfl, rfl, rfl, by decide +kernel, rfl, by decide +kernel, by decide +kernel⟩
theorem ok_draw {f : Addr} {fd : FuncData} (F : Fun K "_law_draw" "_law_draw" sDraw f fd) (T : TDraw mg) : FnOk P w K mg base CX0 1 f fd ["_law_stream", "_law_many"] spDraw := by
  refine F.ok scD (fun vs H Q E h => ?_) (fun cdv A outer s H vs Q E hr h => ?_)
  · obtain ⟨st, l, c, many, rfl, _⟩ := h
    rfl
  · obtain ⟨st, l, c, many, rfl, S, hc, hm0, hm1, k⟩ := h
    have hu := hr.units
    refine ⟨_, pss_cut (ps_asg (pe_op op_add (pe_ix ix_list (pv 0) pe_int (fun _ _ => rfl)) pe_int) (pg_sub (pv 0) pe_int set_list))
      (pss_cut (ps_if (PW.pt (pw_and (pt_cmpR op_eq (pe_ix ix_list (pv 0) pe_int (fun _ _ => rfl)) pe_int (nomark _)) (pw_and1 (pt_cmpR (op_neD hu) (pe_ix ix_list (pv 0) pe_int (fun _ _ => rfl)) (pe_lst pa_nil) (nomark _)))))
        (pss_cut (ps_asg (pe_bm PySem.F.plainAttrs_list PySem.F.slot_list_pop PySem.F.type_list_pop mt_popAt (pe_ix ix_list (pv 0) pe_int (fun _ _ => rfl)) (pa_cons pe_int pa_nil)) (pg_sub (pv 0) pe_int set_list))
          (pss_one (ps_if (pt_cmpR op_lt (pe_ix ix_list (pv 0) pe_int (fun _ _ => rfl)) (pe_op op_pow pe_int pe_int) (nomark _))
            (pss_cut (ps_asg (pe_op op_mod (pe_callTy call_int1 (by rfl) T.int (by decide +kernel) (pa_cons (pe_op op_add (pe_op op_add (pe_op op_mul (pe_ix ix_list (pv 0) pe_int (fun _ _ => rfl)) pe_int) (pe_ix ix_list (pv 0) pe_int (fun _ _ => rfl))) pe_int) pa_nil)) pe_int) (pg_sub (pv 0) pe_int set_list))
              (pss_one (ps_asg pe_int (pg_sub (pv 0) pe_int set_list)))) pss_nil)))
        pss_nil)
      (pss_cut (ps_if (pt_cmpR op_gt (pe_ix ix_list (pv 0) pe_int (fun _ _ => rfl)) pe_int (nomark _))
        (pss_cons (ps_set (i := 2) scD.nd rfl (Or.inl rfl) (pe_op op_mod (pe_callTy call_int1 (by rfl) T.int (by decide +kernel) (pa_cons (pe_ix ix_list (pv 0) pe_int (fun _ _ => rfl)) pa_nil)) (pv 1)))
          (pss_cons (ps_asg (pe_op op_fdivW (pe_ix ix_list (pv 0) pe_int (fun _ _ => rfl)) (pv 1)) (pg_sub (pv 0) pe_int set_list))
            (pss_one (ps_ret (pv 2))))) pss_nil)
      (pss_cons (ps_set (i := 3) scD.nd rfl (Or.inl rfl) (pe_op op_mod (pe_op op_pow (pe_op op_add (pe_op op_add (pe_ix ix_list (pv 0) pe_int (fun _ _ => rfl)) (pe_op op_mul pe_int (pe_ix ix_list (pv 0) pe_int (fun _ _ => rfl)))) pe_int) pe_int) pe_int))
        (pss_one (ps_ret (pe_op op_mod (pe_op op_mod (pe_op op_pow (pe_op op_add (pe_op op_add (pe_op op_mul (pv 3) pe_int)
            (pe_op op_mul (pe_op op_mul pe_int (pe_ix ix_list (pv 0) pe_int (fun _ _ => rfl))) (pe_ix ix_list (pv 0) pe_int (fun _ _ => rfl)))) pe_int) pe_int) pe_int) (pv 1))))))), ?_⟩
    obtain ⟨ns, a, m, hS, hns, ha, hm, hm2⟩ := S.ex
    -- stream[2] = stream[2] + 1
    refine ⟨fun σ H' => σ = [some (.ref st), some (.int many), none, none] ∧ But st l H H' ∧ SV H' st l ns a ((c + 1 : Nat) : Int) m,
      ⟨_, rfl, st, _, _, _, rfl, rfl, SqL.of hS.1, rfl, _, _, rfl, rfl, _, rfl, st, _, 2, 2, rfl, rfl, hS.1, rfl, rfl, But.refl.st, hS.st rfl⟩, ?_⟩
    rintro _ H1 ⟨rfl, B1, S1⟩
    -- if stream[1] == 0 and stream[0] != []: ..
    refine ⟨fun σ H' => σ = [some (.ref st), some (.int many), none, none] ∧ But st l H H' ∧ Good H' st l ((c + 1 : Nat) : Int),
      ⟨_, rfl, st, _, _, _, rfl, rfl, SqL.of S1.1, rfl, rfl, _, rfl, ?_⟩, ?_⟩
    · refine ite2 (fun ea => ?_) (fun _ => iteF ⟨rfl, B1, ns, a, m, S1, hns, ha, hm, hm2⟩)
      refine ⟨_, rfl, st, _, _, _, rfl, rfl, SqL.of S1.1, rfl, Nat.zero_le _, fun p hp => ?_⟩
      have S2 := S1.new (o := .lst []) hp
      have B2 := B1.new (o := .lst []) hp
      refine ⟨.list (ns.map .int), .list [], .lst (SqL.of S2.2) ?_, .lst (SqL.of upd_same) .nil, ?_, rfl, _, rfl, ?_⟩
      · exact dp_ints ns
      · exact PySem.W.shaped_ints ns
      · cases ns with
        | nil => exact iteF ⟨rfl, B2, [], a, m, S2, hns, ha, hm, hm2⟩
        | cons n r =>
          refine iteT ?_
          have hns' : r.length ≤ 63 := by
            rw [List.length_cons] at hns
            omega
          have e0 : seqIndex? 0 (((n :: r).map V.int).length) = some 0 := by
            rw [List.length_map, List.length_cons]
            simp [seqIndex?]
          -- stream[1] = stream[0].pop(0)
          refine ⟨fun σ H' => σ = [some (.ref st), some (.int many), none, none] ∧ But st l H H' ∧ SV H' st l r n ((c + 1 : Nat) : Int) m,
            ⟨_, rfl, st, _, _, _, rfl, rfl, SqL.of S2.1, rfl, .inl ⟨rfl, _, SqL.of S2.2⟩, l, _, 0, 0, _, rfl, rfl, S2.2, by decide, by decide, e0, rfl, _, rfl, st, _, 1, 1, rfl, rfl, (S2.li (ns' := r) rfl).1, rfl, rfl, B2.li.st, (S2.li (ns' := r) rfl).st rfl⟩, ?_⟩
          rintro _ H3 ⟨rfl, B3, S3⟩
          -- if stream[1] < 10 ** 18: ..
          refine ⟨_, rfl, st, _, _, _, rfl, rfl, SqL.of S3.1, rfl, _, _, rfl, rfl, ⟨by decide, by decide, by decide⟩, _, _, rfl, rfl, _, rfl, ?_⟩
          refine ite2 (fun lt => ?_) (fun ge => ?_)
          · refine ⟨fun σ H' => σ = [some (.ref st), some (.int many), none, none] ∧ But st l H H' ∧ ∃ m' : Int, SV H' st l r n ((c + 1 : Nat) : Int) m' ∧ 0 ≤ m' ∧ m' < 2147483647,
              ⟨_, rfl, st, _, _, _, rfl, rfl, SqL.of S3.1, rfl, _, _, rfl, rfl, .inr ⟨by decide, by decide⟩, _, rfl, st, _, _, _, rfl, rfl, SqL.of S3.1, rfl, _, _, rfl, rfl, _, _, rfl, rfl, .inl ⟨_, rfl, _, _, rfl, rfl, (by show (0 : Int) < 2147483647; decide),
                _, rfl, st, _, 3, 3, rfl, rfl, S3.1, rfl, rfl, B3.st, _, S3.st rfl, Int.emod_nonneg _ (by decide), Int.emod_lt_of_pos _ (by decide)⟩⟩, ?_⟩
            rintro _ H4 ⟨rfl, B4, m', S4, h1, h2⟩
            exact ⟨_, rfl, st, _, 1, 1, rfl, rfl, S4.1, rfl, rfl, B4.st, r, 0, m', S4.st rfl, hns', by decide, h1, h2⟩
          · have ge' : ¬ n < (10 : Int) ^ (18 : Int).toNat := fun z => ge (decide_eq_true z)
            have e : (10 : Int) ^ (18 : Int).toNat = 1000000000000000000 := by decide
            rw [e] at ge'
            exact ⟨rfl, B3, r, n, m, S3, hns', by omega, hm, hm2⟩
    · rintro _ H3 ⟨rfl, B3, ns3, a3, m3, S3, hns3, ha3, hm3, hm33⟩
      have ml : many.natAbs.log2 < 9000 := by
        have := PySem.Flt.log2_lt_of (k := 20) (by decide) (show many.natAbs < 2 ^ 20 by omega)
        omega
      -- if stream[1] > 0: ..
      refine ⟨fun σ H' => σ = [some (.ref st), some (.int many), none, none] ∧ But st l H H' ∧ Good H' st l ((c + 1 : Nat) : Int),
        ⟨_, rfl, st, _, _, _, rfl, rfl, SqL.of S3.1, rfl, _, _, rfl, rfl, _, rfl, ?_⟩, ?_⟩
      · refine ite2 (fun _ => ?_) (fun _ => ⟨rfl, B3, ns3, a3, m3, S3, hns3, ha3, hm3, hm33⟩)
        refine ⟨_, rfl, st, _, _, _, rfl, rfl, SqL.of S3.1, rfl, .inl ⟨_, rfl, _, rfl, _, _, rfl, rfl, hm0, ?_⟩⟩
        refine ⟨_, rfl, st, _, _, _, rfl, rfl, SqL.of S3.1, rfl, _, rfl, _, _, rfl, rfl, ⟨hm0, ml⟩, _, rfl, st, _, 1, 1, rfl, rfl, S3.1, rfl, _, rfl, ?_⟩
        exact k _ _ (Int.emod_nonneg _ (by omega)) (Int.emod_lt_of_pos _ hm0) B3.st ⟨ns3, a3 / many, m3, S3.st rfl, hns3, Int.ediv_nonneg ha3 (by omega), hm3, hm33⟩
      · rintro _ H4 ⟨rfl, B4, ns4, a4, m4, S4, hns4, ha4, hm4, hm44⟩
        refine ⟨_, rfl, st, _, _, _, rfl, rfl, SqL.of S4.1, rfl, _, rfl, st, _, _, _, rfl, rfl, SqL.of S4.1, rfl, _, _, rfl, rfl, .inl ⟨by decide, by decide⟩, _, _, rfl, rfl, _, _, rfl, rfl, _, _, rfl, rfl, ⟨by decide, by decide, by omega⟩, _, _, rfl, rfl, (by show (0 : Int) < 2147483629; decide), ?_⟩
        generalize hx : (m4 + 104729 * ((c + 1 : Nat) : Int) + 17) ^ (5 : Int).toNat % 2147483629 = x
        have x0 : 0 ≤ x := by
          rw [← hx]
          exact Int.emod_nonneg _ (by decide)
        have x1 : x < 2147483629 := by
          rw [← hx]
          exact Int.emod_lt_of_pos _ (by decide)
        have cc : 40503 * ((c + 1 : Nat) : Int) * ((c + 1 : Nat) : Int) ≤ 40503 * 1000001 * 1000001 := Int.mul_le_mul (by omega) (by omega) (by omega) (by decide)
        have c0 : 0 ≤ 40503 * ((c + 1 : Nat) : Int) * ((c + 1 : Nat) : Int) := Int.mul_nonneg (by omega) (by omega)
        refine ⟨_, rfl, _, _, rfl, rfl, .inr ⟨by decide, by decide⟩, _, rfl, st, _, _, _, rfl, rfl, SqL.of S4.1, rfl, _, _, rfl, rfl, .inl ⟨by decide, by decide⟩, _, rfl, st, _, _, _, rfl, rfl, SqL.of S4.1, rfl, _, _, rfl, rfl, .inr ⟨by omega, by omega⟩,
          _, _, rfl, rfl, _, _, rfl, rfl, _, _, rfl, rfl, ⟨by decide, by decide, by omega⟩, _, _, rfl, rfl, (by show (0 : Int) < 1000000007; decide), _, rfl, _, _, rfl, rfl, hm0, ?_⟩
        exact k _ _ (Int.emod_nonneg _ (by omega)) (Int.emod_lt_of_pos _ hm0) B4 ⟨ns4, a4, m4, S4, hns4, ha4, hm4, hm44⟩
end
theorem at_int {α : Type} {xs : List α} {d : Int} (d0 : 0 ≤ d) (d1 : d < xs.length) : ∃ (i : Nat) (x : α), xs[i]? = some x ∧ atI xs d = some x := by
  obtain ⟨n, rfl⟩ := Int.eq_ofNat_of_zero_le d0
  have hlt : n < xs.length := by omega
  exact ⟨n, xs[n], List.getElem?_eq_getElem hlt, atI_nat (List.getElem?_eq_getElem hlt)⟩
theorem But.trans {st l : Addr} {H H1 H2 : Hp} (a : But st l H H1) (b : But st l H1 H2) : But st l H H2 := fun c o h n1 n2 => b c o (a c o h n1 n2) n1 n2
theorem But.same {st l : Addr} {H H1 : Hp} (a : Same H H1) : But st l H H1 := fun c o h _ _ => a c o h
theorem Strm.up {H H' : Hp} {st l : Addr} {c : Nat} (S : Strm H st l c) (e : Same H H') : Strm H' st l c := by
  obtain ⟨ns, a, m, ⟨h1, h2⟩, r⟩ := S.ex
  exact ⟨ns, a, m, ⟨e _ _ h1, e _ _ h2⟩, r⟩
theorem same_new {H : Hp} {p : Addr} {o : HO} (h : H p = none) : Same H (upd H p o) := fun a u e => by
  rw [upd_ne (ne_of_none e h)]
  exact e
theorem Strm.ne_new {H : Hp} {st l p : Addr} {c : Nat} (S : Strm H st l c) (h : H p = none) : p ≠ st ∧ p ≠ l := by
  obtain ⟨ns, a, m, ⟨h1, h2⟩, r⟩ := S.ex
  exact ⟨(ne_of_none h1 h).symm, (ne_of_none h2 h).symm⟩
theorem But.put {st l p : Addr} {H H' : Hp} {o : HO} (a : But st l H H') (h : H p = none) : But st l H (upd H' p o) := fun c u e n1 n2 => by
  rw [upd_ne (ne_of_none e h)]
  exact a c u e n1 n2
theorem Strm.put {H : Hp} {st l p : Addr} {c : Nat} {o : HO} (S : Strm H st l c) (n : p ≠ st ∧ p ≠ l) : Strm (upd H p o) st l c := by
  obtain ⟨ns, a, m, ⟨h1, h2⟩, r⟩ := S.ex
  exact ⟨ns, a, m, ⟨by rw [upd_ne n.1.symm]; exact h1, by rw [upd_ne n.2.symm]; exact h2⟩, r⟩
def spPickL : Sp := fun vs H Q _ => ∃ (st l : Addr) (c : Nat) (p : Addr) (xs : List V), vs = [.ref st, .ref p] ∧ Strm H st l c ∧ c ≤ 1000000 ∧ H p = some (.lst xs) ∧ p ≠ st ∧ p ≠ l ∧ 0 < xs.length ∧ xs.length < 1000 ∧
  ∀ (i : Nat) (x : V) (H' : Hp), xs[i]? = some x → But st l H H' → Strm H' st l (c + 1) → Q x H'
def spPickS : Sp := fun vs H Q _ => ∃ (st l : Addr) (c : Nat) (z : Str), vs = [.ref st, .str z] ∧ Strm H st l c ∧ c ≤ 1000000 ∧ 0 < z.length ∧ z.length < 1000 ∧
  ∀ (ch : Nat) (H' : Hp), ch ∈ z.cps.toList → But st l H H' → Strm H' st l (c + 1) → Q (.str ⟨#[ch]⟩) H'
def spPick : Sp := fun vs H Q E => spPickL vs H Q E ∨ spPickS vs H Q E
/-- what the small defs lean on -/
structure TG1 (K : PySem.W.Frag) (mg : Str → Option Value) (fD : Addr) (fdD : FuncData) : Prop where
  int : mg "int" = none
  len : mg "len" = none
  range : mg "range" = none
  list : mg "list" = none
  mD : mg "_law_draw" = some (.ref fD)
  kD : PySem.W.keepIn K (.ref fD) = true
  bD : L2.Binds K fdD ["_law_stream", "_law_many"] []
section
variable {P : Program} {w : World} {K : PySem.W.Frag} {mg : Str → Option Value} {base : Heap} {fD : Addr} {fdD : FuncData}
theorem scP : FnScope ["_law_stream", "_law_things"] ["_law_stream", "_law_things"] (defScope sPick) := ⟨rfl, rfl, rfl, by decide +kernel, rfl, by decide +kernel, by decide +kernel⟩
theorem ok_pick {f : Addr} {fd : FuncData} (F : Fun K "_law_pick" "_law_pick" sPick f fd) (T : TG1 K mg fD fdD) (GD : FnOk P w K mg base CX0 1 fD fdD ["_law_stream", "_law_many"] spDraw) : FnOk P w K mg base CX0 2 f fd ["_law_stream", "_law_things"] spPick := by
  refine F.ok scP (fun vs H Q E h => ?_) (fun cdv A outer s H vs Q E hr h => ?_)
  · rcases h with ⟨st, l, c, p, xs, rfl, _⟩ | ⟨st, l, c, z, rfl, _⟩
    · rfl
    · rfl
  · rcases h with ⟨st, l, c, p, xs, rfl, S, hc, hp, n1, n2, h0, h1, k⟩ | ⟨st, l, c, z, rfl, S, hc, h0, h1, k⟩
    · refine ⟨_, pss_one (ps_ret (pe_ix ix_list (pv 1) (pe_call GD hr rfl T.mD T.kD T.bD .nil pass0 (pa_cons (pv 0) (pa_cons (pe_callB call_len_seq (by rfl) T.len PySem.boot_len (pa_cons (pv 1) pa_nil)) pa_nil))) (fun _ _ => rfl))), ?_⟩
      refine ⟨_, rfl, _, rfl, _, rfl, p, xs, rfl, .inl (SqL.of hp), st, l, c, _, rfl, S, hc, by omega, by omega, fun d H' d0 d1 B S' => ?_⟩
      have hp' := B _ _ hp n1 n2
      obtain ⟨i, x, hx, ha⟩ := at_int d0 d1
      exact ⟨p, xs, d, x, rfl, rfl, SqL.of hp', ha, k _ _ _ hx B S'⟩
    · refine ⟨_, pss_one (ps_ret (pe_ix ix_str (pv 1) (pe_call GD hr rfl T.mD T.kD T.bD .nil pass0 (pa_cons (pv 0) (pa_cons (pe_callB call_len_str (by rfl) T.len PySem.boot_len (pa_cons (pv 1) pa_nil)) pa_nil))) (fun _ _ => rfl))), ?_⟩
      have hzs : z.length ≤ sizeLine := Nat.le_of_lt (Nat.lt_of_lt_of_le h1 (by decide))
      refine ⟨_, rfl, _, rfl, _, rfl, z, rfl, hzs, st, l, c, _, rfl, S, hc, by omega, by omega, fun d H' d0 d1 B S' => ?_⟩
      have el : z.cps.toList.length = z.length := by simp [Str.length]
      obtain ⟨i, x, hx, ha⟩ := at_int (xs := z.cps.toList) d0 (by rw [el]; exact d1)
      exact ⟨z, d, x, rfl, rfl, hzs, ha, k _ _ (List.mem_of_getElem? hx) B S'⟩
end
end N4

set_option maxHeartbeats 3900000
namespace N4
open PySem PySem.Spec PyProof.Rows L2 TL
open C8 (pss_cut tCut pe_gc)
/-! names, lists of texts -/
def IsNm (z : Str) : Prop := 1 ≤ z.length ∧ z.length ≤ 8 ∧ ∀ c ∈ tl z, 97 ≤ c ∧ c ≤ 122
instance (z : Str) : Decidable (IsNm z) := by unfold IsNm; infer_instance
abbrev letters : Str := "abcdefghijklmnopqrstuvwxyz"
theorem letter_at : ∀ i, i < 26 → (letters.cps.toList)[i]? = some (97 + i) := by decide +kernel
theorem letters_all : ∀ c ∈ letters.cps.toList, 97 ≤ c ∧ c ≤ 122 := by decide +kernel
theorem join_one : ∀ cs : List Nat, tl (Txt.join "" (cs.map fun c => (⟨#[c]⟩ : Str))) = cs
  | [] => by
    rw [join_eq]
    rfl
  | [c] => by
    rw [join_eq]
    rfl
  | c :: d :: r => by
    have ih := join_one (d :: r)
    rw [join_eq] at ih ⊢
    have e : Str.join "" ((c :: d :: r).map fun c => (⟨#[c]⟩ : Str)) = (⟨#[c]⟩ : Str) ++ "" ++ Str.join "" ((d :: r).map fun c => (⟨#[c]⟩ : Str)) := rfl
    rw [e, tl_append, tl_append, ih]
    rfl
theorem len_tl (z : Str) : z.length = (tl z).length := by simp [Str.length, tl]
theorem name_of_letters {cs : List Nat} (h1 : 1 ≤ cs.length) (h8 : cs.length ≤ 8) (h : ∀ c ∈ cs, 97 ≤ c ∧ c ≤ 122) : IsNm (Txt.join "" (cs.map fun c => (⟨#[c]⟩ : Str))) := by
  refine ⟨?_, ?_, ?_⟩
  · rw [len_tl, join_one]
    exact h1
  · rw [len_tl, join_one]
    exact h8
  · rw [join_one]
    exact h
/-- the spare names -/
def spare (i : Nat) : Str := "q" ++ (⟨#[97 + i / 26]⟩ : Str) ++ (⟨#[97 + i % 26]⟩ : Str)
theorem spare_tl (i : Nat) : tl (spare i) = [113, 97 + i / 26, 97 + i % 26] := by
  unfold spare
  rw [tl_append, tl_append]
  rfl
theorem spare_nm {i : Nat} (h : i < 676) : IsNm (spare i) := by
  refine ⟨?_, ?_, ?_⟩
  · rw [len_tl, spare_tl]
    exact Nat.succ_le_succ (Nat.zero_le 2)
  · rw [len_tl, spare_tl]
    exact Nat.le_of_ble_eq_true rfl
  · rw [spare_tl]
    intro c hc
    simp only [List.mem_cons, List.not_mem_nil, or_false] at hc
    omega
theorem spare_inj {i j : Nat} (h : spare i = spare j) : i = j := by
  have e := congrArg tl h
  rw [spare_tl, spare_tl] at e
  simp only [List.cons.injEq, and_true, true_and] at e
  omega
theorem pigeon {α : Type} [DecidableEq α] : ∀ (l m : List α), l.Nodup → (∀ x ∈ l, x ∈ m) → l.length ≤ m.length
  | [], _, _, _ => Nat.zero_le _
  | x :: r, m, nd, h => by
    have hx := h x List.mem_cons_self
    have nd2 := List.nodup_cons.mp nd
    have ih := pigeon r (m.erase x) nd2.2 fun y hy => (List.mem_erase_of_ne fun z => nd2.1 (by rw [← z]; exact hy)).mpr (h y (List.mem_cons_of_mem _ hy))
    rw [List.length_erase_of_mem hx] at ih
    have := List.length_pos_of_mem hx
    rw [List.length_cons]
    omega
theorem spares_many {taken : List Str} (h : ∀ i, i < 676 → spare i ∈ taken) : 100 ≤ taken.length := by
  have q := pigeon ((List.range 100).map spare) taken ?_ ?_
  · rw [List.length_map, List.length_range] at q
    exact q
  · exact List.Pairwise.map spare (fun a b h e => h (spare_inj e)) List.nodup_range
  · intro x hx
    obtain ⟨i, hi, rfl⟩ := List.mem_map.mp hx
    exact h i (by have := List.mem_range.mp hi; omega)
theorem inV_strs (z : Str) : ∀ zs : List Str, inV (.str z) (zs.map V.str) = decide (z ∈ zs)
  | [] => rfl
  | y :: r => by
    have ih := inV_strs z r
    show (eqV (.str y) (.str z) || inV (.str z) (r.map V.str)) = decide (z ∈ y :: r)
    rw [ih]
    show ((y == z) || decide (z ∈ r)) = decide (z ∈ y :: r)
    by_cases e : y = z
    · subst e
      simp
    · have e2 : z ≠ y := fun q => e q.symm
      simp [e, e2]
theorem flat_strs : ∀ zs : List Str, (zs.map V.str).all flatV = true
  | [] => rfl
  | _ :: r => flat_strs r
/-- a list of texts is none of the stream's lists -/
theorem strs_but {H H' : Hp} {st l p : Addr} {c : Nat} {z : Str} {zs : List V} (S : Strm H st l c) (B : But st l H H') (h : H p = some (.lst (.str z :: zs))) : H' p = some (.lst (.str z :: zs)) := by
  obtain ⟨ns, a, m, ⟨h1, h2⟩, _⟩ := S.ex
  refine B _ _ h (ne_of h h1 fun q => ?_) (ne_of h h2 fun q => ?_)
  · have := HO.lst.inj q
    have := (List.cons.inj this).1
    cases this
  · have e : V.str z :: zs = ns.map V.int := HO.lst.inj q
    cases ns with
    | nil => cases e
    | cons n r =>
      rw [List.map_cons] at e
      have := (List.cons.inj e).1
      cases this
end N4

set_option maxHeartbeats 3900000
namespace N4
open PySem PySem.Spec PyProof.Rows L2 TL
open C8 (pss_cut tCut pe_gc)
theorem at_map {α β : Type} {f : α → β} {xs : List α} {d : Int} {x : α} (h : atI xs d = some x) : atI (xs.map f) d = some (f x) := by
  unfold atI at h ⊢
  rw [List.length_map]
  cases e : ixN xs.length d with
  | none =>
    rw [e] at h
    cases h
  | some j =>
    rw [e] at h
    have h2 : xs[j]? = some x := h
    show (xs.map f)[j]? = some (f x)
    rw [List.getElem?_map, h2]
    rfl
/-- a def as others call it -/
structure At (K : PySem.W.Frag) (mg : Str → Option Value) (x : Str) (f : Addr) (fd : FuncData) (ps : List Str) : Prop where
  m : mg x = some (.ref f)
  k : PySem.W.keepIn K (.ref f) = true
  b : L2.Binds K fd ps []
structure TB (mg : Str → Option Value) : Prop where
  int : mg "int" = none
  len : mg "len" = none
  range : mg "range" = none
  list : mg "list" = none
  tuple : mg "tuple" = none
  any : mg "any" = none
  all : mg "all" = none
  sorted : mg "sorted" = none
  isinstance : mg "isinstance" = none
  enumerate : mg "enumerate" = none
  zip : mg "zip" = none
  str : mg "str" = none
abbrev aD' (K : PySem.W.Frag) (mg : Str → Option Value) (f : Addr) (fd : FuncData) := At K mg "_law_draw" f fd ["_law_stream", "_law_many"]
def texts : List Str := ["", "x", "y", "x y", "no", "yes", "a/b", "-", "xa", "xb", "X"]
def spText : Sp := fun vs H Q _ => ∃ (st l : Addr) (c : Nat), vs = [.ref st] ∧ Strm H st l c ∧ c ≤ 1000000 ∧
  ∀ (z : Str) (H' : Hp), z ∈ texts → But st l H H' → Strm H' st l (c + 1) → Q (.str z) H'
/-- a list of names, where the stream is none of it -/
structure Pool (H : Hp) (st l p : Addr) (zs : List Str) : Prop where
  h : H p = some (.lst (zs.map V.str))
  n1 : p ≠ st
  n2 : p ≠ l
theorem Pool.but {H H' : Hp} {st l p : Addr} {zs : List Str} (h : Pool H st l p zs) (B : But st l H H') : Pool H' st l p zs := ⟨B _ _ h.h h.n1 h.n2, h.n1, h.n2⟩
def spPath : Sp := fun vs H Q _ => ∃ (st l p : Addr) (c : Nat) (zs : List Str) (most : Int), vs = [.ref st, .ref p, .int most] ∧ Strm H st l c ∧ c ≤ 900000 ∧ Pool H st l p zs ∧ 0 < zs.length ∧ zs.length < 1000 ∧ (∀ z ∈ zs, IsNm z) ∧ 0 < most ∧ most < 1000 ∧
  ∀ (ys : List Str) (H' : Hp) (c' : Nat), 1 ≤ ys.length → (ys.length : Int) ≤ most → (∀ y ∈ ys, y ∈ zs) → But st l H H' → Strm H' st l c' → c' ≤ c + 1 + most.toNat → Q (.str (Txt.join "/" ys)) H'
def spFresh : Sp := fun vs H Q _ => ∃ (st l p : Addr) (c : Nat) (zs : List Str), vs = [.ref st, .ref p] ∧ Strm H st l c ∧ c ≤ 900000 ∧ Pool H st l p zs ∧ zs.length < 100 ∧
  ∀ (z : Str) (H' : Hp) (c' : Nat), IsNm z → z ∉ zs → But st l H H' → Strm H' st l c' → c' ≤ c + 11 → Q (.str z) H'
section
variable {P : Program} {w : World} {K : PySem.W.Frag} {mg : Str → Option Value} {base : Heap} {fD fP fPa fFr : Addr} {fdD fdP fdPa fdFr : FuncData}
theorem scTe : FnScope ["_law_stream"] ["_law_stream"] (defScope sText) := ⟨rfl, rfl, rfl, by decide +kernel, rfl, by decide +kernel, by decide +kernel⟩
theorem ok_text {f : Addr} {fd : FuncData} (F : Fun K "_law_text" "_law_text" sText f fd) (aD : aD' K mg fD fdD) (GD : FnOk P w K mg base CX0 1 fD fdD ["_law_stream", "_law_many"] spDraw) : FnOk P w K mg base CX0 2 f fd ["_law_stream"] spText := by
  refine F.ok scTe (fun vs H Q E h => ?_) (fun cdv A outer s H vs Q E hr h => ?_)
  · obtain ⟨st, l, c, rfl, _⟩ := h
    rfl
  · obtain ⟨st, l, c, rfl, S, hc, k⟩ := h
    refine ⟨_, pss_one (ps_ret (pe_ix ix_list (pe_lst (pa_cons pe_str (pa_cons pe_str (pa_cons pe_str (pa_cons pe_str (pa_cons pe_str (pa_cons pe_str (pa_cons pe_str (pa_cons pe_str (pa_cons pe_str (pa_cons pe_str (pa_cons pe_str pa_nil)))))))))))) (pe_call GD (hr.mono (by decide)) rfl aD.m aD.k aD.b .nil pass0 (pa_cons (pv 0) (pa_cons pe_int pa_nil))) (fun _ _ => rfl))), ?_⟩
    refine ⟨by show 11 ≤ sizeLine; decide, fun p hp => ?_⟩
    have np := S.ne_new hp
    refine ⟨_, rfl, st, l, c, _, rfl, S.up (same_new hp), by omega, by decide, by decide, fun d H' d0 d1 B S' => ?_⟩
    have hp' := B _ _ upd_same np.1 np.2
    obtain ⟨i, x, hx, ha⟩ := at_int (xs := texts.map V.str) d0 (by exact d1)
    obtain ⟨z, hz, rfl⟩ := List.mem_map.mp (List.mem_of_getElem? hx)
    exact ⟨p, texts.map V.str, d, .str z, rfl, rfl, SqL.of hp', ha, k _ _ hz ((But.same (same_new hp)).trans B) S'⟩
theorem scPa : FnScope ["_law_stream", "_law_pool_here", "_law_most", "_law_k"] ["_law_stream", "_law_pool_here", "_law_most"] (defScope sPath) := ⟨rfl, rfl, rfl, by decide +kernel, rfl, by decide +kernel, by decide +kernel⟩
theorem names_len {ys : List Str} (h : ∀ y ∈ ys, y.length ≤ 8) : (ys.map (·.length)).sum ≤ ys.length * 8 := by
  induction ys with
  | nil => exact Nat.le_refl _
  | cons y r ih =>
    have := ih fun z hz => h z (List.mem_cons_of_mem _ hz)
    have := h y List.mem_cons_self
    simp only [List.map_cons, List.sum_cons, List.length_cons]
    omega
theorem ok_path {f : Addr} {fd : FuncData} (F : Fun K "_law_path" "_law_path" sPath f fd) (T : TB mg) (aD : aD' K mg fD fdD) (aP : At K mg "_law_pick" fP fdP ["_law_stream", "_law_things"]) (GD : FnOk P w K mg base CX0 1 fD fdD ["_law_stream", "_law_many"] spDraw)
    (GP : FnOk P w K mg base CX0 2 fP fdP ["_law_stream", "_law_things"] spPick) : FnOk P w K mg base CX0 3 f fd ["_law_stream", "_law_pool_here", "_law_most"] spPath := by
  refine F.ok scPa (fun vs H Q E h => ?_) (fun cdv A outer s H vs Q E hr h => ?_)
  · obtain ⟨st, l, p, c, zs, most, rfl, _⟩ := h
    rfl
  · obtain ⟨st, l, p, c, zs, most, rfl, S, hc, L, z0, z1, nm, m0, m1, k⟩ := h
    refine ⟨_, pss_one (ps_ret (pe_join pe_str (pe_lc (own := [("_law_k", 3)]) (g := gName 3) (tt := tYes) rfl scPa.nd (pi_range1 rfl T.range (pa_cons (pe_op op_add pe_int (pe_call GD (hr.mono (by decide)) rfl aD.m aD.k aD.b .nil pass0 (pa_cons (pv 0) (pa_cons (pv 2) pa_nil)))) pa_nil)) (blkOk_by (own := [("_law_k", 3)]) (N := ["_law_stream", "_law_pool_here", "_law_most", "_law_k"]) (sc := defScope sPath) (by decide +kernel)) (fun _ _ _ _ _ => (pg_name (i := 3) scPa.nd rfl (Or.inl rfl))) (fun _ _ _ _ _ => pts_nil) (fun _ _ _ _ _ => (pe_call GP (hr.mono (by decide)) rfl aP.m aP.k aP.b .nil pass0 (pa_cons (pv 0) (pa_cons (pv 1) pa_nil))))))), ?_⟩
    refine ⟨⟨_, rfl⟩, _, rfl, _, rfl, st, l, c, _, rfl, S, by omega, m0, by omega, fun d H1 d0 d1 B1 S1 => ?_⟩
    obtain ⟨n, hn⟩ : ∃ n : Nat, 1 + d = (n : Int) := ⟨(1 + d).toNat, by omega⟩
    refine ⟨_, _, rfl, rfl, 1 + d, rfl, by omega, by omega, fun D hD => ?_⟩
    rw [show (1 + d).toNat = n by omega]
    refine lc_range (lo := 0) (n := n) (fun i H' => But st l H1 H' ∧ Strm H' st l (c + 1 + i) ∧ ∃ ys : List Str, ys.length = i ∧ H' D = some (.lst (ys.map V.str)) ∧ ∀ y ∈ ys, y ∈ zs)
      ⟨But.same (same_new hD), S1.up (same_new hD), [], rfl, upd_same, by simp⟩ ?_ ?_
    · rintro i H' hi ⟨B', S', ys, hy, hD', hs⟩
      have nD := S1.ne_new hD
      have L' := L.but (B1.trans B')
      refine ⟨rfl, _, rfl, _, rfl, .inl ⟨st, l, c + 1 + i, p, zs.map V.str, rfl, S', by omega, L'.h, L'.n1, L'.n2, by rw [List.length_map]; exact z0, by rw [List.length_map]; exact z1, fun j x H'' hx B'' S'' => ?_⟩⟩
      obtain ⟨z, hz, rfl⟩ := List.mem_map.mp (List.mem_of_getElem? hx)
      refine ⟨_, B'' _ _ hD' nD.1 nD.2, ?_, (B'.trans B'').put hD, S''.put nD, ys ++ [z], ?_, ?_, fun y hy' => ?_⟩
      · rw [List.length_map, hy]
        exact Nat.lt_of_lt_of_le (show i < 1001 by omega) (by decide)
      · rw [List.length_append, hy]
        rfl
      · rw [upd_same, List.map_append]
        rfl
      · rcases List.mem_append.mp hy' with q | q
        · exact hs y q
        · rw [List.mem_singleton.mp q]
          exact hz
    · rintro H' ⟨B', S', ys, hy, hD', hs⟩
      refine ⟨_, D, ys, rfl, rfl, .inl (SqL.of hD'), ?_, k ys H' (c + 1 + n) (by omega) (by omega) hs (B1.trans B') S' (by omega)⟩
      have := names_len fun y q => (nm y (hs y q)).2.1
      have e : (("/" : Str).length) = 1 := by decide
      rw [e]
      omega
def fwords : List Str := ["read", "list", "setting", "tool", "end", "main", "none"]
theorem fwords_nm : ∀ z ∈ fwords, IsNm z := by decide +kernel
def nums : List Int := [1, 1, 1, 2, 3, 8]
theorem nums_ok : ∀ n ∈ nums, 1 ≤ n ∧ n ≤ 8 := by decide
theorem scFr : FnScope ["_law_stream", "_law_taken", "_law_letters", "_law_words", "_law_k", "_law_name", "_law_spare"] ["_law_stream", "_law_taken"] (defScope sFresh) := ⟨rfl, rfl, rfl, by decide +kernel, rfl, by decide +kernel, by decide +kernel⟩
theorem ok_fresh {f : Addr} {fd : FuncData} (F : Fun K "_law_fresh" "_law_fresh" sFresh f fd) (T : TB mg) (aD : aD' K mg fD fdD) (aP : At K mg "_law_pick" fP fdP ["_law_stream", "_law_things"]) (GD : FnOk P w K mg base CX0 1 fD fdD ["_law_stream", "_law_many"] spDraw)
    (GP : FnOk P w K mg base CX0 2 fP fdP ["_law_stream", "_law_things"] spPick) : FnOk P w K mg base CX0 3 f fd ["_law_stream", "_law_taken"] spFresh := by
  refine F.ok scFr (fun vs H Q E h => ?_) (fun cdv A outer s H vs Q E hr h => ?_)
  · obtain ⟨st, l, p, c, zs, rfl, _⟩ := h
    rfl
  · obtain ⟨st, l, p, c, zs, rfl, S, hc, L, z1, k⟩ := h
    refine ⟨_, pss_cut (ps_asg (pe_tup (pa_cons pe_str (pa_cons (pe_lst (pa_cons pe_str (pa_cons pe_str (pa_cons pe_str (pa_cons pe_str (pa_cons pe_str (pa_cons pe_str (pa_cons pe_str pa_nil)))))))) pa_nil))) (pg_tup rfl (pgs_cons (pg_name (i := 2) scFr.nd rfl (Or.inr rfl)) (pgs_cons (pg_name (i := 3) scFr.nd rfl (Or.inl rfl)) pgs_nil))))
        (pss_cut (ps_set (i := 5) scFr.nd rfl (Or.inl rfl) (pe_join pe_str (pe_lc (own := [("_law_k", 4)]) (g := gName 4) (tt := tYes) rfl scFr.nd (pi_range1 rfl T.range (pa_cons (pe_ix ix_list (pe_lst (pa_cons pe_int (pa_cons pe_int (pa_cons pe_int (pa_cons pe_int (pa_cons pe_int (pa_cons pe_int pa_nil))))))) (pe_call GD (hr.mono (by decide)) rfl aD.m aD.k aD.b .nil pass0 (pa_cons (pv 0) (pa_cons pe_int pa_nil))) (fun _ _ => rfl)) pa_nil)) (blkOk_by (own := [("_law_k", 4)]) (N := ["_law_stream", "_law_taken", "_law_letters", "_law_words", "_law_k", "_law_name", "_law_spare"]) (sc := defScope sFresh) (by decide +kernel)) (fun _ _ _ _ _ => (pg_name (i := 4) scFr.nd rfl (Or.inl rfl))) (fun _ _ _ _ _ => pts_nil) (fun _ _ _ _ _ => (pe_ix ix_str (pv 2) (pe_call GD (hr.mono (by decide)) rfl aD.m aD.k aD.b .nil pass0 (pa_cons (pv 0) (pa_cons pe_int pa_nil))) (fun _ _ => rfl))))))
        (pss_cut (ps_set (i := 5) scFr.nd rfl (Or.inl rfl) (pe_ifExp (pt_cmpR op_eq (pe_call GD (hr.mono (by decide)) rfl aD.m aD.k aD.b .nil pass0 (pa_cons (pv 0) (pa_cons pe_int pa_nil))) pe_int (nomark _)) (pe_call GP (hr.mono (by decide)) rfl aP.m aP.k aP.b .nil pass0 (pa_cons (pv 0) (pa_cons (pv 3) pa_nil))) (pv 5)))
        (pss_cut (ps_for PassesOwn.never rfl (pi_range1 rfl T.range (pa_cons (pe_op op_mul pe_int (pe_callTy call_int1 (by rfl) T.int (by decide +kernel) (pa_cons (pe_cmpR op_in_seq (pv 5) (pv 1) (by rfl)) pa_nil))) pa_nil)) (pg_name (i := 4) scFr.nd rfl (Or.inl rfl)) (pss_cut (ps_set (i := 6) scFr.nd rfl (Or.inl rfl) (pe_op op_add_str (pe_op op_add_str pe_str (pe_ix ix_str (pv 2) (pe_op op_fdiv (pv 4) pe_int) (fun _ _ => rfl))) (pe_ix ix_str (pv 2) (pe_op op_mod (pv 4) pe_int) (fun _ _ => rfl))))
        (pss_one (ps_if (pt_cmpR op_notIn_seq (pv 6) (pv 1) (by rfl)) (pss_one (ps_ret (pv 6))) (pss_nil)))))
        (pss_one (ps_ret (pv 5)))))), ?_⟩
    -- letters, words
    refine ⟨fun σ H' => ∃ q, σ = [some (.ref st), some (.ref p), some (.str letters), some (.ref q), none, none, none] ∧ But st l H H' ∧ Strm H' st l c ∧ Pool H' st l q fwords, ?_, ?_⟩
    · refine ⟨by show 7 ≤ sizeLine; decide, fun q hq => ⟨by show 2 ≤ sizeLine; decide, fun t ht => ?_⟩⟩
      have nq := S.ne_new hq
      have nt : q ≠ t := ne_of_none upd_same ht
      have s1 : Same H (upd (upd H q (.lst (fwords.map V.str))) t (.tup [.str letters, .ref q])) := (same_new hq).trans (same_new ht)
      exact ⟨t, _, rfl, SqT.of upd_same, rfl, _, _, rfl, _, _, rfl, rfl, q, rfl, But.same s1, S.up s1, ⟨by rw [upd_ne nt]; exact upd_same, nq.1, nq.2⟩⟩
    rintro _ H1 ⟨q, rfl, B1, S1, Lq⟩
    -- name = ''.join(..)
    refine ⟨fun σ H' => ∃ z x4 c', σ = [some (.ref st), some (.ref p), some (.str letters), some (.ref q), x4, some (.str z), none] ∧ IsNm z ∧ But st l H H' ∧ Strm H' st l c' ∧ c' ≤ c + 9 ∧ Pool H' st l q fwords, ?_, ?_⟩
    · refine ⟨⟨_, rfl⟩, by show 6 ≤ sizeLine; decide, fun u hu => ⟨_, rfl, st, l, c, _, rfl, S1.up (same_new hu), by omega, by decide, by decide, fun d H2 d0 d1 B2 S2 => ?_⟩⟩
      have nu := S1.ne_new hu
      have hu' := B2 _ _ upd_same nu.1 nu.2
      obtain ⟨i, x, hx, ha⟩ := at_int (xs := nums) d0 (by exact d1)
      obtain ⟨x0, x8⟩ := nums_ok x (List.mem_of_getElem? hx)
      obtain ⟨n, rfl⟩ := Int.eq_ofNat_of_zero_le (show 0 ≤ x by omega)
      have ha2 : atI (nums.map V.int) d = some (.int (n : Int)) := at_map ha
      refine ⟨u, _, d, _, rfl, rfl, SqL.of hu', ha2, (n : Int), rfl, by omega, by omega, fun D hD => ?_⟩
      have B02 : But st l H1 H2 := (But.same (same_new hu)).trans B2
      have nD := S2.ne_new hD
      refine lc_range (lo := 0) (n := n) (fun i H' => But st l H2 H' ∧ Strm H' st l (c + 1 + i) ∧ ∃ ys : List Nat, ys.length = i ∧ H' D = some (.lst ((ys.map fun c => (⟨#[c]⟩ : Str)).map V.str)) ∧ ∀ y ∈ ys, 97 ≤ y ∧ y ≤ 122)
        ⟨But.same (same_new hD), S2.up (same_new hD), [], rfl, upd_same, by simp⟩ ?_ ?_
      · rintro i H' hi ⟨B', S', ys, hy, hD', hs⟩
        refine ⟨rfl, _, rfl, _, rfl, st, l, c + 1 + i, _, rfl, S', by omega, by decide, by decide, fun e H'' e0 e1 B'' S'' => ?_⟩
        obtain ⟨j, y, hj, hat⟩ := at_int (xs := letters.cps.toList) e0 (by exact e1)
        refine ⟨letters, e, y, rfl, rfl, by decide, hat, _, B'' _ _ hD' nD.1 nD.2, ?_, (B'.trans B'').put hD, S''.put nD, ys ++ [y], ?_, ?_, fun v hv => ?_⟩
        · rw [List.length_map, List.length_map, hy]
          exact Nat.lt_of_lt_of_le (show i < 1001 by omega) (by decide)
        · rw [List.length_append, hy]
          rfl
        · rw [upd_same, List.map_append, List.map_append]
          rfl
        · rcases List.mem_append.mp hv with g | g
          · exact hs v g
          · rw [List.mem_singleton.mp g]
            exact letters_all y (List.mem_of_getElem? hj)
      · rintro H' ⟨B', S', ys, hy, hD', hs⟩
        refine ⟨_, D, ys.map fun c => ⟨#[c]⟩, rfl, rfl, .inl (SqL.of hD'), ?_, _, none, c + 1 + n, rfl, name_of_letters (by omega) (by omega) hs, B1.trans (B02.trans B'), S', by omega, (Lq.but B02).but B'⟩
        have := names_len (ys := ys.map fun c => (⟨#[c]⟩ : Str)) fun y q => by
          obtain ⟨c, _, rfl⟩ := List.mem_map.mp q
          exact (by decide : 1 ≤ 8)
        have e : (("" : Str).length) = 0 := by decide
        rw [e]
        rw [List.length_map] at this ⊢
        omega
    rintro _ H2 ⟨z, x4, c2, rfl, nz, B2, S2, hc2, Lq2⟩
    -- name = pick(words) if draw(9) == 0 else name
    refine ⟨fun σ H' => ∃ z x4 c', σ = [some (.ref st), some (.ref p), some (.str letters), some (.ref q), x4, some (.str z), none] ∧ IsNm z ∧ But st l H H' ∧ Strm H' st l c' ∧ c' ≤ c + 11, ?_, ?_⟩
    · refine ⟨_, rfl, st, l, c2, _, rfl, S2, by omega, by decide, by decide, fun d H3 d0 d1 B3 S3 => ⟨rfl, _, rfl, ?_⟩⟩
      refine ite2 (fun _ => ?_) (fun _ => ?_)
      · have Lq3 := Lq2.but B3
        refine ⟨_, rfl, _, rfl, .inl ⟨st, l, c2 + 1, q, _, rfl, S3, by omega, Lq3.h, Lq3.n1, Lq3.n2, by decide, by decide, fun j x H4 hx B4 S4 => ?_⟩⟩
        obtain ⟨y, hy, rfl⟩ := List.mem_map.mp (List.mem_of_getElem? hx)
        exact ⟨y, x4, c2 + 1 + 1, rfl, fwords_nm y hy, (B2.trans B3).trans B4, S4, by omega⟩
      · exact ⟨_, rfl, z, x4, c2 + 1, rfl, nz, B2.trans B3, S3, by omega⟩
    rintro _ H3 ⟨z, x4, c3, rfl, nz, B3, S3, hc3⟩
    have L3 := L.but B3
    -- the spare names
    refine ⟨fun σ H' => ∃ x4 x6, σ = [some (.ref st), some (.ref p), some (.str letters), some (.ref q), x4, some (.str z), x6] ∧ H' = H3 ∧ z ∉ zs, ?_, ?_⟩
    · refine ⟨_, rfl, _, rfl, p, _, rfl, .inl (SqL.of L3.h), rfl, flat_strs zs, .inr ⟨_, rfl, _, _, rfl, rfl, .inl ⟨by decide, by decide⟩, ?_⟩⟩
      have fz : (if false = true then !inV (.str z) (zs.map V.str) else inV (.str z) (zs.map V.str)) = decide (z ∈ zs) := inV_strs z zs
      rw [fz]
      by_cases hz : z ∈ zs
      · rw [decide_eq_true hz]
        refine ⟨676, rfl, by decide, by decide, for_range (lo := 0) (n := 676) (fun i σ H' => ∃ x4 x6, σ = [some (.ref st), some (.ref p), some (.str letters), some (.ref q), x4, some (.str z), x6] ∧ H' = H3 ∧ ∀ j, j < i → spare j ∈ zs)
          ⟨x4, none, rfl, rfl, fun j hj => absurd hj (Nat.not_lt_zero j)⟩ ?_ ?_⟩
        · rintro i _ H4 hi ⟨y4, y6, rfl, rfl, hs⟩
          have q1 : (0 + (i : Int)) / 26 = ((i / 26 : Nat) : Int) := by omega
          have q2 : (0 + (i : Int)) % 26 = ((i % 26 : Nat) : Int) := by omega
          refine ⟨fun σ H' => σ = [some (.ref st), some (.ref p), some (.str letters), some (.ref q), some (.int (0 + i)), some (.str z), some (.str (spare i))] ∧ H' = H4, ?_, ?_⟩
          · refine ⟨_, rfl, _, rfl, _, _, rfl, rfl, ⟨by decide, by decide⟩, letters, _, 97 + i / 26, rfl, rfl, by decide, ?_, _, _, rfl, rfl, (show 2 ≤ sizeLine by decide), _, rfl, _, rfl, _, _, rfl, rfl, (by show (0 : Int) < 26; decide), letters, _, 97 + i % 26, rfl, rfl, by decide, ?_, _, _, rfl, rfl, (show 3 ≤ sizeLine by decide), rfl, rfl⟩
            · rw [q1]
              exact atI_nat (letter_at _ (by omega))
            · rw [q2]
              exact atI_nat (letter_at _ (by omega))
          rintro _ _ ⟨rfl, rfl⟩
          refine ⟨_, rfl, _, rfl, p, _, rfl, .inl (SqL.of L3.h), rfl, flat_strs zs, ?_⟩
          have fs : (if true = true then !inV (.str (spare i)) (zs.map V.str) else inV (.str (spare i)) (zs.map V.str)) = !decide (spare i ∈ zs) := congrArg (! ·) (inV_strs (spare i) zs)
          rw [fs]
          by_cases hsp : spare i ∈ zs
          · rw [decide_eq_true hsp]
            refine ⟨_, rfl, iteF ⟨_, _, rfl, rfl, fun j hj => ?_⟩⟩
            rcases Nat.lt_succ_iff_lt_or_eq.mp hj with g | g
            · exact hs j g
            · rw [g]
              exact hsp
          · rw [decide_eq_false hsp]
            exact ⟨_, rfl, iteT ⟨_, rfl, k _ _ c3 (spare_nm hi) hsp B3 S3 hc3⟩⟩
        · rintro _ _ ⟨y4, y6, rfl, rfl, hs⟩
          have := spares_many hs
          omega
      · rw [decide_eq_false hz]
        refine ⟨0, rfl, by decide, by decide, for_range (lo := 0) (n := 0) (fun i σ H' => ∃ x4 x6, σ = [some (.ref st), some (.ref p), some (.str letters), some (.ref q), x4, some (.str z), x6] ∧ H' = H3) ⟨x4, none, rfl, rfl⟩ (fun i _ _ hi => absurd hi (Nat.not_lt_zero i)) ?_⟩
        rintro _ _ ⟨y4, y6, rfl, rfl⟩
        exact ⟨y4, y6, rfl, rfl, hz⟩
    rintro _ _ ⟨x4, x6, rfl, rfl, nin⟩
    exact ⟨_, rfl, k z _ c3 nz nin B3 S3 hc3⟩
end
end N4

set_option maxHeartbeats 3900000
namespace N4
open PySem PySem.Spec PyProof.Rows L2 TL
open C8 (pss_cut tCut pe_gc)
def spPool : Sp := fun vs H Q _ => ∃ (st l : Addr) (c : Nat) (many : Int), vs = [.ref st, .int many] ∧ Strm H st l c ∧ c ≤ 800000 ∧ 0 ≤ many ∧ many ≤ 50 ∧
  ∀ (p : Addr) (zs : List Str) (H' : Hp) (c' : Nat), (zs.length : Int) = many → zs.Nodup → (∀ z ∈ zs, IsNm z) → H p = none → Pool H' st l p zs → But st l H H' → Strm H' st l c' → c' ≤ c + 11 * many.toNat → Q (.ref p) H'
/-- a look: a file's, a folder's (no name: the root), a setting's, the tool's -/
inductive Lk
  | rd (p : List Str)
  | ls (p : List Str)
  | se (n : Str)
  | tl
deriving DecidableEq
abbrev js (p : List Str) : Str := Txt.join "/" p
def lkV : Lk → List V
  | .rd p => [.str "read", .str (js p)]
  | .ls p => [.str "list", .str (js p)]
  | .se n => [.str "setting", .str n]
  | .tl => [.str "tool"]
/-- a look over some names, with at most so many on a way -/
def LkOn (zs : List Str) (m : Nat) : Lk → Prop
  | .rd p => p ≠ [] ∧ p.length ≤ m ∧ ∀ y ∈ p, y ∈ zs
  | .ls p => p.length ≤ m ∧ ∀ y ∈ p, y ∈ zs
  | .se n => n ∈ zs
  | .tl => True
def spLook : Sp := fun vs H Q _ => ∃ (st l p : Addr) (c : Nat) (zs : List Str), vs = [.ref st, .ref p] ∧ Strm H st l c ∧ c ≤ 800000 ∧ Pool H st l p zs ∧ 0 < zs.length ∧ zs.length < 1000 ∧ (∀ z ∈ zs, IsNm z) ∧
  ∀ (t : Addr) (k : Lk) (H' : Hp) (c' : Nat), LkOn zs 3 k → H t = none → H' t = some (.tup (lkV k)) → But st l H H' → Strm H' st l c' → c' ≤ c + 6 → Q (.ref t) H'
section
variable {P : Program} {w : World} {K : PySem.W.Frag} {mg : Str → Option Value} {base : Heap} {fD fP fPa fFr : Addr} {fdD fdP fdPa fdFr : FuncData}
theorem scPo : FnScope ["_law_stream", "_law_many", "_law_found", "_law_k"] ["_law_stream", "_law_many"] (defScope sPool) := ⟨rfl, rfl, rfl, by decide +kernel, rfl, by decide +kernel, by decide +kernel⟩
theorem But.none {st l p : Addr} {H H' : Hp} (B : But st l H H') (h : H' p = Option.none) (n : p ≠ st ∧ p ≠ l) : H p = Option.none := by
  cases e : H p with
  | none => rfl
  | some o =>
    rw [B p o e n.1 n.2] at h
    cases h
theorem ok_pool {f : Addr} {fd : FuncData} (F : Fun K "_law_pool" "_law_pool" sPool f fd) (T : TB mg) (aFr : At K mg "_law_fresh" fFr fdFr ["_law_stream", "_law_taken"]) (GFr : FnOk P w K mg base CX0 3 fFr fdFr ["_law_stream", "_law_taken"] spFresh) : FnOk P w K mg base CX0 4 f fd ["_law_stream", "_law_many"] spPool := by
  refine F.ok scPo (fun vs H Q E h => ?_) (fun cdv A outer s H vs Q E hr h => ?_)
  · obtain ⟨st, l, c, many, rfl, _⟩ := h
    rfl
  · obtain ⟨st, l, c, many, rfl, S, hc, m0, m1, k⟩ := h
    obtain ⟨n, rfl⟩ := Int.eq_ofNat_of_zero_le m0
    refine ⟨_, pss_cut (ps_set (i := 2) scPo.nd rfl (Or.inl rfl) (pe_lst pa_nil))
        (pss_cut (ps_for PassesOwn.never rfl (pi_range1 rfl T.range (pa_cons (pv 1) pa_nil)) (pg_name (i := 3) scPo.nd rfl (Or.inl rfl)) (pss_one (ps_expr (pe_bm PySem.F.plainAttrs_list PySem.F.slot_list_append PySem.F.type_list_append mt_append (pv 2) (pa_cons (pe_call GFr (hr.mono (by decide)) rfl aFr.m aFr.k aFr.b .nil pass0 (pa_cons (pv 0) (pa_cons (pv 2) pa_nil))) pa_nil)))))
        (pss_one (ps_ret (pv 2)))), ?_⟩
    refine ⟨fun σ H' => ∃ p, σ = [some (.ref st), some (.int n), some (.ref p), none] ∧ H p = none ∧ H' = upd H p (.lst []), ⟨Nat.zero_le _, fun p hp => ⟨p, rfl, hp, rfl⟩⟩, ?_⟩
    rintro _ _ ⟨p, rfl, hp, rfl⟩
    have np := S.ne_new hp
    refine ⟨fun σ H' => ∃ x3 zs, σ = [some (.ref st), some (.int n), some (.ref p), x3] ∧ zs.length = n ∧ zs.Nodup ∧ (∀ z ∈ zs, IsNm z) ∧ Pool H' st l p zs ∧ But st l H H' ∧ ∃ c', Strm H' st l c' ∧ c' ≤ c + 11 * n, ?_, ?_⟩
    · refine ⟨_, rfl, n, rfl, by omega, by omega, for_range (lo := 0) (n := n) (fun i σ H' => ∃ x3 zs, σ = [some (.ref st), some (.int n), some (.ref p), x3] ∧ zs.length = i ∧ zs.Nodup ∧ (∀ z ∈ zs, IsNm z) ∧ Pool H' st l p zs ∧ But st l H H' ∧ ∃ c', Strm H' st l c' ∧ c' ≤ c + 11 * i)
        ⟨none, [], rfl, rfl, List.nodup_nil, by simp, ⟨upd_same, np.1, np.2⟩, But.same (same_new hp), c, S.up (same_new hp), by omega⟩ ?_ fun _ _ h => h⟩
      rintro i _ H1 hi ⟨x3, zs, rfl, hz, nd, nm, L, B, c1, S1, hc1⟩
      refine ⟨_, rfl, .inl ⟨rfl, _, SqL.of L.h⟩, _, rfl, _, rfl, st, l, p, c1, zs, rfl, S1, by omega, L, by omega, fun z H2 c2 nz nin B2 S2 hc2 => ?_⟩
      have L2 := L.but B2
      refine ⟨p, _, _, rfl, rfl, L2.h, ?_, _, zs ++ [z], rfl, by rw [List.length_append, hz]; rfl, List.nodup_append.mpr ⟨nd, List.nodup_cons.mpr ⟨by simp, List.nodup_nil⟩, ?_⟩, ?_, ⟨?_, L2.n1, L2.n2⟩, (B.trans B2).put hp, c2, S2.put np, by omega⟩
      · rw [List.length_map, hz]
        exact Nat.lt_of_lt_of_le (show i < 1001 by omega) (by decide)
      · intro a ha b hb e
        rw [e, List.mem_singleton.mp hb] at ha
        exact nin ha
      · intro y hy
        rcases List.mem_append.mp hy with q | q
        · exact nm y q
        · rw [List.mem_singleton.mp q]
          exact nz
      · rw [upd_same, List.map_append]
        rfl
    rintro _ H2 ⟨x3, zs, rfl, hz, nd, nm, L, B, c', S', hc'⟩
    exact ⟨_, rfl, k p zs H2 c' (by omega) nd nm hp L B S' (by omega)⟩
end
end N4

set_option maxHeartbeats 3900000
namespace N4
open PySem PySem.Spec PyProof.Rows L2 TL
/-! paths as lists of names, against texts -/
theorem tl_sl : tl ("/" : Str) = [47] := by decide +kernel
def Nms (p : List Str) : Prop := ∀ y ∈ p, IsNm y
instance (p : List Str) : Decidable (Nms p) := by unfold Nms; infer_instance
abbrev jl (p : List Str) : List Nat := joinL [47] (p.map tl)
theorem tl_js (p : List Str) : tl (js p) = jl p := by
  show tl (Txt.join "/" p) = jl p
  rw [join_eq, tl_join, tl_sl]
theorem nm_free {y : Str} (h : IsNm y) : 47 ∉ tl y := fun m => by
  have := h.2.2 47 m
  omega
theorem nm_ne {y : Str} (h : IsNm y) : tl y ≠ [] := fun e => by
  have h1 := h.1
  rw [len_tl, e] at h1
  exact absurd h1 (by decide)
theorem Nms.tail {y : Str} {p : List Str} (h : Nms (y :: p)) : Nms p := fun z hz => h z (List.mem_cons_of_mem _ hz)
theorem Nms.app {p q : List Str} (hp : Nms p) (hq : Nms q) : Nms (p ++ q) := fun z hz => (List.mem_append.mp hz).elim (hp z) (hq z)
theorem Nms.left {p q : List Str} (h : Nms (p ++ q)) : Nms p := fun z hz => h z (List.mem_append_left _ hz)
theorem Nms.right {p q : List Str} (h : Nms (p ++ q)) : Nms q := fun z hz => h z (List.mem_append_right _ hz)
theorem jl_app : ∀ {q r : List Str}, q ≠ [] → r ≠ [] → jl (q ++ r) = jl q ++ 47 :: jl r
  | [], _, h, _ => absurd rfl h
  | [y], [], _, h => absurd rfl h
  | [y], z :: r, _, _ => rfl
  | y :: z :: q, r, _, hr => by
    have ih := jl_app (q := z :: q) (r := r) (by simp) hr
    show tl y ++ ([47] ++ jl (z :: q ++ r)) = (tl y ++ ([47] ++ jl (z :: q))) ++ 47 :: jl r
    rw [ih]
    simp
theorem jl_ne {p : List Str} (hp : Nms p) (h : p ≠ []) : jl p ≠ [] := by
  match p, h with
  | y :: r, _ =>
    intro e
    have hy := nm_ne (hp y List.mem_cons_self)
    cases r with
    | nil => exact hy e
    | cons z r =>
      have e2 : tl y ++ ([47] ++ jl (z :: r)) = [] := e
      exact hy (List.append_eq_nil_iff.mp e2).1
theorem split_js {p : List Str} (hp : Nms p) (h : p ≠ []) : Txt.split (js p) "/" = p :=
  split_join (s := 47) (S := []) tl_sl (by decide +kernel) h fun y hy => nm_free (hp y hy)
theorem js_nil : js [] = "" := rfl
theorem js_one (y : Str) : js [y] = y := ext_tl (by rw [tl_js]; rfl)
theorem js_ne {p : List Str} (hp : Nms p) (h : p ≠ []) : js p ≠ "" := fun e => by
  have e2 := congrArg tl e
  rw [tl_js] at e2
  exact jl_ne hp h e2
theorem js_inj {p q : List Str} (hp : Nms p) (hq : Nms q) (e : js p = js q) : p = q := by
  by_cases h1 : p = []
  · by_cases h2 : q = []
    · rw [h1, h2]
    · rw [h1] at e
      exact absurd e.symm (js_ne hq h2)
  · by_cases h2 : q = []
    · rw [h2] at e
      exact absurd e (js_ne hp h1)
    · rw [← split_js hp h1, e, split_js hq h2]
theorem js_eq {p q : List Str} (hp : Nms p) (hq : Nms q) : decide (js p = js q) = decide (p = q) := by
  by_cases h : p = q
  · rw [h]
    simp
  · rw [decide_eq_false h, decide_eq_false fun e => h (js_inj hp hq e)]
/-- strictly beneath -/
def ben (p q : List Str) : Bool := q.isPrefixOf p && decide (q.length < p.length)
theorem ben_iff {p q : List Str} : ben p q = true ↔ ∃ r, r ≠ [] ∧ p = q ++ r := by
  unfold ben
  rw [Bool.and_eq_true, List.isPrefixOf_iff_prefix, decide_eq_true_iff]
  constructor
  · rintro ⟨⟨r, rfl⟩, h⟩
    refine ⟨r, ?_, rfl⟩
    rintro rfl
    simp at h
  · rintro ⟨r, hr, rfl⟩
    refine ⟨⟨r, rfl⟩, ?_⟩
    have := List.length_pos_iff.mpr hr
    rw [List.length_append]
    omega
theorem spl_ne (S : List Nat) : ∀ (k : Nat) (acc l : List Nat), spl S k acc l ≠ []
  | k, acc, [] => by
    rw [spl_nil]
    simp
  | 0, acc, c :: r => by
    unfold spl
    by_cases h : pre S (c :: r) = true
    · rw [if_pos h]
      simp
    · rw [if_neg h]
      exact spl_ne S 0 _ r
  | k + 1, acc, _ :: r => spl_ne S k acc r
theorem spl_pre : ∀ {q : List Str} {t : List Nat}, q ≠ [] → Nms q → spl [47] 0 [] (jl q ++ 47 :: t) = q.map tl ++ spl [47] 0 [] t
  | [], _, h, _ => absurd rfl h
  | [y], t, _, hq => by
    have e := spl_part1 (s := 47) (S := []) (acc := []) (p := tl y) (rest := t) (nm_free (hq y List.mem_cons_self))
    exact e
  | y :: z :: r, t, _, hq => by
    have e := spl_part1 (s := 47) (S := []) (acc := []) (p := tl y) (rest := jl (z :: r) ++ 47 :: t) (nm_free (hq y List.mem_cons_self))
    have ih := spl_pre (q := z :: r) (t := t) (by simp) hq.tail
    have e2 : jl (y :: z :: r) ++ 47 :: t = tl y ++ ([47] ++ (jl (z :: r) ++ 47 :: t)) := by
      show tl y ++ ([47] ++ jl (z :: r)) ++ 47 :: t = _
      simp
    rw [e2]
    refine e.trans ?_
    rw [ih]
    rfl
theorem spl_js {p : List Str} (hp : Nms p) (h : p ≠ []) : spl [47] 0 [] (jl p) = p.map tl :=
  spl_join (s := 47) (S := []) (by simpa using h) fun z hz => by
    obtain ⟨y, hy, rfl⟩ := List.mem_map.mp hz
    exact nm_free (hp y hy)
theorem under {p q : List Str} (hp : Nms p) (hq : Nms q) (h : q ≠ []) : (jl q ++ [47]) <+: jl p ↔ ben p q = true := by
  rw [ben_iff]
  constructor
  · rintro ⟨t, e⟩
    have e1 : jl p = jl q ++ 47 :: t := by
      rw [← e]
      simp
    have hp0 : p ≠ [] := by
      rintro rfl
      have : ([] : List Nat) = jl q ++ 47 :: t := e1
      simp at this
    have e2 := spl_js hp hp0
    rw [e1, spl_pre h hq] at e2
    have e3 : (p.take q.length).map tl = q.map tl := by
      rw [List.map_take, ← e2]
      rw [show q.length = (q.map tl).length by rw [List.length_map], List.take_left']
      rfl
    have e4 := map_tl_inj e3
    refine ⟨p.drop q.length, ?_, ?_⟩
    · intro z
      have z2 : p.length ≤ q.length := List.drop_eq_nil_iff.mp z
      have z3 := congrArg List.length e2
      rw [List.length_append, List.length_map, List.length_map] at z3
      have z4 := List.length_pos_iff.mpr (spl_ne [47] 0 [] t)
      omega
    · conv => lhs; rw [← List.take_append_drop q.length p]
      rw [e4]
  · rintro ⟨r, hr, rfl⟩
    rw [jl_app h hr]
    exact ⟨jl r, by simp⟩
theorem sw_pre (x y : Str) : Txt.startswith x y = (tl y).isPrefixOf (tl x) := by
  show (decide (0 + y.length ≤ x.length) && Builtin.Str.subAt x y 0) = _
  rw [PySem.StrLaws.subAt_eq]
  apply Bool.eq_iff_iff.mpr
  rw [Bool.and_eq_true, List.isPrefixOf_iff_prefix, decide_eq_true_iff, List.drop_zero, beq_iff_eq, List.prefix_iff_eq_take]
  constructor
  · rintro ⟨_, h⟩
    rw [len_tl] at h
    exact h.symm
  · intro h
    refine ⟨?_, by rw [len_tl]; exact h.symm⟩
    have := congrArg List.length h
    rw [List.length_take] at this
    rw [len_tl, len_tl]
    omega
theorem sw_js {p q : List Str} (hp : Nms p) (hq : Nms q) (h : q ≠ []) : Txt.startswith (js p) (js q ++ "/") = ben p q := by
  rw [sw_pre, tl_append, tl_js, tl_js, tl_sl]
  apply Bool.eq_iff_iff.mpr
  rw [List.isPrefixOf_iff_prefix]
  exact under hp hq h
/-! slices -/
theorem tl_cutS (z : Str) (lo hi : Option Int) : tl (cutS z lo hi) = ((tl z).drop (HT.sIx z.length 0 lo)).take (HT.sIx z.length z.length hi - HT.sIx z.length 0 lo) := rfl
end N4

set_option maxHeartbeats 3900000
namespace CB
open PySem PySem.Spec PyProof.Rows L2
/-! comprehensions whose turns add to the heap alone: one rule for all walks -/
theorem same_mk {H : Hp} {p : Addr} {o : HO} (h : H p = none) : Same H (upd H p o) := fun a u e => by
  rw [upd_ne (ne_of_none e h)]
  exact e
theorem same_ch {H H' : Hp} {p : Addr} {o : HO} (a : Same H H') (h : H p = none) : Same H (upd H' p o) := fun c u e => by
  rw [upd_ne (ne_of_none e h)]
  exact a c u e
section
variable {J : It} {n : Nat} {G : Hp → Prop} {Y : Nat → Hp → V → Hp → Prop} {j : Nat} {te : TE} {σ : L2.St} {H1 : Hp} {D : Addr} {Qd : Hp → Prop}
theorem wipe1 (x : V) : wipe ((wipe σ [j]).set j (some x)) [j] = wipe σ [j] := by
  show ((σ.set j none).set j (some x)).set j none = σ.set j none
  simp
theorem lcW (w : Walk J n G Y) (ys : List V) (hn : ys.length = n) (hs : n < 1000000) (hD : H1 D = none) (hG : ∀ H', Same H1 H' → G H')
    (turn : ∀ (i : Nat) (x y : V) (H2 H3 : Hp), ys[i]? = some y → Same H1 H2 → Y i H2 x H3 → ∀ Q1 : VK, (∀ H4, Same H2 H4 → Q1 y H4) → te ((wipe σ [j]).set j (some x)) H3 Q1)
    (hd : ∀ H', Same H1 H' → H' D = some (.lst ys) → Qd H') :
    ∃ W : Nat → Nat → Hp → Prop, (∃ m, W 0 m (upd H1 D (.lst []))) ∧ ∀ i m H, W i m H →
      (J.stop i H ∧ Qd H) ∨ (J.go i H ∧ ∃ Nx : Hp → Prop, (∀ H', Nx H' → ∃ m', m' < m ∧ W (i + 1) m' H') ∧ ∀ x H', J.yld i H x H' → gName j x (wipe σ [j]) H' fun σ2 H2 => wipe σ2 [j] = wipe σ [j] ∧ tYes σ2 H2 fun b H3 =>
        if b = true then te σ2 H3 fun y H4 => ∃ acc, H4 D = some (.lst acc) ∧ acc.length < sizeLine ∧ Nx (upd H4 D (.lst (acc ++ [y]))) else Nx H3) := by
  subst hn
  refine lc_it w (fun i H' => Same H1 H' ∧ H' D = some (.lst (ys.take i))) ⟨same_mk hD, upd_same⟩ (fun i H' _ q => hG H' q.1) ?_ ?_
  · rintro i x H2 H3 hi ⟨s2, hd2⟩ y
    have hy : ys[i]? = some ys[i] := List.getElem?_eq_getElem hi
    refine ⟨wipe1 x, ?_⟩
    refine turn i x ys[i] H2 H3 hy s2 y _ fun H4 s4 => ⟨_, s4 _ _ hd2, ?_, same_ch (s2.trans s4) hD, ?_⟩
    · rw [List.length_take]
      exact Nat.lt_of_lt_of_le (show min i ys.length < 1000000 by omega) (by decide)
    · rw [upd_same, List.take_succ, hy]
      rfl
  · rintro H' ⟨s, h⟩
    rw [List.take_length] at h
    exact hd H' s h
end
section
variable {K : PySem.W.Frag} {α : Type} {j : Nat} {te : TE} {σ : L2.St} {H1 : Hp} {D a : Addr} {Qd : Hp → Prop}
theorem map_two {α : Type} {zs : List α} {u g : α → V} {i : Nat} {x y : V} (hx : (zs.map u)[i]? = some x) (hy : (zs.map g)[i]? = some y) : ∃ z ∈ zs, x = u z ∧ y = g z := by
  rw [List.getElem?_map] at hx hy
  match e : zs[i]? with
  | none =>
    rw [e] at hx
    cases hx
  | some z =>
    rw [e] at hx hy
    cases hx
    cases hy
    exact ⟨z, List.mem_of_getElem? e, rfl, rfl⟩
theorem lc_mapL (zs : List α) (u g : α → V) (hs : zs.length < 1000000) (hD : H1 D = none) (ha : SqL K H1 a (zs.map u))
    (turn : ∀ z ∈ zs, ∀ H2, Same H1 H2 → ∀ Q1 : VK, (∀ H4, Same H2 H4 → Q1 (g z) H4) → te ((wipe σ [j]).set j (some (u z))) H2 Q1) (hd : ∀ H', Same H1 H' → H' D = some (.lst (zs.map g)) → Qd H') :
    ∃ W : Nat → Nat → Hp → Prop, (∃ m, W 0 m (upd H1 D (.lst []))) ∧ ∀ i m H, W i m H →
      ((Itl K a).stop i H ∧ Qd H) ∨ ((Itl K a).go i H ∧ ∃ Nx : Hp → Prop, (∀ H', Nx H' → ∃ m', m' < m ∧ W (i + 1) m' H') ∧ ∀ x H', (Itl K a).yld i H x H' → gName j x (wipe σ [j]) H' fun σ2 H2 => wipe σ2 [j] = wipe σ [j] ∧ tYes σ2 H2 fun b H3 =>
        if b = true then te σ2 H3 fun y H4 => ∃ acc, H4 D = some (.lst acc) ∧ acc.length < sizeLine ∧ Nx (upd H4 D (.lst (acc ++ [y]))) else Nx H3) := by
  refine lcW (walk_list (K := K) (a := a) (xs := zs.map u)) (zs.map g) (by rw [List.length_map, List.length_map]) (by rw [List.length_map]; exact hs) hD (fun H' s => s.seq ha) ?_ hd
  rintro i x y H2 H3 hy s ⟨rfl, hx⟩ Q1 k
  obtain ⟨z, hz, rfl, rfl⟩ := map_two hx hy
  exact turn z hz _ s Q1 k
theorem sameT {H H' : Hp} {xs : List V} (e : Same H H') (h : SqT K H a xs) : SqT K H' a xs := by
  rcases h with (h | ⟨o, h⟩) | h
  · exact .inl (.inl (e _ _ h))
  · exact .inl (.inr ⟨o, e _ _ h⟩)
  · exact .inr h
theorem lc_mapT (zs : List α) (u g : α → V) (hs : zs.length < 1000000) (hD : H1 D = none) (ha : SqT K H1 a (zs.map u))
    (turn : ∀ z ∈ zs, ∀ H2, Same H1 H2 → ∀ Q1 : VK, (∀ H4, Same H2 H4 → Q1 (g z) H4) → te ((wipe σ [j]).set j (some (u z))) H2 Q1) (hd : ∀ H', Same H1 H' → H' D = some (.lst (zs.map g)) → Qd H') :
    ∃ W : Nat → Nat → Hp → Prop, (∃ m, W 0 m (upd H1 D (.lst []))) ∧ ∀ i m H, W i m H →
      ((Itt K a).stop i H ∧ Qd H) ∨ ((Itt K a).go i H ∧ ∃ Nx : Hp → Prop, (∀ H', Nx H' → ∃ m', m' < m ∧ W (i + 1) m' H') ∧ ∀ x H', (Itt K a).yld i H x H' → gName j x (wipe σ [j]) H' fun σ2 H2 => wipe σ2 [j] = wipe σ [j] ∧ tYes σ2 H2 fun b H3 =>
        if b = true then te σ2 H3 fun y H4 => ∃ acc, H4 D = some (.lst acc) ∧ acc.length < sizeLine ∧ Nx (upd H4 D (.lst (acc ++ [y]))) else Nx H3) := by
  refine lcW (walk_tup (K := K) (a := a) (xs := zs.map u)) (zs.map g) (by rw [List.length_map, List.length_map]) (by rw [List.length_map]; exact hs) hD (fun H' s => sameT s ha) ?_ hd
  rintro i x y H2 H3 hy s ⟨rfl, hx⟩ Q1 k
  obtain ⟨z, hz, rfl, rfl⟩ := map_two hx hy
  exact turn z hz _ s Q1 k
theorem lc_mapS (z : Str) (g : Nat → V) (hs : z.length < 1000000) (hD : H1 D = none)
    (turn : ∀ c ∈ z.cps.toList, ∀ H2, Same H1 H2 → ∀ Q1 : VK, (∀ H4, Same H2 H4 → Q1 (g c) H4) → te ((wipe σ [j]).set j (some (.str ⟨#[c]⟩))) H2 Q1) (hd : ∀ H', Same H1 H' → H' D = some (.lst (z.cps.toList.map g)) → Qd H') :
    ∃ W : Nat → Nat → Hp → Prop, (∃ m, W 0 m (upd H1 D (.lst []))) ∧ ∀ i m H, W i m H →
      ((Its z).stop i H ∧ Qd H) ∨ ((Its z).go i H ∧ ∃ Nx : Hp → Prop, (∀ H', Nx H' → ∃ m', m' < m ∧ W (i + 1) m' H') ∧ ∀ x H', (Its z).yld i H x H' → gName j x (wipe σ [j]) H' fun σ2 H2 => wipe σ2 [j] = wipe σ [j] ∧ tYes σ2 H2 fun b H3 =>
        if b = true then te σ2 H3 fun y H4 => ∃ acc, H4 D = some (.lst acc) ∧ acc.length < sizeLine ∧ Nx (upd H4 D (.lst (acc ++ [y]))) else Nx H3) := by
  refine lcW (walk_str (z := z)) (z.cps.toList.map g) (by rw [List.length_map, Array.length_toList]) hs hD (fun _ _ => trivial) ?_ hd
  rintro i x y H2 H3 hy s ⟨rfl, c, hc, rfl⟩ Q1 k
  rw [List.getElem?_map, Array.getElem?_toList, hc] at hy
  cases hy
  exact turn c (by rw [Array.mem_toList_iff]; exact Array.mem_of_getElem? hc) _ s Q1 k
/-- all and any over such a list -/
theorem all_of {H : Hp} {Q : VK} (zs : List α) (f : α → Bool) (h : H D = some (.lst (zs.map fun z => .bl (f z)))) (q : Q (.bl (zs.all f)) H) : rAll K [.ref D] H Q :=
  ⟨D, zs.map f, rfl, SqL.of (by rw [h, List.map_map]; rfl), by rw [List.all_map]; exact q⟩
theorem any_of {H : Hp} {Q : VK} (zs : List α) (f : α → Bool) (h : H D = some (.lst (zs.map fun z => .bl (f z)))) (q : Q (.bl (zs.any f)) H) : rAny K [.ref D] H Q :=
  ⟨D, zs.map f, rfl, SqL.of (by rw [h, List.map_map]; rfl), by rw [List.any_map]; exact q⟩
end
/-! methods of built-in types beneath a comprehension's binder: the written part given by hand -/
section
variable {X : Cx} {o e : Expr} {es : List Expr} {to : TE} {t : TA} {name : Str} {apos cpos : Pos} {T id : String} {r : V → List V → Hp → VK → Prop}
theorem pe_bmK (K0 : PySem.W.Frag) (hK : X.K = K0) (pa : PlainAttrs T) (slot : Slot T name id) (hty : typeOf (.builtin id) = pure (.type "method_descriptor")) (hm : MtR X id r) (ho : PE X o to) (ha : PA X (e :: es) t)
    (hb : attributeBase o name X.env (eval o X.env) = eval o X.env := by rfl)
    (hf : ((backTo cpos (starEach (e :: es) X.env)).all (fun x => !x.1) && (backToKw cpos (keywordEach [] X.env)).all (fun x => x.1.isSome) && decide ((e :: es).length + ([] : List Keyword).length + (if ([] : List Keyword).isEmpty then 0 else 1) < 30)) = true := by rfl)
    (hl : (apos.endLine == cpos.line) = true := by rfl) (hs : starEach (e :: es) X.env = (false, eval e X.env) :: starEach es X.env := by rfl) (hp : (backTo cpos (starEach es X.env)).any (·.1) = false := by rfl) :
    PE X (.Call (.Attribute o name apos) (e :: es) [] cpos) (tBM K0 T r to t) := by
  subst hK
  exact pe_bm pa slot hty hm ho ha hb hf hl hs hp
theorem pe_bm0K (K0 : PySem.W.Frag) (hK : X.K = K0) (pa : PlainAttrs T) (slot : Slot T name id) (hty : typeOf (.builtin id) = pure (.type "method_descriptor")) (hm : MtR X id r) (ho : PE X o to)
    (hb : attributeBase o name X.env (eval o X.env) = eval o X.env := by rfl) (hl : (apos.endLine == cpos.line) = true := by rfl) : PE X (.Call (.Attribute o name apos) [] [] cpos) (tBM0 K0 T r to) := by
  subst hK
  exact pe_bm0 pa slot hty hm ho hb hl
end
section
variable {X : Cx} {K0 : PySem.W.Frag}
theorem pg_tupK {es : List Expr} {k : Nat} {t : TGs} {n : Nat} {pos : Pos} (hK : X.K = K0) (hc : X.calm = true) (h : PGs X es t) (hn : (assignEach es X.env).length = n := by rfl) (hs : (assignEach es X.env).findIdx? (·.1) = none := by rfl) : PG X (.Tuple es k pos) (gTup K0 n t) := by
  subst hK
  exact pg_tup hc h hn hs
theorem ix_listK (hK : X.K = K0) : IxR X (rIxL K0) := by
  subst hK
  exact ix_list
theorem ix_tupK (hK : X.K = K0) : IxR X (rIxT K0) := by
  subst hK
  exact ix_tup
theorem in_seqK (hK : X.K = K0) : OpR X (compareOp .In) (rIn K0 false) := by
  subst hK
  exact op_in_seq
theorem notIn_seqK (hK : X.K = K0) : OpR X (compareOp .NotIn) (rIn K0 true) := by
  subst hK
  exact op_notIn_seq
theorem eqDK (hK : X.K = K0) (hu : X.A.units + 64 < cLine) : OpR X (compareOp .Eq) (rEqD K0) := by
  subst hK
  exact op_eqD hu
theorem neDK (hK : X.K = K0) (hu : X.A.units + 64 < cLine) : OpR X (compareOp .NotEq) (rNeD K0) := by
  subst hK
  exact op_neD hu
end
/-! a row: a tuple or a list -/
def RowAt (H : Hp) (v : V) (xs : List V) : Prop := ∃ a, v = .ref a ∧ (H a = some (.tup xs) ∨ H a = some (.lst xs))
theorem RowAt.up {H H' : Hp} {v : V} {xs : List V} (h : RowAt H v xs) (s : Same H H') : RowAt H' v xs := by
  obtain ⟨a, e, h | h⟩ := h
  · exact ⟨a, e, .inl (s _ _ h)⟩
  · exact ⟨a, e, .inr (s _ _ h)⟩
def rIxRow : R2 := fun x y H Q => ∃ xs i v, RowAt H x xs ∧ y = .int i ∧ atI xs i = some v ∧ Q v H
def rLenRow : List V → Hp → VK → Prop := fun vs H Q => ∃ x xs, vs = [x] ∧ RowAt H x xs ∧ Q (.int (xs.length : Int)) H
/-- isinstance(x, (list, tuple)) -/
def LT (H : Hp) (v : V) (b : Bool) : Prop := (b = true ∧ ∃ xs, RowAt H v xs) ∨ (b = false ∧ (v = .non ∨ (∃ z, v = .str z) ∨ (∃ i, v = .int i) ∨ ∃ c, v = .bl c))
def rLT : List V → Hp → VK → Prop := fun vs H Q => ∃ v tp b, vs = [v, .ref tp] ∧ H tp = some (.tup [.ty "list", .ty "tuple"]) ∧ LT H v b ∧ Q (.bl b) H
def rTupRow : List V → Hp → VK → Prop := fun vs H Q => ∃ v xs, vs = [v] ∧ RowAt H v xs ∧ ∀ a H', Same H H' → H' a = some (.tup xs) → Q (.ref a) H'
section
variable {X : Cx}
theorem ix_row : IxR X rIxRow := by
  intro value slice pins s σ H x y v u Q I rx ry h hs
  obtain ⟨xs, i, w, ⟨a, rfl, h1 | h1⟩, rfl, ha, q⟩ := h
  · exact ix_tup (X := X) value slice pins s σ H _ _ v u Q I rx ry ⟨a, xs, i, w, rfl, rfl, SqT.of h1, ha, q⟩ hs
  · exact ix_list (X := X) value slice pins s σ H _ _ v u Q I rx ry ⟨a, xs, i, w, rfl, rfl, SqL.of h1, ha, q⟩ hs
theorem call_len_row : CallR X (.builtin "len") rLenRow := by
  intro pins s σ H xs us Q I r h
  obtain ⟨x, ys, rfl, ⟨a, rfl, h1 | h1⟩, q⟩ := h
  · exact call_len_seq (X := X) pins s σ H _ us Q I r ⟨a, ys, rfl, .inr (SqT.of h1), q⟩
  · exact call_len_seq (X := X) pins s σ H _ us Q I r ⟨a, ys, rfl, .inl (SqL.of h1), q⟩
theorem kitLT {K : PySem.W.Frag} {n : String} {b c : Bool} (h1 : kitB n "list" = some b) (h2 : kitB n "tuple" = some c) : PySem.W.kitAny K (.type n) [.type "list", .type "tuple"] = some (b || c) :=
  kitAny_cons (kit_ty h1) (fun e => by
    subst e
    exact kitAny_cons (kit_ty h2) (fun e2 => by
      subst e2
      exact kitAny_nil) (fun e2 => by
      subst e2
      rfl)) (fun e => by
    subst e
    rfl)
theorem isi_LT : CallR X (.builtin "isinstance") rLT := by
  intro pins s σ H xs us Q I r h
  obtain ⟨v, tp, b, rfl, ht, hl, q⟩ := h
  have go : ∀ (n : String) (c : Bool), TyX X.K H v (.type n) → PySem.W.kitAny X.K (.type n) [.type "list", .type "tuple"] = some c → Q (.bl c) H → wpAny (model X.prog X.w) X.A (call (.builtin "isinstance") us) (EP X pins σ Q) X.xe s := fun n c t k q =>
    call_isiT (X := X) pins s σ H _ us Q I r ⟨v, tp, _, .type n, [.type "list", .type "tuple"], c, rfl, ht, .cons (.ty "list") (.cons (.ty "tuple") .nil), t, k, q⟩
  rcases hl with ⟨rfl, ys, a, rfl, h1 | h1⟩ | ⟨rfl, rfl | ⟨z, rfl⟩ | ⟨i, rfl⟩ | ⟨c, rfl⟩⟩
  · exact go "tuple" true (.base (.tup h1)) (kitLT (b := false) (c := true) (by decide +kernel) (by decide +kernel)) q
  · exact go "list" true (.base (.lst h1)) (kitLT (b := true) (c := false) (by decide +kernel) (by decide +kernel)) q
  · exact go "NoneType" false (.base .non) (kitLT (b := false) (c := false) (by decide +kernel) (by decide +kernel)) q
  · exact go "str" false (.base (.str z)) (kitLT (b := false) (c := false) (by decide +kernel) (by decide +kernel)) q
  · exact go "int" false (.base (.int i)) (kitLT (b := false) (c := false) (by decide +kernel) (by decide +kernel)) q
  · exact go "bool" false (.base (.bl c)) (kitLT (b := false) (c := false) (by decide +kernel) (by decide +kernel)) q
theorem call_tup_row : CallR X (.type "tuple") rTupRow := by
  intro pins s σ H xs us Q I r h
  obtain ⟨v, ys, rfl, ⟨a, rfl, h1 | h1⟩, q⟩ := h
  · exact call_tuple_of (X := X) pins s σ H _ us Q I r ⟨a, ys, rfl, .inr ⟨SqT.of h1, q a H (Same.refl H) h1⟩⟩
  · exact call_tuple_of (X := X) pins s σ H _ us Q I r ⟨a, ys, rfl, .inl ⟨SqL.of h1, fun l hl => q l _ (same_mk hl) upd_same⟩⟩
/-- a walk over a name that holds a tuple or a list -/
def iSeqV (K : PySem.W.Frag) (i : Nat) : TI := fun σ H R => ∃ a, σ[i]? = some (some (.ref a)) ∧ ((∃ xs, SqT K H a xs ∧ R (Itt K a) H) ∨ ∃ xs, SqL K H a xs ∧ R (Itl K a) H)
theorem pi_seqv {tg l : Expr} {i : Nat} (hl : PE X l (tVar i)) : PI X tg l (iSeqV X.K i) := by
  refine ⟨fun pins s σ H R I h => ?_⟩
  obtain ⟨a, ha, ⟨xs, q, r⟩ | ⟨xs, q, r⟩⟩ := h
  · exact (pi_tup hl).run pins s σ H R I ⟨_, ha, a, rfl, ⟨xs, q⟩, r⟩
  · exact (pi_list hl).run pins s σ H R I ⟨_, ha, a, rfl, ⟨xs, q⟩, r⟩
end
section
variable {K : PySem.W.Frag} {α : Type} {i j : Nat} {te : TE} {σ : L2.St} {H : Hp} {v : V} {Q : VK}
theorem lc_row (zs : List α) (u g : α → V) (hi : σ[i]? = some (some v)) (h : RowAt H v (zs.map u)) (hs : zs.length < 1000000)
    (turn : ∀ z ∈ zs, ∀ H2, Same H H2 → ∀ Q1 : VK, (∀ H4, Same H2 H4 → Q1 (g z) H4) → te ((wipe σ [j]).set j (some (u z))) H2 Q1) (hd : ∀ D H', Same H H' → H D = none → H' D = some (.lst (zs.map g)) → Q (.ref D) H') :
    tLc (iSeqV K i) (gName j) tYes te [j] σ H Q := by
  obtain ⟨a, rfl, h1 | h1⟩ := h
  · exact ⟨a, hi, .inl ⟨_, SqT.of h1, fun D hD => lc_mapT zs u g hs hD (SqT.of h1) turn fun H' s h2 => hd D H' s hD h2⟩⟩
  · exact ⟨a, hi, .inr ⟨_, SqL.of h1, fun D hD => lc_mapL zs u g hs hD (SqL.of h1) turn fun H' s h2 => hd D H' s hD h2⟩⟩
theorem all_row (zs : List α) (u : α → V) (f : α → Bool) (hi : σ[i]? = some (some v)) (h : RowAt H v (zs.map u)) (hs : zs.length < 1000000)
    (turn : ∀ z ∈ zs, ∀ H2, Same H H2 → ∀ Q1 : VK, (∀ H4, Same H2 H4 → Q1 (.bl (f z)) H4) → te ((wipe σ [j]).set j (some (u z))) H2 Q1) (hd : ∀ H', Same H H' → Q (.bl (zs.all f)) H') :
    tCB (rAll K) (tCons (tLc (iSeqV K i) (gName j) tYes te [j]) tNil) σ H Q := by
  show tLc (iSeqV K i) (gName j) tYes te [j] σ H fun v H1 => rAll K [v] H1 Q
  exact lc_row zs u (fun z => .bl (f z)) hi h hs turn fun D H' s _ hD => all_of zs f hD (hd H' s)
theorem any_row (zs : List α) (u : α → V) (f : α → Bool) (hi : σ[i]? = some (some v)) (h : RowAt H v (zs.map u)) (hs : zs.length < 1000000)
    (turn : ∀ z ∈ zs, ∀ H2, Same H H2 → ∀ Q1 : VK, (∀ H4, Same H2 H4 → Q1 (.bl (f z)) H4) → te ((wipe σ [j]).set j (some (u z))) H2 Q1) (hd : ∀ H', Same H H' → Q (.bl (zs.any f)) H') :
    tCB (rAny K) (tCons (tLc (iSeqV K i) (gName j) tYes te [j]) tNil) σ H Q := by
  show tLc (iSeqV K i) (gName j) tYes te [j] σ H fun v H1 => rAny K [v] H1 Q
  exact lc_row zs u (fun z => .bl (f z)) hi h hs turn fun D H' s _ hD => any_of zs f hD (hd H' s)
theorem set_row {y : Nat} {D0 : Ends} (zs : List α) (u g : α → V) (hi : σ[i]? = some (some v)) (h : RowAt H v (zs.map u)) (hs : zs.length < 1000000)
    (turn : ∀ z ∈ zs, ∀ H2, Same H H2 → ∀ Q1 : VK, (∀ H4, Same H2 H4 → Q1 (g z) H4) → te ((wipe σ [j]).set j (some (u z))) H2 Q1) (hd : ∀ D H', Same H H' → H D = none → H' D = some (.lst (zs.map g)) → D0.nx (σ.set y (some (.ref D))) H') :
    tAsg (tLc (iSeqV K i) (gName j) tYes te [j]) (gName y) D0 σ H := by
  show tLc (iSeqV K i) (gName j) tYes te [j] σ H fun x H1 => D0.nx (σ.set y (some x)) H1
  exact lc_row zs u g hi h hs turn hd
theorem iteY {c A B : Prop} [Decidable c] (h : c) (a : A) : if decide c = true then A else B := by
  rw [if_pos (decide_eq_true h)]
  exact a
theorem iteN {c A B : Prop} [Decidable c] (h : ¬ c) (b : B) : if decide c = true then A else B := by
  rw [if_neg (by rw [decide_eq_false h]; exact Bool.false_ne_true)]
  exact b
theorem cut_1 (xs : List V) : cutV xs (some 1) none = xs.drop 1 := by
  show (xs.drop (HT.sIx xs.length 0 (some ((1 : Nat) : Int)))).take (HT.sIx xs.length xs.length none - HT.sIx xs.length 0 (some ((1 : Nat) : Int))) = xs.drop 1
  rw [HT.sIx_nat, HT.sIx_none]
  by_cases h : 1 ≤ xs.length
  · rw [Nat.min_eq_left h, List.take_of_length_le (by rw [List.length_drop]; exact Nat.le_refl _)]
  · rw [List.drop_eq_nil_of_le (by omega), List.drop_eq_nil_of_le (by omega)]
    exact List.take_nil
end
/-! two names for each item: zip, enumerate -/
section
variable {J : It} {n : Nat} {G : Hp → Prop} {fx fy : Nat → Option V} {i j : Nat} {te : TE} {σ : L2.St} {H1 : Hp} {D : Addr} {Qd : Hp → Prop} {K : PySem.W.Frag}
theorem wipe2 (hij : i ≠ j) (x y : V) : wipe (((wipe σ [i, j]).set i (some x)).set j (some y)) [i, j] = wipe σ [i, j] := by
  show (((((σ.set j none).set i none).set i (some x)).set j (some y)).set j none).set i none = (σ.set j none).set i none
  rw [List.set_set, List.set_set, List.set_comm _ _ hij, List.set_set, List.set_set]
theorem lcW2 (w : Walk J n G (YPair fx fy)) (hij : i ≠ j) (ys : List V) (hn : ys.length = n) (hs : n < 1000000) (hD : H1 D = none) (hG : ∀ H', Same H1 H' → G H')
    (turn : ∀ (m : Nat) (x x' y : V) (H2 : Hp), ys[m]? = some y → fx m = some x → fy m = some x' → Same H1 H2 → ∀ Q1 : VK, (∀ H4, Same H2 H4 → Q1 y H4) → te (((wipe σ [i, j]).set i (some x)).set j (some x')) H2 Q1)
    (hd : ∀ H', Same H1 H' → H' D = some (.lst ys) → Qd H') :
    ∃ W : Nat → Nat → Hp → Prop, (∃ m, W 0 m (upd H1 D (.lst []))) ∧ ∀ k m H, W k m H →
      (J.stop k H ∧ Qd H) ∨ (J.go k H ∧ ∃ Nx : Hp → Prop, (∀ H', Nx H' → ∃ m', m' < m ∧ W (k + 1) m' H') ∧ ∀ x H', J.yld k H x H' → gTup K 2 (gCons (gName i) (gCons (gName j) gNil)) x (wipe σ [i, j]) H' fun σ2 H2 => wipe σ2 [i, j] = wipe σ [i, j] ∧ tYes σ2 H2 fun b H3 =>
        if b = true then te σ2 H3 fun y H4 => ∃ acc, H4 D = some (.lst acc) ∧ acc.length < sizeLine ∧ Nx (upd H4 D (.lst (acc ++ [y]))) else Nx H3) := by
  subst hn
  refine lc_it w (fun i H' => Same H1 H' ∧ H' D = some (.lst (ys.take i))) ⟨same_mk hD, upd_same⟩ (fun i H' _ q => hG H' q.1) ?_ ?_
  · rintro m x H2 H3 hi ⟨s2, hd2⟩ ⟨T, x1, x2, rfl, hT, rfl, e1, e2⟩
    have hy : ys[m]? = some ys[m] := List.getElem?_eq_getElem hi
    refine ⟨T, _, rfl, SqT.of upd_same, rfl, x1, _, rfl, x2, _, rfl, rfl, wipe2 hij x1 x2, ?_⟩
    have s3 : Same H2 (upd H2 T (.tup [x1, x2])) := same_mk hT
    refine turn m x1 x2 ys[m] _ hy e1 e2 (s2.trans s3) _ fun H4 s4 => ⟨_, s4 _ _ (s3 _ _ hd2), ?_, same_ch ((s2.trans s3).trans s4) hD, ?_⟩
    · rw [List.length_take]
      exact Nat.lt_of_lt_of_le (show min m ys.length < 1000000 by omega) (by decide)
    · rw [upd_same, List.take_succ, hy]
      rfl
  · rintro H' ⟨s, h⟩
    rw [List.take_length] at h
    exact hd H' s h
end
/-! values told by what is true of them, where only tuples count -/
section
variable {J : It} {n : Nat} {G : Hp → Prop} {Y : Nat → Hp → V → Hp → Prop} {j : Nat} {te : TE} {σ : L2.St} {H1 : Hp} {D : Addr} {Qd : Hp → Prop}
def TupS (H H' : Hp) : Prop := ∀ b xs, H b = some (.tup xs) → H' b = some (.tup xs)
theorem TupS.of {H H' : Hp} (s : Same H H') : TupS H H' := fun b xs h => s b _ h
theorem lcR (w : Walk J n G Y) (R : Nat → V → Hp → Prop) (mono : ∀ i y H H', TupS H H' → R i y H → R i y H') (hs : n < 1000000) (hD : H1 D = none) (hG : ∀ H', Same H1 H' → G H')
    (turn : ∀ (i : Nat) (x : V) (H2 H3 : Hp), i < n → Same H1 H2 → Y i H2 x H3 → ∀ Q1 : VK, (∀ y H4, Same H2 H4 → R i y H4 → Q1 y H4) → te ((wipe σ [j]).set j (some x)) H3 Q1)
    (hd : ∀ ys H', ys.length = n → Same H1 H' → H' D = some (.lst ys) → (∀ i y, ys[i]? = some y → R i y H') → Qd H') :
    ∃ W : Nat → Nat → Hp → Prop, (∃ m, W 0 m (upd H1 D (.lst []))) ∧ ∀ i m H, W i m H →
      (J.stop i H ∧ Qd H) ∨ (J.go i H ∧ ∃ Nx : Hp → Prop, (∀ H', Nx H' → ∃ m', m' < m ∧ W (i + 1) m' H') ∧ ∀ x H', J.yld i H x H' → gName j x (wipe σ [j]) H' fun σ2 H2 => wipe σ2 [j] = wipe σ [j] ∧ tYes σ2 H2 fun b H3 =>
        if b = true then te σ2 H3 fun y H4 => ∃ acc, H4 D = some (.lst acc) ∧ acc.length < sizeLine ∧ Nx (upd H4 D (.lst (acc ++ [y]))) else Nx H3) := by
  refine lc_it w (fun i H' => Same H1 H' ∧ ∃ ys, ys.length = i ∧ H' D = some (.lst ys) ∧ ∀ m y, ys[m]? = some y → R m y H') ⟨same_mk hD, [], rfl, upd_same, fun m y h => by cases h⟩ (fun i H' _ q => hG H' q.1) ?_ ?_
  · rintro i x H2 H3 hi ⟨s2, ys, hl, hd2, hr⟩ y
    refine ⟨wipe1 x, ?_⟩
    refine turn i x H2 H3 hi s2 y _ fun v H4 s4 r => ?_
    have hd4 := s4 _ _ hd2
    have up : TupS H4 (upd H4 D (.lst (ys ++ [v]))) := fun b xs h => by
      rw [upd_ne (ne_of h hd4 (by intro z; cases z))]
      exact h
    refine ⟨_, hd4, Nat.lt_of_lt_of_le (show ys.length < 1000000 by omega) (by decide), same_ch (s2.trans s4) hD, ys ++ [v], by rw [List.length_append, hl]; rfl, upd_same, fun m z hm => ?_⟩
    by_cases e : m < ys.length
    · rw [List.getElem?_append_left e] at hm
      exact mono _ _ _ _ up (mono _ _ _ _ (TupS.of s4) (hr m z hm))
    · rw [List.getElem?_append_right (by omega)] at hm
      have e2 : m = ys.length := by
        have := (List.getElem?_eq_some_iff.mp hm).1
        rw [List.length_singleton] at this
        omega
      subst e2
      rw [Nat.sub_self] at hm
      cases hm
      rw [hl]
      exact mono _ _ _ _ up r
  · rintro H' ⟨s, ys, hl, h, hr⟩
    exact hd ys H' hl s h hr
end
section
variable {K : PySem.W.Frag} {i j : Nat} {te : TE} {σ : L2.St} {H : Hp} {v : V} {Q : VK}
theorem lcR_row (xs : List V) (R : Nat → V → Hp → Prop) (mono : ∀ i y H H', TupS H H' → R i y H → R i y H') (hi : σ[i]? = some (some v)) (h : RowAt H v xs) (hs : xs.length < 1000000)
    (turn : ∀ (m : Nat) (x : V) (H2 : Hp), xs[m]? = some x → Same H H2 → ∀ Q1 : VK, (∀ y H4, Same H2 H4 → R m y H4 → Q1 y H4) → te ((wipe σ [j]).set j (some x)) H2 Q1)
    (hd : ∀ D ys H', ys.length = xs.length → Same H H' → H D = none → H' D = some (.lst ys) → (∀ i y, ys[i]? = some y → R i y H') → Q (.ref D) H') : tLc (iSeqV K i) (gName j) tYes te [j] σ H Q := by
  obtain ⟨a, rfl, h1 | h1⟩ := h
  · refine ⟨a, hi, .inl ⟨_, SqT.of h1, fun D hD => lcR (walk_tup (K := K) (a := a) (xs := xs)) R mono hs hD (fun H' s => sameT s (SqT.of h1)) ?_ fun ys H' l s h2 r => hd D ys H' l s hD h2 r⟩⟩
    rintro m x H2 H3 hm s ⟨rfl, hx⟩ Q1 k
    exact turn m x _ hx s Q1 k
  · refine ⟨a, hi, .inr ⟨_, SqL.of h1, fun D hD => lcR (walk_list (K := K) (a := a) (xs := xs)) R mono hs hD (fun H' s => s.seq (SqL.of h1)) ?_ fun ys H' l s h2 r => hd D ys H' l s hD h2 r⟩⟩
    rintro m x H2 H3 hm s ⟨rfl, hx⟩ Q1 k
    exact turn m x _ hx s Q1 k
theorem setR_row {y : Nat} {D0 : Ends} (xs : List V) (R : Nat → V → Hp → Prop) (mono : ∀ i y H H', TupS H H' → R i y H → R i y H') (hi : σ[i]? = some (some v)) (h : RowAt H v xs) (hs : xs.length < 1000000)
    (turn : ∀ (m : Nat) (x : V) (H2 : Hp), xs[m]? = some x → Same H H2 → ∀ Q1 : VK, (∀ y H4, Same H2 H4 → R m y H4 → Q1 y H4) → te ((wipe σ [j]).set j (some x)) H2 Q1)
    (hd : ∀ D ys H', ys.length = xs.length → Same H H' → H D = none → H' D = some (.lst ys) → (∀ i y, ys[i]? = some y → R i y H') → D0.nx (σ.set y (some (.ref D))) H') : tAsg (tLc (iSeqV K i) (gName j) tYes te [j]) (gName y) D0 σ H := by
  show tLc (iSeqV K i) (gName j) tYes te [j] σ H fun x H1 => D0.nx (σ.set y (some x)) H1
  exact lcR_row xs R mono hi h hs turn hd
end
end CB

set_option maxHeartbeats 3900000
namespace N4
open PySem PySem.Spec PyProof.Rows L2 TL
theorem cut_from (z : Str) (n : Nat) : tl (cutS z (some (n : Int)) none) = (tl z).drop n := by
  rw [tl_cutS, HT.sIx_nat, HT.sIx_none, len_tl]
  rw [List.take_of_length_le (by rw [List.length_drop]; exact Nat.le_refl _)]
  by_cases h : n ≤ (tl z).length
  · rw [Nat.min_eq_left h]
  · rw [Nat.min_eq_right (by omega), List.drop_eq_nil_of_le (Nat.le_refl _), List.drop_eq_nil_of_le (by omega)]
theorem cut_to (z : Str) (n : Nat) : tl (cutS z none (some (n : Int))) = (tl z).take n := by
  rw [tl_cutS, HT.sIx_nat, HT.sIx_none, List.drop_zero, Nat.sub_zero, len_tl]
  by_cases h : n ≤ (tl z).length
  · rw [Nat.min_eq_left h]
  · rw [Nat.min_eq_right (by omega), List.take_of_length_le (Nat.le_refl _), List.take_of_length_le (by omega)]
theorem cut_last (z : Str) : tl (cutS z (some (-1)) none) = (tl z).drop ((tl z).length - 1) := by
  rw [tl_cutS, HT.sIx_none, len_tl]
  have e : HT.sIx (tl z).length 0 (some (-1)) = (tl z).length - 1 := by
    show (if (-1 : Int) < 0 then ((-1 : Int) + ((tl z).length : Int)).toNat else min (-1 : Int).toNat (tl z).length) = _
    rw [if_pos (by decide)]
    omega
  rw [e]
  rw [List.take_of_length_le (by rw [List.length_drop]; exact Nat.le_refl _)]
/-- what all beneath begins with -/
def bg (p : List Str) : Str := if p = [] then "" else js p ++ "/"
theorem bg_str (p : List Str) (hp : Nms p) : (if decide (js p = "") = true then ("" : Str) else js p ++ "/") = bg p := by
  unfold bg
  by_cases h : p = []
  · rw [if_pos h, h]
    rfl
  · rw [if_neg h, decide_eq_false (js_ne hp h)]
    rfl
theorem sw_bg {p q : List Str} (hp : Nms p) (hq : Nms q) : (decide (p ≠ q) && Txt.startswith (js p) (bg q)) = ben p q := by
  unfold bg
  by_cases h : q = []
  · rw [if_pos h, h, sw_pre]
    have e : tl ("" : Str) = [] := rfl
    rw [e]
    unfold ben
    cases p with
    | nil => rfl
    | cons y r => simp
  · rw [if_neg h, sw_js hp hq h]
    by_cases e : p = q
    · rw [e]
      simp [ben]
    · rw [decide_eq_true e, Bool.true_and]
theorem jl_drop {q r : List Str} (hq : q ≠ []) (hr : r ≠ []) : (jl (q ++ r)).drop ((jl q).length + 1) = jl r := by
  rw [jl_app hq hr]
  rw [show jl q ++ 47 :: jl r = (jl q ++ [47]) ++ jl r by simp]
  rw [show (jl q).length + 1 = (jl q ++ [47]).length by simp, List.drop_left']
  rfl
theorem bg_len (q : List Str) : (bg q).length = if q = [] then 0 else (jl q).length + 1 := by
  unfold bg
  by_cases h : q = []
  · rw [if_pos h, if_pos h]
    rfl
  · rw [if_neg h, if_neg h, len_tl, tl_append, tl_js, tl_sl]
    simp
theorem rest_bg (q : List Str) {r : List Str} (hr : r ≠ []) : cutS (js (q ++ r)) (some ((bg q).length : Int)) none = js r := by
  refine ext_tl ?_
  rw [cut_from, tl_js, tl_js, bg_len]
  by_cases h : q = []
  · rw [if_pos h, h]
    rfl
  · rw [if_neg h, jl_drop h hr]
theorem head_bg {p q : List Str} (hp : Nms p) (hq : Nms q) (h : q ≠ []) : decide (cutS (js p) none (some (((js q).length + 1 : Nat) : Int)) = js q ++ "/") = ben p q := by
  have e9 : (jl q ++ [47]).length = (jl q).length + 1 := by simp
  have e : (cutS (js p) none (some (((js q).length + 1 : Nat) : Int)) = js q ++ "/") ↔ (jl q ++ [47]) <+: jl p := by
    rw [List.prefix_iff_eq_take]
    constructor
    · intro z
      have z2 := congrArg tl z
      rw [cut_to, tl_append, tl_js, tl_js, tl_sl, len_tl, tl_js] at z2
      rw [e9]
      exact z2.symm
    · intro z
      refine ext_tl ?_
      rw [cut_to, tl_append, tl_js, tl_js, tl_sl, len_tl, tl_js]
      rw [e9] at z
      exact z.symm
  rw [decide_eq_decide.mpr e]
  apply Bool.eq_iff_iff.mpr
  rw [decide_eq_true_iff]
  exact under hp hq h
theorem js_cons (y : Str) {r : List Str} (h : r ≠ []) : js (y :: r) = y ++ "/" ++ js r := by
  refine ext_tl ?_
  rw [tl_js, tl_append, tl_append, tl_js, tl_sl]
  show jl ([y] ++ r) = _
  rw [jl_app (by simp) h]
  show tl y ++ 47 :: jl r = _
  simp
theorem js_app {q r : List Str} (hq : q ≠ []) (hr : r ≠ []) : js (q ++ r) = js q ++ "/" ++ js r := by
  refine ext_tl ?_
  rw [tl_js, tl_append, tl_append, tl_js, tl_js, tl_sl, jl_app hq hr]
  simp
theorem bg_app (q : List Str) {r : List Str} (hr : r ≠ []) : bg q ++ js r = js (q ++ r) := by
  unfold bg
  by_cases h : q = []
  · rw [if_pos h, h]
    exact ext_tl (by rw [tl_append]; rfl)
  · rw [if_neg h, js_app h hr]
theorem part_js {y : Str} {r : List Str} (hy : IsNm y) : Txt.partition (js (y :: r)) "/" = if r = [] then (y, ("" : Str), ("" : Str)) else (y, ("/" : Str), js r) := by
  by_cases h : r = []
  · rw [if_pos h, h, js_one]
    exact partition_none tl_sl (nm_free hy)
  · rw [if_neg h, js_cons y h]
    exact partition_app tl_sl (nm_free hy)
/-! entries -/
def ent (n : Str) (b : Bool) : Str := if b = true then n ++ "/" else n
theorem tl_ent (n : Str) (b : Bool) : tl (ent n b) = tl n ++ if b = true then [47] else [] := by
  unfold ent
  cases b
  · simp
  · rw [if_pos rfl, tl_append, tl_sl, if_pos rfl]
theorem ent_inj {n m : Str} {b c : Bool} (hn : IsNm n) (hm : IsNm m) (e : ent n b = ent m c) : n = m ∧ b = c := by
  have h := congrArg tl e
  rw [tl_ent, tl_ent] at h
  cases b <;> cases c
  · simp only [Bool.false_eq_true, if_false, List.append_nil] at h
    exact ⟨ext_tl h, rfl⟩
  · simp only [Bool.false_eq_true, if_false, List.append_nil, if_true] at h
    exact absurd (by rw [h]; simp) (nm_free hn)
  · simp only [Bool.false_eq_true, if_false, List.append_nil, if_true] at h
    exact absurd (by rw [← h]; simp) (nm_free hm)
  · simp only [if_true] at h
    exact ⟨ext_tl (List.append_cancel_right h), rfl⟩
theorem ent_eq {n m : Str} {b c : Bool} (hn : IsNm n) (hm : IsNm m) : decide (ent n b = ent m c) = decide ((n, b) = (m, c)) := by
  by_cases e : ent n b = ent m c
  · obtain ⟨e1, e2⟩ := ent_inj hn hm e
    subst e1
    subst e2
    simp
  · rw [decide_eq_false e, decide_eq_false]
    intro z
    cases z
    exact e rfl
theorem ew (x y : Str) : Txt.endswith x y = (decide ((tl y).length ≤ (tl x).length) && decide ((tl x).drop ((tl x).length - (tl y).length) = tl y)) := by
  show (decide (0 + y.length ≤ x.length) && Builtin.Str.subAt x y (x.length - y.length)) = _
  rw [PySem.StrLaws.subAt_eq, len_tl, len_tl, Nat.zero_add]
  by_cases h : (tl y).length ≤ (tl x).length
  · rw [decide_eq_true h, Bool.true_and, Bool.true_and]
    have e : (((tl x).drop ((tl x).length - (tl y).length)).take (tl y).length) = (tl x).drop ((tl x).length - (tl y).length) := List.take_of_length_le (by rw [List.length_drop]; omega)
    have e5 : (((tl x).drop ((tl x).length - (tl y).length)).take (tl y).length == tl y) = ((tl x).drop ((tl x).length - (tl y).length) == tl y) := by rw [e]
    refine e5.trans ?_
    apply Bool.eq_iff_iff.mpr
    rw [beq_iff_eq, decide_eq_true_iff]
  · rw [decide_eq_false h]
    rfl
theorem last_drop (u : List Nat) (c : Nat) : (u ++ [c]).drop ((u ++ [c]).length - 1) = [c] := by
  rw [show (u ++ [c]).length - 1 = u.length by simp, List.drop_left']
  rfl
theorem last_free {u : List Nat} (h : 47 ∉ u) : u.drop (u.length - 1) ≠ [47] := fun e => h (by
  have : 47 ∈ u.drop (u.length - 1) := by
    rw [e]
    simp
  exact List.mem_of_mem_drop this)
theorem ew_ent {n : Str} (hn : IsNm n) (b : Bool) : Txt.endswith (ent n b) "/" = b := by
  rw [ew, tl_sl, tl_ent]
  cases b
  · simp only [Bool.false_eq_true, if_false, List.append_nil]
    rw [decide_eq_false (p := (tl n).drop ((tl n).length - [47].length) = [47]) (last_free (nm_free hn)), Bool.and_false]
  · simp only [if_true]
    rw [decide_eq_true (by simp), Bool.true_and]
    exact decide_eq_true (last_drop _ _)
theorem cut_ent {n : Str} (hn : IsNm n) (b : Bool) : decide (cutS (ent n b) (some (-1)) none = "/") = b := by
  cases b
  · refine decide_eq_false fun e => ?_
    have e2 := congrArg tl e
    rw [cut_last, tl_ent, tl_sl] at e2
    simp only [Bool.false_eq_true, if_false, List.append_nil] at e2
    exact last_free (nm_free hn) e2
  · refine decide_eq_true (ext_tl ?_)
    rw [cut_last, tl_ent, tl_sl]
    simp only [if_true]
    exact last_drop _ _
theorem tl_sub (x : Str) (i j : Nat) : tl (Builtin.Str.strSub x i j) = ((tl x).drop i).take (j - i) := tl_strSub x i j
theorem rms {x y : Str} (h : Txt.endswith x y = true) : tl (Txt.removesuffix x y) = (tl x).take ((tl x).length - (tl y).length) := by
  have h2 : (decide (y.length ≤ x.length) && Builtin.Str.subAt x y (x.length - y.length)) = true := by
    rw [← h]
    show _ = (decide (0 + y.length ≤ x.length) && Builtin.Str.subAt x y (x.length - y.length))
    rw [Nat.zero_add]
  show tl (Txt.affix x (if (decide (y.length ≤ x.length) && Builtin.Str.subAt x y (x.length - y.length)) = true then some (0, x.length - y.length) else none)) = _
  rw [if_pos h2]
  show tl (if x.length - y.length - 0 == x.length then x else Builtin.Str.strSub x 0 (x.length - y.length)) = _
  rw [len_tl, len_tl]
  by_cases e : ((tl x).length - (tl y).length - 0 == (tl x).length) = true
  · rw [if_pos e]
    rw [beq_iff_eq] at e
    rw [List.take_of_length_le (by omega)]
  · rw [if_neg e, tl_sub, List.drop_zero]
    rfl
theorem rms_no {x y : Str} (h : Txt.endswith x y = false) : Txt.removesuffix x y = x := by
  have h2 : (decide (y.length ≤ x.length) && Builtin.Str.subAt x y (x.length - y.length)) = false := by
    rw [← h]
    show _ = (decide (0 + y.length ≤ x.length) && Builtin.Str.subAt x y (x.length - y.length))
    rw [Nat.zero_add]
  show Txt.affix x (if (decide (y.length ≤ x.length) && Builtin.Str.subAt x y (x.length - y.length)) = true then some (0, x.length - y.length) else none) = _
  rw [if_neg (by rw [h2]; simp)]
  rfl
theorem rms_ent {n : Str} (hn : IsNm n) (b : Bool) : Txt.removesuffix (ent n b) "/" = n := by
  cases b
  · exact rms_no (ew_ent hn false)
  · refine ext_tl ?_
    rw [rms (ew_ent hn true), tl_ent, tl_sl]
    simp
/-! strip -/
theorem tw_free {u r : List Nat} (h0 : u.head? ≠ some 47) (h : u ≠ []) : (u ++ r).takeWhile (fun c => c == 47) = [] := by
  match u, h with
  | c :: u, _ =>
    rw [List.cons_append, List.takeWhile_cons_of_neg]
    intro z
    exact h0 (by rw [List.head?_cons, beq_iff_eq.mp z])
theorem tw_rep (k : Nat) (r : List Nat) (h : r.head? ≠ some 47) : (List.replicate k 47 ++ r).takeWhile (fun c => c == 47) = List.replicate k 47 := by
  induction k with
  | zero =>
    rw [List.replicate_zero, List.nil_append]
    by_cases e : r = []
    · rw [e]
      rfl
    · have := tw_free (r := []) h e
      rw [List.append_nil] at this
      exact this
  | succ k ih => rw [List.replicate_succ, List.cons_append, List.takeWhile_cons_of_pos rfl, ih]
theorem strip_core {x : Str} {u : List Nat} {k : Nat} (h0 : u.head? ≠ some 47) (h1 : u.getLast? ≠ some 47) (hx : tl x = u ++ List.replicate k 47) : tl (Txt.stripChars x "/") = u := by
  have g : (("/" : Str).cps.contains : Nat → Bool) = fun c => c == 47 := by
    funext c
    have e : ("/" : Str).cps = #[47] := by decide +kernel
    rw [e]
    apply Bool.eq_iff_iff.mpr
    rw [Array.contains_iff_mem, beq_iff_eq]
    simp
  show tl (Txt.stripBy ("/" : Str).cps.contains true true x) = u
  rw [stripBy_eq, tl_sub, g]
  show ((tl x).drop ((tl x).takeWhile fun c => c == 47).length).take ((x.length - (((tl x).drop ((tl x).takeWhile fun c => c == 47).length).reverse.takeWhile fun c => c == 47).length) - ((tl x).takeWhile fun c => c == 47).length) = u
  rw [len_tl, hx]
  by_cases e : u = []
  · rw [e, List.nil_append]
    have t := tw_rep k [] (by simp)
    rw [List.append_nil] at t
    rw [t, List.length_replicate, List.drop_eq_nil_of_le (by rw [List.length_replicate]; exact Nat.le_refl _)]
    exact List.take_nil
  · rw [tw_free h0 e]
    show ((u ++ List.replicate k 47).drop 0).take (((u ++ List.replicate k 47).length - (((u ++ List.replicate k 47).drop 0).reverse.takeWhile fun c => c == 47).length) - 0) = u
    rw [List.drop_zero, List.reverse_append, List.reverse_replicate, tw_rep k u.reverse (by rw [List.head?_reverse]; exact h1), List.length_replicate, List.length_append, List.length_replicate, Nat.add_sub_cancel, Nat.sub_zero, List.take_left']
    rfl
theorem jl_head : ∀ {p : List Str}, Nms p → (jl p).head? ≠ some 47
  | [], _ => by intro q; cases q
  | y :: r, h => by
    have hy := h y List.mem_cons_self
    have e : ∃ t, jl (y :: r) = tl y ++ t := by
      cases r with
      | nil => exact ⟨[], (List.append_nil _).symm⟩
      | cons z r => exact ⟨_, rfl⟩
    obtain ⟨t, e⟩ := e
    rw [e]
    intro q
    match h2 : tl y with
    | [] => exact nm_ne hy h2
    | c :: u =>
      rw [h2, List.cons_append, List.head?_cons] at q
      refine nm_free hy ?_
      rw [h2, Option.some.inj q]
      exact List.mem_cons_self
theorem jl_last : ∀ {p : List Str}, Nms p → (jl p).getLast? ≠ some 47
  | [], _ => by intro q; cases q
  | [y], h => fun q => nm_free (h y List.mem_cons_self) (List.mem_of_getLast? q)
  | y :: z :: r, h => by
    have ih := jl_last (p := z :: r) h.tail
    show (tl y ++ ([47] ++ jl (z :: r))).getLast? ≠ some 47
    rw [List.getLast?_append, List.getLast?_append]
    intro q
    match e : (jl (z :: r)).getLast? with
    | none => exact jl_ne h.tail (by simp) (List.getLast?_eq_none_iff.mp e)
    | some c =>
      rw [e] at q
      exact ih (by rw [e]; exact q)
theorem strip_ent {n : Str} (hn : IsNm n) (b : Bool) : Txt.stripChars (ent n b) "/" = n := by
  refine ext_tl (strip_core (k := if b = true then 1 else 0) ?_ ?_ ?_)
  · have := jl_head (p := [n]) (by simpa [Nms] using hn)
    exact this
  · have := jl_last (p := [n]) (by simpa [Nms] using hn)
    exact this
  · rw [tl_ent]
    cases b <;> rfl
/-- a front: a path with a stroke behind it, or nothing -/
theorem strip_front {q p : List Str} (hq : Nms q) (hp : Nms p) : Txt.stripChars (bg q ++ js p) "/" = js (q ++ p) := by
  by_cases h : p = []
  · subst h
    rw [List.append_nil]
    refine ext_tl ?_
    rw [tl_js]
    refine strip_core (k := if q = [] then 0 else 1) (jl_head hq) (jl_last hq) ?_
    unfold bg
    by_cases e : q = []
    · rw [if_pos e, if_pos e, e]
      rfl
    · rw [if_neg e, if_neg e, tl_append, tl_append, tl_js, tl_sl]
      show jl q ++ [47] ++ [] = jl q ++ [47]
      rw [List.append_nil]
  · rw [bg_app q h]
    refine ext_tl ?_
    rw [tl_js]
    refine strip_core (k := 0) (jl_head (hq.app hp)) (jl_last (hq.app hp)) ?_
    rw [tl_js]
    simp
end N4

set_option maxHeartbeats 3900000
namespace N4
open PySem PySem.Spec PyProof.Rows L2 TL
open C8 (pss_cut tCut pe_gc)
open CB
abbrev sIsName : Stmt := top 12
abbrev sIsPath : Stmt := top 13
abbrev sIsPlace : Stmt := top 14
abbrev sBeg : Stmt := top 15
abbrev sRest : Stmt := top 17
def Sh (z : Str) : Prop := z.length ≤ 1000
theorem Sh.line {z : Str} (h : Sh z) : z.length ≤ sizeLine := Nat.le_trans h (by decide)
theorem js_len : ∀ {p : List Str}, Nms p → (js p).length ≤ 9 * p.length
  | [], _ => Nat.le_of_eq rfl
  | [y], h => by
    rw [js_one]
    have := (h y List.mem_cons_self).2.1
    show y.length ≤ 9
    omega
  | y :: z :: r, h => by
    have ih := js_len (p := z :: r) h.tail
    have := (h y List.mem_cons_self).2.1
    rw [js_cons y (by simp), len_tl, tl_append, tl_append, List.length_append, List.length_append, tl_sl, ← len_tl, ← len_tl]
    show y.length + 1 + (js (z :: r)).length ≤ _
    rw [List.length_cons (a := y)]
    omega
theorem js_sh {p : List Str} (h : Nms p) (hl : p.length ≤ 100) : Sh (js p) := by
  have := js_len h
  unfold Sh
  omega
theorem nm_sh {y : Str} (h : IsNm y) : Sh y := by
  have := h.2.1
  unfold Sh
  omega
/-- the package's constants and what it reads of the built-in names -/
structure TPk (mg : Str → Option Value) : Prop where
  b : TB mg
  STROKE : ∃ t, mg "STROKE" = some (.str "/" t)
  ROOT : ∃ t, mg "ROOT" = some (.str "" t)
  LETTERS : ∃ t, mg "LETTERS" = some (.str letters t)
  LONGEST : ∃ t, mg "LONGEST" = some (.int 8 t)
def spS1 (C : Str → Prop) (g : Str → V) : Sp := fun vs H Q _ => ∃ z, vs = [.str z] ∧ C z ∧ ∀ H', Same H H' → Q (g z) H'
def spS2 (C : Str → Str → Prop) (g : Str → Str → V) : Sp := fun vs H Q _ => ∃ x y, vs = [.str x, .str y] ∧ C x y ∧ ∀ H', Same H H' → Q (g x y) H'
def begS (z : Str) : Str := if decide (z = "") = true then "" else z ++ "/"
theorem begS_js {p : List Str} (h : Nms p) : begS (js p) = bg p := bg_str p h
def benS (x y : Str) : Bool := (!decide (x = y)) && Txt.startswith x (begS y)
theorem benS_js {p q : List Str} (hp : Nms p) (hq : Nms q) : benS (js p) (js q) = ben p q := by
  unfold benS
  rw [begS_js hq, js_eq hp hq, ← sw_bg hp hq]
  by_cases e : p = q <;> simp [e]
abbrev spIsName : Sp := spS1 Sh fun z => .bl (decide (IsNm z))
def spIsPath : Sp := fun vs H Q _ => ∃ p, vs = [.str (js p)] ∧ Nms p ∧ p.length ≤ 100 ∧ ∀ H', Same H H' → Q (.bl (decide (p ≠ []))) H'
def spIsPlace : Sp := fun vs H Q _ => ∃ p, vs = [.str (js p)] ∧ Nms p ∧ p.length ≤ 100 ∧ ∀ H', Same H H' → Q (.bl true) H'
abbrev spBeg : Sp := spS1 Sh fun z => .str (begS z)
abbrev spBen : Sp := spS2 (fun x y => Sh x ∧ Sh y) fun x y => .bl (benS x y)
abbrev spAt : Sp := spS2 (fun x y => Sh x ∧ Sh y) fun x y => .bl (decide (x = y) || benS x y)
abbrev spRest : Sp := spS2 (fun x y => Sh x ∧ Sh y) fun x y => .str (cutS x (some ((begS y).length : Int)) none)
theorem isNm_eq (z : Str) : decide (IsNm z) = (decide (1 ≤ z.length) && decide (z.length ≤ 8) && (tl z).all fun c => decide (c ∈ letters.cps.toList)) := by
  apply Bool.eq_iff_iff.mpr
  rw [decide_eq_true_iff, Bool.and_eq_true, Bool.and_eq_true, decide_eq_true_iff, decide_eq_true_iff, List.all_eq_true]
  constructor
  · rintro ⟨h1, h2, h3⟩
    refine ⟨⟨h1, h2⟩, fun c hc => decide_eq_true ?_⟩
    obtain ⟨a, b⟩ := h3 c hc
    have := letter_at (c - 97) (by omega)
    rw [show 97 + (c - 97) = c by omega] at this
    exact List.mem_of_getElem? this
  · rintro ⟨⟨h1, h2⟩, h3⟩
    exact ⟨h1, h2, fun c hc => letters_all c (of_decide_eq_true (h3 c hc))⟩
section
variable {P : Program} {w : World} {K : PySem.W.Frag} {mg : Str → Option Value} {base : Heap}
theorem scIsName : FnScope ["thing", "letter"] ["thing"] (defScope sIsName) := ⟨rfl, rfl, rfl, by decide +kernel, rfl, by decide +kernel, by decide +kernel⟩
theorem ok_isName {f : Addr} {fd : FuncData} (F : Fun K "is_name" "is_name" sIsName f fd) (T0 : TPk mg) : FnOk P w K mg base CX0 1 f fd ["thing"] spIsName := by
  have T := T0.b
  obtain ⟨t1, mLETTERS⟩ := T0.LETTERS
  obtain ⟨t2, mLONGEST⟩ := T0.LONGEST
  refine F.ok scIsName (fun vs H Q E h => ?_) (fun cdv A outer s H vs Q E hr h => ?_)
  · obtain ⟨z, rfl, _⟩ := h
    rfl
  · obtain ⟨z, rfl, hz, k⟩ := h
    refine ⟨_, pss_cons (ps_if (PW.pt (pw_or (pt_not (pt_val (pe_callB call_isi (by rfl) T.isinstance (by decide +kernel) (pa_cons (pv 0) (pa_cons (pe_bltn (v := .ty "str") (by rfl) T.str (by decide +kernel) rfl) pa_nil))))) (pw_or1 (pt_not (pt_chain op_le op_le pe_int (pe_callB call_len_str (by rfl) T.len PySem.boot_len (pa_cons (pv 0) pa_nil)) (pe_glob (v := .int 8) rfl mLONGEST ⟨_, rfl⟩)))))) (pss_one (ps_ret pe_bl)) (pss_nil))
        (pss_one (ps_ret (pe_callB (cr_all rfl) (by rfl) T.all boot_all (pa_cons (pe_lc (own := [("letter", 1)]) (g := gName 1) (tt := tYes) rfl scIsName.nd (pi_str (pv 0)) (blkOk_by (own := [("letter", 1)]) (N := ["thing", "letter"]) (sc := defScope sIsName) (by decide +kernel)) (fun _ _ _ _ _ => (pg_name (i := 1) scIsName.nd rfl (Or.inl rfl))) (fun _ _ _ _ _ => pts_nil) (fun _ _ _ _ _ => (pe_cmpR op_in_sign (pv 1) (pe_glob (v := .str letters) rfl mLETTERS ⟨_, rfl⟩) (by rfl)))) pa_nil)))), ?_⟩
    refine ⟨_, rfl, _, _, .type "str", .type "str", true, rfl, .ty "str", .base (.str _), kit_ty (by decide +kernel), _, rfl, iteF ⟨_, rfl, _, rfl, hz.line, _, _, rfl, rfl, _, rfl, ?_⟩⟩
    have k : ∀ H', Same H H' → Q (.bl (decide (IsNm z))) H' := k
    rw [isNm_eq] at k
    by_cases h1 : 1 ≤ z.length
    · rw [decide_eq_true (show (1 : Int) ≤ (z.length : Int) by omega)]
      rw [decide_eq_true h1, Bool.true_and] at k
      refine iteT ⟨_, _, rfl, rfl, _, rfl, ?_⟩
      by_cases h8 : z.length ≤ 8
      · rw [decide_eq_true (show ((z.length : Nat) : Int) ≤ (8 : Int) by omega)]
        rw [decide_eq_true h8, Bool.true_and] at k
        refine iteF ⟨_, rfl, z, rfl, fun D hD => ?_⟩
        refine lc_mapS z (fun c => .bl (decide (c ∈ letters.cps.toList))) (by omega) hD ?_ ?_
        · intro c hc H2 s2 Q1 k1
          exact ⟨_, rfl, c, letters, rfl, rfl, k1 H2 (Same.refl H2)⟩
        · intro H' s' hD'
          exact all_of _ _ hD' (k H' s')
      · rw [decide_eq_false (show ¬ ((z.length : Nat) : Int) ≤ (8 : Int) by omega)]
        rw [decide_eq_false h8, Bool.false_and] at k
        exact iteT (k H (Same.refl H))
    · rw [decide_eq_false (show ¬ (1 : Int) ≤ (z.length : Int) by omega)]
      rw [decide_eq_false h1, Bool.false_and, Bool.false_and] at k
      exact iteF ⟨_, rfl, iteT (k H (Same.refl H))⟩
theorem scIsPath : FnScope ["thing", "part"] ["thing"] (defScope sIsPath) := ⟨rfl, rfl, rfl, by decide +kernel, rfl, by decide +kernel, by decide +kernel⟩
theorem ok_isPath {f fN : Addr} {fd fdN : FuncData} (F : Fun K "is_path" "is_path" sIsPath f fd) (T0 : TPk mg) (aIsName : At K mg "is_name" fN fdN ["thing"]) (GIsName : FnOk P w K mg base CX0 1 fN fdN ["thing"] spIsName) : FnOk P w K mg base CX0 2 f fd ["thing"] spIsPath := by
  have T := T0.b
  obtain ⟨t1, mSTROKE⟩ := T0.STROKE
  refine F.ok scIsPath (fun vs H Q E h => ?_) (fun cdv A outer s H vs Q E hr h => ?_)
  · obtain ⟨z, rfl, _⟩ := h
    rfl
  · obtain ⟨p, rfl, hp, hl, k⟩ := h
    refine ⟨_, pss_one (ps_ret (pe_and (pe_callB call_isi (by rfl) T.isinstance (by decide +kernel) (pa_cons (pv 0) (pa_cons (pe_bltn (v := .ty "str") (by rfl) T.str (by decide +kernel) rfl) pa_nil))) (pe_one (pe_callB (cr_all rfl) (by rfl) T.all boot_all (pa_cons (pe_lc (own := [("part", 1)]) (g := gName 1) (tt := tYes) rfl scIsPath.nd (pi_list (pe_bm PySem.F.plainAttrs_str PySem.F.slot_str_split PySem.F.type_str_split mt_split (pv 0) (pa_cons (pe_glob (v := .str "/") rfl mSTROKE ⟨_, rfl⟩) pa_nil))) (blkOk_by (own := [("part", 1)]) (N := ["thing", "part"]) (sc := defScope sIsPath) (by decide +kernel)) (fun _ _ _ _ _ => (pg_name (i := 1) scIsPath.nd rfl (Or.inl rfl))) (fun _ _ _ _ _ => pts_nil) (fun _ _ _ _ _ => (pe_call GIsName (hr.mono (by decide)) rfl aIsName.m aIsName.k aIsName.b .nil pass0 (pa_cons (pv 1) pa_nil)))) pa_nil))))), ?_⟩
    have hs := js_sh hp hl
    obtain ⟨ys, e1, e2, e3⟩ : ∃ ys, Txt.split (js p) "/" = ys ∧ (∀ y ∈ ys, Sh y) ∧ (ys.length < 1000000 ∧ ys.all (fun y => decide (IsNm y)) = decide (p ≠ [])) := by
      by_cases h : p = []
      · subst h
        refine ⟨[""], by decide +kernel, ?_, by decide, by decide +kernel⟩
        intro y hy
        rw [List.mem_singleton.mp hy]
        exact Nat.zero_le _
      · refine ⟨p, split_js hp h, fun y hy => nm_sh (hp y hy), by omega, ?_⟩
        rw [decide_eq_true h, List.all_eq_true]
        exact fun y hy => decide_eq_true (hp y hy)
    refine ⟨_, rfl, _, _, .type "str", .type "str", true, rfl, .ty "str", .base (.str _), kit_ty (by decide +kernel), true, rfl, iteT ⟨_, rfl, rfl, js p, "/", rfl, rfl, rfl, ?_, fun l hl' => ⟨l, rfl, ⟨_, SqL.of upd_same⟩, fun D hD => ?_⟩⟩⟩
    · have := hs
      unfold Sh at this
      exact Nat.le_trans (show (js p).length + 2 ≤ 1002 by omega) (by decide)
    · rw [e1] at hD ⊢
      have s1 : Same H (upd H l (.lst (ys.map V.str))) := same_mk hl'
      refine lc_mapL ys V.str (fun y => .bl (decide (IsNm y))) e3.1 hD (SqL.of upd_same) ?_ ?_
      · intro y hy H2 s2 Q1 k1
        exact ⟨_, rfl, y, rfl, e2 y hy, k1⟩
      · intro H' s' hD'
        refine all_of _ _ hD' ?_
        rw [e3.2]
        exact k H' (s1.trans s')
theorem scIsPlace : FnScope ["thing"] ["thing"] (defScope sIsPlace) := ⟨rfl, rfl, rfl, by decide +kernel, rfl, by decide +kernel, by decide +kernel⟩
theorem ok_isPlace {f fN : Addr} {fd fdN : FuncData} (F : Fun K "is_place" "is_place" sIsPlace f fd) (T0 : TPk mg) (aIsPath : At K mg "is_path" fN fdN ["thing"]) (GIsPath : FnOk P w K mg base CX0 2 fN fdN ["thing"] spIsPath) : FnOk P w K mg base CX0 3 f fd ["thing"] spIsPlace := by
  have T := T0.b
  obtain ⟨t1, mROOT⟩ := T0.ROOT
  refine F.ok scIsPlace (fun vs H Q E h => ?_) (fun cdv A outer s H vs Q E hr h => ?_)
  · obtain ⟨z, rfl, _⟩ := h
    rfl
  · obtain ⟨p, rfl, hp, hl, k⟩ := h
    refine ⟨_, pss_one (ps_ret (pe_or (pe_call GIsPath (hr.mono (by decide)) rfl aIsPath.m aIsPath.k aIsPath.b .nil pass0 (pa_cons (pv 0) pa_nil)) (pe_one (pe_and (pe_callB call_isi (by rfl) T.isinstance (by decide +kernel) (pa_cons (pv 0) (pa_cons (pe_bltn (v := .ty "str") (by rfl) T.str (by decide +kernel) rfl) pa_nil))) (pe_one (pe_cmpR op_eq (pv 0) (pe_glob (v := .str "") rfl mROOT ⟨_, rfl⟩) (nomark _))))))), ?_⟩
    refine ⟨_, rfl, p, rfl, hp, hl, fun H1 s1 => ⟨_, rfl, ?_⟩⟩
    by_cases h : p = []
    · rw [decide_eq_false (not_not_intro h)]
      subst h
      exact iteF ⟨_, rfl, _, _, .type "str", .type "str", true, rfl, .ty "str", .base (.str _), kit_ty (by decide +kernel), _, rfl, iteT ⟨_, rfl, rfl, k H1 s1⟩⟩
    · rw [decide_eq_true h]
      exact iteT (k H1 s1)
theorem scBeg : FnScope ["place"] ["place"] (defScope sBeg) := ⟨rfl, rfl, rfl, by decide +kernel, rfl, by decide +kernel, by decide +kernel⟩
theorem ok_beg {f : Addr} {fd : FuncData} (F : Fun K "beginning" "beginning" sBeg f fd) (T0 : TPk mg) : FnOk P w K mg base CX0 1 f fd ["place"] spBeg := by
  obtain ⟨t1, mROOT⟩ := T0.ROOT
  obtain ⟨t2, mSTROKE⟩ := T0.STROKE
  refine F.ok scBeg (fun vs H Q E h => ?_) (fun cdv A outer s H vs Q E hr h => ?_)
  · obtain ⟨z, rfl, _⟩ := h
    rfl
  · obtain ⟨z, rfl, hz, k⟩ := h
    refine ⟨_, pss_one (ps_ret (pe_ifExp (pt_cmpR op_eq (pv 0) (pe_glob (v := .str "") rfl mROOT ⟨_, rfl⟩) (nomark _)) (pe_glob (v := .str "") rfl mROOT ⟨_, rfl⟩) (pe_op op_add_str (pv 0) (pe_glob (v := .str "/") rfl mSTROKE ⟨_, rfl⟩)))), ?_⟩
    refine ⟨_, rfl, rfl, _, rfl, ?_⟩
    have k : ∀ H', Same H H' → Q (.str (begS z)) H' := k
    unfold begS at k
    by_cases h : z = ""
    · subst h
      exact iteT (k H (Same.refl H))
    · rw [decide_eq_false (show ¬ V.str z = V.str "" from fun q => h (V.str.inj q))]
      rw [decide_eq_false h] at k
      refine iteF ⟨_, rfl, _, _, rfl, rfl, ?_, k H (Same.refl H)⟩
      have := hz
      unfold Sh at this
      exact Nat.le_trans (show z.length + 1 ≤ 1001 by omega) (by decide)
theorem begS_sh {z : Str} (h : Sh z) : (begS z).length ≤ sizeLine := by
  have := h
  unfold Sh at this
  refine Nat.le_trans (show (begS z).length ≤ 1001 from ?_) (by decide)
  unfold begS
  by_cases e : z = ""
  · rw [if_pos (decide_eq_true e)]
    exact Nat.zero_le _
  · rw [if_neg (by rw [decide_eq_false e]; simp), len_tl, tl_append, List.length_append, tl_sl, ← len_tl]
    show z.length + 1 ≤ 1001
    omega
theorem scRest : FnScope ["path", "place"] ["path", "place"] (defScope sRest) := ⟨rfl, rfl, rfl, by decide +kernel, rfl, by decide +kernel, by decide +kernel⟩
theorem ok_rest {f fN : Addr} {fd fdN : FuncData} (F : Fun K "rest_in" "rest_in" sRest f fd) (T0 : TPk mg) (aBeg : At K mg "beginning" fN fdN ["place"]) (GBeg : FnOk P w K mg base CX0 1 fN fdN ["place"] spBeg) : FnOk P w K mg base CX0 2 f fd ["path", "place"] spRest := by
  have T := T0.b
  refine F.ok scRest (fun vs H Q E h => ?_) (fun cdv A outer s H vs Q E hr h => ?_)
  · obtain ⟨x, y, rfl, _⟩ := h
    rfl
  · obtain ⟨x, y, rfl, ⟨hx, hy⟩, k⟩ := h
    refine ⟨_, pss_one (ps_ret (pe_slice sl_str (pv 0) (po_some (pe_callB call_len_str (by rfl) T.len PySem.boot_len (pa_cons (pe_call GBeg (hr.mono (by decide)) rfl aBeg.m aBeg.k aBeg.b .nil pass0 (pa_cons (pv 1) pa_nil)) pa_nil))) po_none)), ?_⟩
    exact ⟨_, rfl, _, rfl, y, rfl, hy, fun H1 s1 => ⟨begS y, rfl, begS_sh hy, ⟨_, rfl, x, rfl, hx.line, k H1 s1⟩⟩⟩
end
end N4

set_option maxHeartbeats 3900000
namespace N4
open PySem PySem.Spec PyProof.Rows L2 TL
open C8 (pss_cut tCut pe_gc)
open CB
abbrev sRow : Stmt := top 19
abbrev sAsLook : Stmt := top 20
abbrev sCanLook : Stmt := top 21
/-- an answer: none, a text, entries (name, whether a folder) -/
inductive An
  | no
  | tx (z : Str)
  | es (l : List (Str × Bool))
deriving DecidableEq
def entV (e : Str × Bool) : V := .str (ent e.1 e.2)
/-- an answer as it is passed; as it is told -/
def AnIn (H : Hp) (v : V) : An → Prop
  | .no => v = .non
  | .tx z => v = .str z
  | .es l => RowAt H v (l.map entV)
def AnAt (H : Hp) (v : V) : An → Prop
  | .no => v = .non
  | .tx z => v = .str z
  | .es l => ∃ a, v = .ref a ∧ H a = some (.tup (l.map entV))
def SiIn (H : Hp) (v : V) (s : Lk × An) : Prop := ∃ vk va, RowAt H v [vk, va] ∧ RowAt H vk (lkV s.1) ∧ AnIn H va s.2
def SiAt (H : Hp) (v : V) (s : Lk × An) : Prop := ∃ t u va, v = .ref t ∧ H t = some (.tup [.ref u, va]) ∧ H u = some (.tup (lkV s.1)) ∧ AnAt H va s.2
theorem AnIn.up {H H' : Hp} {v : V} {a : An} (h : AnIn H v a) (s : Same H H') : AnIn H' v a := by
  cases a with
  | no => exact h
  | tx z => exact h
  | es l => exact RowAt.up h s
theorem AnAt.up {H H' : Hp} {v : V} {a : An} (h : AnAt H v a) (s : Same H H') : AnAt H' v a := by
  cases a with
  | no => exact h
  | tx z => exact h
  | es l =>
    obtain ⟨a, e, h⟩ := h
    exact ⟨a, e, s _ _ h⟩
theorem AnAt.in {H : Hp} {v : V} {a : An} (h : AnAt H v a) : AnIn H v a := by
  cases a with
  | no => exact h
  | tx z => exact h
  | es l =>
    obtain ⟨a, e, h⟩ := h
    exact ⟨a, e, .inl h⟩
theorem SiAt.up {H H' : Hp} {v : V} {a : Lk × An} (h : SiAt H v a) (s : Same H H') : SiAt H' v a := by
  obtain ⟨t, u, va, e, h1, h2, h3⟩ := h
  exact ⟨t, u, va, e, s _ _ h1, s _ _ h2, h3.up s⟩
theorem SiIn.up {H H' : Hp} {v : V} {a : Lk × An} (h : SiIn H v a) (s : Same H H') : SiIn H' v a := by
  obtain ⟨vk, va, h1, h2, h3⟩ := h
  exact ⟨vk, va, h1.up s, h2.up s, h3.up s⟩
theorem SiAt.in {H : Hp} {v : V} {a : Lk × An} (h : SiAt H v a) : SiIn H v a := by
  obtain ⟨t, u, va, e, h1, h2, h3⟩ := h
  exact ⟨.ref u, va, ⟨t, e, .inl h1⟩, ⟨u, rfl, .inl h2⟩, h3.in⟩
/-- a look, an answer that are ones -/
def LkOk : Lk → Prop
  | .rd p => p ≠ [] ∧ Nms p ∧ p.length ≤ 90
  | .ls p => Nms p ∧ p.length ≤ 90
  | .se n => IsNm n
  | .tl => True
def Ents (l : List (Str × Bool)) : Prop := (∀ e ∈ l, IsNm e.1) ∧ (l.map (·.1)).Pairwise (fun a b : Str => a.cps.toList < b.cps.toList) ∧ l.length ≤ 1000
def AnOk : Lk → An → Prop
  | .rd _, .no => True
  | .rd _, .tx _ => True
  | .ls p, .no => p ≠ []
  | .ls p, .es l => Ents l ∧ (l ≠ [] ∨ p = [])
  | .se _, .no => True
  | .se _, .tx _ => True
  | .tl, .tx _ => True
  | _, _ => False
def SiOk (s : Lk × An) : Prop := LkOk s.1 ∧ AnOk s.1 s.2
def spRow : Sp := fun vs H Q _ => ∃ v xs n, vs = [v, .int n] ∧ RowAt H v xs ∧ ∀ H', Same H H' → Q (.bl (decide ((xs.length : Int) = n))) H'
def spAsLook : Sp := fun vs H Q _ => ∃ v k, vs = [v] ∧ RowAt H v (lkV k) ∧ LkOk k ∧ ∀ t H', Same H H' → H' t = some (.tup (lkV k)) → Q (.ref t) H'
def spCanLook : Sp := fun vs H Q _ => ∃ k, vs = lkV k ∧ vs.length = 2 ∧ LkOk k ∧ ∀ H', Same H H' → Q (.bl true) H'
def spCanShow : Sp := fun vs H Q _ => ∃ t va k a, vs = [.ref t, va] ∧ H t = some (.tup (lkV k)) ∧ AnIn H va a ∧ LkOk k ∧ AnOk k a ∧ ∀ H', Same H H' → Q (.bl true) H'
def spIsListing : Sp := fun vs H Q _ => ∃ v l, vs = [v] ∧ RowAt H v (l.map entV) ∧ Ents l ∧ ∀ H', Same H H' → Q (.bl true) H'
def spIsEntry : Sp := fun vs H Q _ => ∃ n b, vs = [.str (ent n b)] ∧ IsNm n ∧ ∀ H', Same H H' → Q (.bl true) H'
def spAsSight : Sp := fun vs H Q _ => ∃ v s, vs = [v] ∧ SiIn H v s ∧ SiOk s ∧ ∀ v' H', Same H H' → SiAt H' v' s → Q v' H'
section
variable {P : Program} {w : World} {K : PySem.W.Frag} {mg : Str → Option Value} {base : Heap}
theorem scRow : FnScope ["thing", "size"] ["thing", "size"] (defScope sRow) := ⟨rfl, rfl, rfl, by decide +kernel, rfl, by decide +kernel, by decide +kernel⟩
theorem ok_row {f : Addr} {fd : FuncData} (F : Fun K "is_row" "is_row" sRow f fd) (T : TB mg) : FnOk P w K mg base CX0 1 f fd ["thing", "size"] spRow := by
  refine F.ok scRow (fun vs H Q E h => ?_) (fun cdv A outer s H vs Q E hr h => ?_)
  · obtain ⟨v, xs, n, rfl, _⟩ := h
    rfl
  · obtain ⟨v, xs, n, rfl, hv, k⟩ := h
    refine ⟨_, pss_one (ps_ret (pe_and (pe_callB isi_LT (by rfl) T.isinstance (by decide +kernel) (pa_cons (pv 0) (pa_cons (pe_tup (pa_cons (pe_bltn (v := .ty "list") (by rfl) T.list (by decide +kernel) rfl) (pa_cons (pe_bltn (v := .ty "tuple") (by rfl) T.tuple (by decide +kernel) rfl) pa_nil))) pa_nil))) (pe_one (pe_cmpR op_eq (pe_callB call_len_row (by rfl) T.len PySem.boot_len (pa_cons (pv 0) pa_nil)) (pv 1) (nomark _))))), ?_⟩
    refine ⟨_, rfl, by show 2 ≤ sizeLine; decide, fun tp ht => ⟨v, tp, true, rfl, upd_same, .inl ⟨rfl, xs, hv.up (same_mk ht)⟩, _, rfl, iteT ⟨_, rfl, v, xs, rfl, hv.up (same_mk ht), _, rfl, rfl, ?_⟩⟩⟩
    have e : decide (V.int (xs.length : Int) = V.int n) = decide ((xs.length : Int) = n) := by
      rw [decide_eq_decide]
      exact ⟨fun z => V.int.inj z, fun z => by rw [z]⟩
    rw [e]
    exact k _ (same_mk ht)
theorem scCanLook : FnScope ["word", "where"] ["word", "where"] (defScope sCanLook) := ⟨rfl, rfl, rfl, by decide +kernel, rfl, by decide +kernel, by decide +kernel⟩
theorem ok_canLook {f fN fPh fPl : Addr} {fd fdN fdPh fdPl : FuncData} (F : Fun K "can_look" "can_look" sCanLook f fd) (T0 : TPk mg) (aIsName : At K mg "is_name" fN fdN ["thing"]) (aIsPath : At K mg "is_path" fPh fdPh ["thing"]) (aIsPlace : At K mg "is_place" fPl fdPl ["thing"])
    (GIsName : FnOk P w K mg base CX0 1 fN fdN ["thing"] spIsName) (GIsPath : FnOk P w K mg base CX0 2 fPh fdPh ["thing"] spIsPath) (GIsPlace : FnOk P w K mg base CX0 3 fPl fdPl ["thing"] spIsPlace) : FnOk P w K mg base CX0 4 f fd ["word", "where"] spCanLook := by
  have T := T0.b
  refine F.ok scCanLook (fun vs H Q E h => ?_) (fun cdv A outer s H vs Q E hr h => ?_)
  · obtain ⟨k, _, h2, _⟩ := h
    exact h2
  · obtain ⟨k, rfl, h2, hk, q⟩ := h
    refine ⟨_, pss_cons (ps_if (pt_not (pt_val (pe_callB call_isi (by rfl) T.isinstance (by decide +kernel) (pa_cons (pv 0) (pa_cons (pe_bltn (v := .ty "str") (by rfl) T.str (by decide +kernel) rfl) pa_nil))))) (pss_one (ps_ret pe_bl)) (pss_nil))
            (pss_cons (ps_if (pt_cmpR op_eq (pv 0) pe_str (nomark _)) (pss_one (ps_ret (pe_call GIsPath (hr.mono (by decide)) rfl aIsPath.m aIsPath.k aIsPath.b .nil pass0 (pa_cons (pv 1) pa_nil)))) (pss_nil))
            (pss_cons (ps_if (pt_cmpR op_eq (pv 0) pe_str (nomark _)) (pss_one (ps_ret (pe_call GIsPlace (hr.mono (by decide)) rfl aIsPlace.m aIsPlace.k aIsPlace.b .nil pass0 (pa_cons (pv 1) pa_nil)))) (pss_nil))
            (pss_one (ps_ret (pe_and (pe_cmpR op_eq (pv 0) pe_str (nomark _)) (pe_one (pe_call GIsName (hr.mono (by decide)) rfl aIsName.m aIsName.k aIsName.b .nil pass0 (pa_cons (pv 1) pa_nil)))))))), ?_⟩
    cases k with
    | rd p =>
      refine ⟨_, rfl, _, _, .type "str", .type "str", true, rfl, .ty "str", .base (.str _), kit_ty (by decide +kernel), _, rfl, iteF ⟨_, rfl, rfl, _, rfl, iteY rfl ⟨_, rfl, p, rfl, hk.2.1, Nat.le_trans hk.2.2 (by decide), fun H1 s1 => ?_⟩⟩⟩
      rw [decide_eq_true hk.1]
      exact q H1 s1
    | ls p =>
      exact ⟨_, rfl, _, _, .type "str", .type "str", true, rfl, .ty "str", .base (.str _), kit_ty (by decide +kernel), _, rfl, iteF ⟨_, rfl, rfl, _, rfl, iteN (by decide +kernel) ⟨_, rfl, rfl, _, rfl, iteY rfl ⟨_, rfl, p, rfl, hk.1, Nat.le_trans hk.2 (by decide), q⟩⟩⟩⟩
    | se n =>
      refine ⟨_, rfl, _, _, .type "str", .type "str", true, rfl, .ty "str", .base (.str _), kit_ty (by decide +kernel), _, rfl, iteF ⟨_, rfl, rfl, _, rfl, iteN (by decide +kernel) ⟨_, rfl, rfl, _, rfl, iteN (by decide +kernel) ⟨_, rfl, rfl, _, rfl, iteY rfl ⟨_, rfl, n, rfl, nm_sh hk, fun H1 s1 => ?_⟩⟩⟩⟩⟩
      show Q (.bl (decide (IsNm n))) H1
      rw [decide_eq_true (show IsNm n from hk)]
      exact q H1 s1
    | tl => exact absurd h2 (by decide)
theorem scAsLook : FnScope ["thing"] ["thing"] (defScope sAsLook) := ⟨rfl, rfl, rfl, by decide +kernel, rfl, by decide +kernel, by decide +kernel⟩
theorem ok_asLook {f fR fC : Addr} {fd fdR fdC : FuncData} (F : Fun K "as_look" "as_look" sAsLook f fd) (T : TB mg) (aRow : At K mg "is_row" fR fdR ["thing", "size"]) (aCanLook : At K mg "can_look" fC fdC ["word", "where"])
    (GRow : FnOk P w K mg base CX0 1 fR fdR ["thing", "size"] spRow) (GCanLook : FnOk P w K mg base CX0 4 fC fdC ["word", "where"] spCanLook) : FnOk P w K mg base CX0 5 f fd ["thing"] spAsLook := by
  refine F.ok scAsLook (fun vs H Q E h => ?_) (fun cdv A outer s H vs Q E hr h => ?_)
  · obtain ⟨v, k, rfl, _⟩ := h
    rfl
  · obtain ⟨v, k, rfl, hv, hk, q⟩ := h
    refine ⟨_, pss_cons (ps_if (PW.pt (pw_and (pt_val (pe_call GRow (hr.mono (by decide)) rfl aRow.m aRow.k aRow.b .nil pass0 (pa_cons (pv 0) (pa_cons pe_int pa_nil)))) (pw_and (pt_val (pe_callB call_isi (by rfl) T.isinstance (by decide +kernel) (pa_cons (pe_ix ix_row (pv 0) pe_int (fun _ _ => rfl)) (pa_cons (pe_bltn (v := .ty "str") (by rfl) T.str (by decide +kernel) rfl) pa_nil)))) (pw_and1 (pt_cmpR op_eq (pe_ix ix_row (pv 0) pe_int (fun _ _ => rfl)) pe_str (nomark _)))))) (pss_one (ps_ret (pe_tup (pa_cons pe_str pa_nil)))) (pss_nil))
            (pss_cons (ps_if (PW.pt (pw_and (pt_val (pe_call GRow (hr.mono (by decide)) rfl aRow.m aRow.k aRow.b .nil pass0 (pa_cons (pv 0) (pa_cons pe_int pa_nil)))) (pw_and1 (pt_val (pe_call GCanLook (hr.mono (by decide)) rfl aCanLook.m aCanLook.k aCanLook.b .nil pass0 (pa_cons (pe_ix ix_row (pv 0) pe_int (fun _ _ => rfl)) (pa_cons (pe_ix ix_row (pv 0) pe_int (fun _ _ => rfl)) pa_nil))))))) (pss_one (ps_ret (pe_tup (pa_cons (pe_ix ix_row (pv 0) pe_int (fun _ _ => rfl)) (pa_cons (pe_ix ix_row (pv 0) pe_int (fun _ _ => rfl)) pa_nil))))) (pss_nil))
            (pss_one (ps_ret pe_non))), ?_⟩
    have two : ∀ (x y : V), lkV k = [x, y] → ∃ Z : Prop, True := fun _ _ _ => ⟨True, trivial⟩
    by_cases e : k = .tl
    · subst e
      refine ⟨_, rfl, v, _, 1, rfl, hv, fun H1 s1 => ⟨_, rfl, iteY rfl ⟨_, rfl, _, 0, _, hv.up s1, rfl, atI_nat (j := 0) rfl, _, _, .type "str", .type "str", true, rfl, .ty "str", .base (.str _), kit_ty (by decide +kernel), _, rfl, iteT ⟨_, rfl, _, 0, _, hv.up s1, rfl, atI_nat (j := 0) rfl, rfl, _, rfl, iteY rfl ⟨by show 1 ≤ sizeLine; decide, fun t ht => ?_⟩⟩⟩⟩⟩
      exact q t _ (same_ch s1 (s1.free ht)) upd_same
    · obtain ⟨x, y, exy⟩ : ∃ x y, lkV k = [x, y] := by
        cases k with
        | tl => exact absurd rfl e
        | _ => exact ⟨_, _, rfl⟩
      rw [exy] at hv
      refine ⟨_, rfl, v, _, 1, rfl, hv, fun H1 s1 => ⟨_, rfl, iteN (by show ¬ ((2 : Nat) : Int) = 1; decide) ⟨_, rfl, v, _, 2, rfl, hv.up s1, fun H2 s2 => ⟨_, rfl, iteY rfl ?_⟩⟩⟩⟩
      have v2 := (hv.up s1).up s2
      refine ⟨_, rfl, _, 0, _, v2, rfl, atI_nat (j := 0) rfl, _, rfl, _, 1, _, v2, rfl, atI_nat (j := 1) rfl, k, exy.symm, rfl, hk, fun H3 s3 => ⟨_, rfl, iteT ?_⟩⟩
      have v3 := v2.up s3
      refine ⟨_, rfl, _, 0, _, v3, rfl, atI_nat (j := 0) rfl, _, rfl, _, 1, _, v3, rfl, atI_nat (j := 1) rfl, by show 2 ≤ sizeLine; decide, fun t ht => ?_⟩
      refine q t _ (same_ch ((s1.trans s2).trans s3) (((s1.trans s2).trans s3).free ht)) ?_
      rw [exy]
      exact upd_same
def strD (l : List Str) : PyData := .tuple (l.map .str)
abbrev Okz (z : Str) : Prop := PyData.strOk z = true
theorem okz_of {z : Str} (h : ∀ c ∈ tl z, c < 1114112) : Okz z := by
  show (z.cps.all fun c => decide (c < 1114112)) = true
  rw [Array.all_eq_true_iff_forall_mem]
  intro c hc
  exact decide_eq_true (h c (Array.mem_toList_iff.mpr hc))
theorem jl_small : ∀ {p : List Str}, Nms p → ∀ c ∈ jl p, c < 128
  | [], _ => by intro c hc; cases hc
  | [y], h => fun c hc => by
    have := (h y List.mem_cons_self).2.2 c hc
    omega
  | y :: z :: r, h => fun c hc => by
    have e : jl (y :: z :: r) = tl y ++ ([47] ++ jl (z :: r)) := rfl
    rw [e] at hc
    rcases List.mem_append.mp hc with q | q
    · have := (h y List.mem_cons_self).2.2 c q
      omega
    · rcases List.mem_append.mp q with q | q
      · rw [List.mem_singleton.mp q]
        decide
      · exact jl_small h.tail c q
theorem okz_js {p : List Str} (h : Nms p) : Okz (js p) := okz_of fun c hc => by
  rw [tl_js] at hc
  have := jl_small h c hc
  omega
theorem okz_nm {z : Str} (h : IsNm z) : Okz z := okz_of fun c hc => by
  have := h.2.2 c hc
  omega
theorem okz_ent {z : Str} (h : IsNm z) (b : Bool) : Okz (ent z b) := okz_of fun c hc => by
  rw [tl_ent] at hc
  rcases List.mem_append.mp hc with q | q
  · have := h.2.2 c q
    omega
  · cases b
    · cases q
    · rw [List.mem_singleton.mp q]
      decide
theorem lay_strs : ∀ l : List Str, (∀ z ∈ l, Okz z) → PyData.canLayAll0 (l.map .str) = true
  | [], _ => by simp [PyData.canLayAll0]
  | z :: r, h => by
    have h1 : PyData.strOk z = true := h z List.mem_cons_self
    simp [PyData.canLayAll0, PyData.canLay0, lay_strs r fun y hy => h y (List.mem_cons_of_mem _ hy), h1]
theorem dep_strs : ∀ l : List Str, PyData.depthAll (l.map .str) ≤ 1
  | [] => by simp [PyData.depthAll]
  | z :: r => by
    have := dep_strs r
    simp only [List.map_cons, PyData.depthAll, PyData.depth]
    omega
theorem shaped_strs (l : List Str) (hl : ∀ z ∈ l, Okz z) : SeqAt.shaped (strD l) = true := by
  have h := dep_strs l
  have h2 : PyData.depth (.tuple (l.map .str)) ≤ 64 := by
    simp only [PyData.depth]
    omega
  show (PyData.canLay0 (.tuple (l.map .str)) && decide (PyData.depth (.tuple (l.map .str)) ≤ 64)) = true
  rw [Bool.and_eq_true]
  exact ⟨by simp only [PyData.canLay0]; exact lay_strs l hl, decide_eq_true h2⟩
theorem dp_strs {H : Hp} : ∀ l : List Str, DpAll K H (l.map V.str) (l.map PyData.str)
  | [] => .nil
  | z :: r => .cons (.str z) (dp_strs r)
theorem eqv_str2 (a b c d : Str) : PyData.eqv (strD [a, b]) (strD [c, d]) = ((a == c) && (b == d)) := by
  simp [strD, PyData.eqv, PyData.eqvAll]
end
end N4

set_option maxHeartbeats 3900000
namespace CB
open PySem PySem.Spec PyProof.Rows L2 PyProof.V
/-! two rules that were lacking: a text times 0 or 1; setdefault by a tuple -/
def rMulS : R2 := fun x y H Q => ∃ (z : Str) (b : Bool), x = .str z ∧ y = .int (b2i b) ∧ z.length ≤ sizeLine ∧ Q (.str (if b = true then z else "")) H
section
variable {X : Cx}
theorem op_mulS : OpR X (binaryOp .Mult) rMulS := by
  intro pins s σ H x y v u Q I rx ry h
  obtain ⟨z, b, rfl, rfl, hz, q⟩ := h
  obtain ⟨t, rfl⟩ := rx
  obtain ⟨t', rfl⟩ := ry
  cases b with
  | false => exact P.mul_str_none (by decide) (by decide) ⟨.str "", H, I.tok _, ⟨_, rfl⟩, q⟩
  | true =>
    refine P.mul_str (by decide) (fun _ h => by cases h) (fun _ h => by cases h) ?_
    show (Made.val (.str z t)).post _ s
    exact ⟨.str z, H, I, ⟨_, rfl⟩, q⟩
/-- d.setdefault(k, x), k a tuple of texts and ints -/
def rSetdT : V → List V → Hp → VK → Prop := fun x xs H Q => ∃ (a : Addr) (kvs : List (List L2.Key × V)) (k : List L2.Key) (b : Addr) (d : V), x = .ref a ∧ xs = [.ref b, d] ∧ H a = some (.dT kvs) ∧ H b = some (.tup (k.map kV)) ∧ kvs.length < sizeLine ∧
  (∀ v, valV kvs k = some v → Q v H) ∧ (valV kvs k = none → Q d (upd H a (.dT (putK kvs k d))))
theorem mt_setdT (hu : X.A.units + 1 < cLine) : MtR X "dict.setdefault" rSetdT := by
  intro pins s σ H x xs v us Q I rx rxs h
  obtain ⟨a, kvs, k, b, d, rfl, rfl, ha, hb, hl, q1, q2⟩ := h
  cases rx
  obtain ⟨u1, u2, rfl, r1, r2⟩ := vals2 rxs
  cases r1
  obtain ⟨z, hd, xs', rel, dd⟩ := dt_of I.hok ha
  have hz : xs'.length ≤ sizeLine := by
    rw [← Paired.length rel]
    exact z
  refine call_setdefault_heap (knd := tupleKind (mixKind X.prog X.w)) (k := k) (tupleKind_room_in1 hu) (key_of I.hok hb) hd dd (fun p hp => ?_) (fun hn h' dd' hs => ?_) hz
  · have r := rel.val k
    rw [hp] at r
    obtain ⟨v0, ev, rv⟩ : ∃ v0, valV kvs k = some v0 ∧ RelV v0 p.2 := by
      cases ev : valV kvs k with
      | none =>
        rw [ev] at r
        exact (show False from r).elim
      | some v0 =>
        rw [ev] at r
        exact ⟨v0, rfl, r⟩
    exact ⟨v0, H, I.tok _, rv, q1 v0 ev⟩
  · have r := rel.val k
    rw [hn] at r
    have e : valV kvs k = none := by
      cases ev : valV kvs k with
      | none => rfl
      | some v0 =>
        rw [ev] at r
        exact (show False from r).elim
    obtain ⟨o, es, ep, hq, h2, h3, h4, _, h5⟩ := dd'
    have hl2 : (putK kvs k d).length ≤ sizeLine := by
      have := length_putK kvs k d
      omega
    refine ⟨d, _, d_write (ob := .dT (putK kvs k d)) I (by rw [ha]; exact True.intro) hs ⟨o, hq⟩ ⟨hl2, hd, _, (rel.put k hb r2).keeps fun c ys ec => ?_, o, es, ep, hq, h2, h3, h4, h5⟩, r2, q2 e⟩
    rw [upd_ne (ne_of ec ha (fun z => nomatch z))]
    exact ec
variable {K0 : PySem.W.Frag}
theorem len_seqK (hK : X.K = K0) : CallR X (.builtin "len") (fun xs H Q => ∃ p ys, xs = [V.ref p] ∧ (SqL K0 H p ys ∨ SqT K0 H p ys) ∧ Q (V.int (ys.length : Int)) H) := by
  subst hK
  exact call_len_seq
theorem sl_listK (hK : X.K = K0) : SlR X (rSlL K0) := by
  subst hK
  exact sl_list
def tJoinK (K0 : PySem.W.Frag) (to te : TE) : TE := tM1 (fun x xs H Q => ∃ a p, ∃ ys : List Str, x = .str a ∧ xs = [.ref p] ∧ (SqL K0 H p (ys.map V.str) ∨ SqT K0 H p (ys.map V.str)) ∧ (ys.map (·.length)).sum + ys.length * a.length ≤ 16777216 ∧ Q (.str (Txt.join a ys)) H) to te
theorem pe_joinK {o e : Expr} {to te : TE} {apos pos : Pos} (hK : X.K = K0) (ho : PE X o to) (he : PE X e te) (h1 : starEach [e] X.env = [(false, eval e X.env)] := by rfl) (h2 : attributeBase o "join" X.env (eval o X.env) = eval o X.env := by rfl)
    (h3 : (apos.endLine == pos.line) = true := by rfl) : PE X (.Call (.Attribute o "join" apos) [e] [] pos) (tJoinK K0 to te) := by
  subst hK
  exact pe_join ho he h1 h2 h3
end
end CB

set_option maxHeartbeats 3900000
namespace N4
open PySem PySem.Spec PyProof.Rows L2 TL
open C8 (pss_cut tCut pe_gc)
open CB
abbrev sBeneath : Stmt := top 40
def spBeneath : Sp := fun vs H Q _ => ∃ p q, vs = [.str (js p), .str (js q)] ∧ Nms p ∧ Nms q ∧ q.length ≤ 100 ∧ p.length ≤ 100 ∧ ∀ H', Same H H' → Q (.bl (ben p q)) H'
section
variable {P : Program} {w : World} {K : PySem.W.Frag} {mg : Str → Option Value} {base : Heap} {fD fP fPa fFr fMx fTe fLo : Addr} {fdD fdP fdPa fdFr fdMx fdTe fdLo : FuncData}
theorem scBe : FnScope ["_law_path_here", "_law_other"] ["_law_path_here", "_law_other"] (defScope sBeneath) := ⟨rfl, rfl, rfl, by decide +kernel, rfl, by decide +kernel, by decide +kernel⟩
theorem ok_beneath {f : Addr} {fd : FuncData} (F : Fun K "_law_beneath" "_law_beneath" sBeneath f fd) (T : TB mg) : FnOk P w K mg base CX0 1 f fd ["_law_path_here", "_law_other"] spBeneath := by
  refine F.ok scBe (fun vs H Q E h => ?_) (fun cdv A outer s H vs Q E hr h => ?_)
  · obtain ⟨p, q, rfl, _⟩ := h
    rfl
  · obtain ⟨p, q, rfl, hp, hq, lq, lp, k⟩ := h
    refine ⟨_, pss_one (ps_ret (pe_and (pe_cmpR op_ne (pv 0) pe_str (nomark _)) (pe_one (pe_or (pe_cmpR op_eq (pv 1) pe_str (nomark _)) (pe_one (pe_cmpR op_eq (pe_slice sl_str (pv 0) po_none (po_some (pe_op op_add (pe_callB call_len_str (by rfl) T.len PySem.boot_len (pa_cons (pv 1) pa_nil)) pe_int))) (pe_op op_add_str (pv 1) pe_str) (nomark _))))))), ?_⟩
    have shp := js_sh hp lp
    have shq := js_sh hq lq
    refine ⟨_, rfl, rfl, _, rfl, ?_⟩
    by_cases ep : p = []
    · subst ep
      have e : ben [] q = false := by
        unfold ben
        cases q <;> rfl
      rw [e] at k
      exact iteF (k H (Same.refl H))
    rw [decide_eq_false (show ¬ V.str (js p) = V.str "" from fun z => js_ne hp ep (V.str.inj z))]
    refine iteT ⟨_, rfl, rfl, _, rfl, ?_⟩
    by_cases eq : q = []
    · subst eq
      have e : ben p [] = true := ben_iff.mpr ⟨p, ep, rfl⟩
      rw [e] at k
      exact iteT (k H (Same.refl H))
    rw [decide_eq_false (show ¬ V.str (js q) = V.str "" from fun z => js_ne hq eq (V.str.inj z))]
    have add : (js q).length + ("/" : Str).length ≤ sizeLine := by
      have := shq
      unfold Sh at this
      exact Nat.le_trans (show (js q).length + 1 ≤ 1001 by omega) (by decide)
    refine iteF ⟨_, rfl, _, rfl, _, rfl, shq.line, _, _, rfl, rfl, _, rfl, js p, rfl, shp.line, _, rfl, _, _, rfl, rfl, add, rfl, ?_⟩
    have e := head_bg hp hq eq
    have e2 : decide (V.str (cutS (js p) none (some (((js q).length : Int) + 1))) = V.str (js q ++ "/")) = ben p q := by
      rw [← e, decide_eq_decide]
      exact ⟨fun z => V.str.inj z, fun z => congrArg V.str z⟩
    rw [e2]
    exact k H (Same.refl H)
end
end N4

set_option maxHeartbeats 3900000
namespace N4
open PySem PySem.Spec PyProof.Rows L2 TL
open C8 (pss_cut tCut pe_gc)
open CB
abbrev sRoom : Stmt := top 41
abbrev sFiles : Stmt := top 43
abbrev sWorld : Stmt := top 44
/-- files: paths as lists of names, each with its text -/
abbrev Fs := List (List Str × Str)
def fsK (fs : Fs) : List (L2.Key × V) := fs.map fun e => (.inr (js e.1), .str e.2)
def room (fs : Fs) (p : List Str) : Bool := !(fs.any fun e => ben p e.1 || ben e.1 p)
/-- the text of a path put in -/
def putF (fs : Fs) (p : List Str) (t : Str) : Fs := if p ∈ fs.map (·.1) then fs.map (fun e => if e.1 = p then (e.1, t) else e) else fs ++ [(p, t)]
theorem putF_keys (fs : Fs) (p : List Str) (t : Str) : (putF fs p t).map (·.1) = if p ∈ fs.map (·.1) then fs.map (·.1) else fs.map (·.1) ++ [p] := by
  unfold putF
  by_cases h : p ∈ fs.map (·.1)
  · rw [if_pos h, if_pos h, List.map_map]
    refine List.map_congr_left fun e _ => ?_
    show (if e.1 = p then (e.1, t) else e).1 = e.1
    split <;> rfl
  · rw [if_neg h, if_neg h, List.map_append]
    rfl
theorem fsK_put {fs : Fs} {p : List Str} {t : Str} (hf : ∀ e ∈ fs, Nms e.1) (hp : Nms p) : putK (fsK fs) (.inr (js p)) (.str t) = fsK (putF fs p t) := by
  have key : ∀ e ∈ fs, decide ((Sum.inr (js e.1) : L2.Key) = .inr (js p)) = decide (e.1 = p) := fun e he => decide_eq_decide.mpr ⟨fun q => js_inj (hf e he) hp (Sum.inr.inj q), fun q => by rw [q]⟩
  have an : ((fsK fs).any fun kv => decide (kv.1 = (.inr (js p) : L2.Key))) = decide (p ∈ fs.map (·.1)) := by
    unfold fsK
    rw [List.any_map, Bool.eq_iff_iff, List.any_eq_true, decide_eq_true_iff, List.mem_map]
    constructor
    · rintro ⟨e, he, q⟩
      exact ⟨e, he, of_decide_eq_true ((key e he).symm.trans q)⟩
    · rintro ⟨e, he, q⟩
      exact ⟨e, he, (key e he).trans (decide_eq_true q)⟩
  unfold putK putF
  rw [an]
  by_cases h : p ∈ fs.map (·.1)
  · rw [if_pos (decide_eq_true h), if_pos h]
    unfold fsK
    rw [List.map_map, List.map_map]
    refine List.map_congr_left fun e he => ?_
    show (if (Sum.inr (js e.1) : L2.Key) = .inr (js p) then ((Sum.inr (js e.1) : L2.Key), V.str t) else (Sum.inr (js e.1), V.str e.2)) = (Sum.inr (js (if e.1 = p then (e.1, t) else e).1), V.str (if e.1 = p then (e.1, t) else e).2)
    by_cases q : e.1 = p
    · rw [if_pos q, if_pos (by rw [q])]
    · rw [if_neg q, if_neg fun z => q (of_decide_eq_true ((key e he).symm.trans (decide_eq_true z)))]
  · rw [if_neg (fun z => h (of_decide_eq_true z)), if_neg h]
    unfold fsK
    rw [List.map_append]
    rfl
/-- files that may stand together -/
structure GoodF (zs : List Str) (fs : Fs) : Prop where
  path : ∀ e ∈ fs, e.1 ≠ [] ∧ e.1.length ≤ 3 ∧ ∀ y ∈ e.1, y ∈ zs
  text : ∀ e ∈ fs, e.2 ∈ texts
  nd : (fs.map (·.1)).Nodup
  free : ∀ p ∈ fs.map (·.1), ∀ q ∈ fs.map (·.1), ben p q = false
theorem GoodF.put {zs : List Str} {fs : Fs} {p : List Str} {t : Str} (g : GoodF zs fs) (h1 : p ≠ []) (h2 : p.length ≤ 3) (h3 : ∀ y ∈ p, y ∈ zs) (ht : t ∈ texts) (r : room fs p = true) : GoodF zs (putF fs p t) := by
  have rm : ∀ q ∈ fs.map (·.1), ben p q = false ∧ ben q p = false := fun q hq => by
    obtain ⟨e, he, rfl⟩ := List.mem_map.mp hq
    unfold room at r
    rw [Bool.not_eq_true', List.any_eq_false] at r
    have := r e he
    simp only [Bool.or_eq_true, not_or, Bool.not_eq_true] at this
    exact this
  have self : ben p p = false := by
    cases q : ben p p with
    | false => rfl
    | true =>
      unfold ben at q
      rw [Bool.and_eq_true, decide_eq_true_iff] at q
      exact absurd q.2 (Nat.lt_irrefl _)
  have keys : ∀ q ∈ (putF fs p t).map (·.1), q ∈ fs.map (·.1) ∨ q = p := fun q hq => by
    rw [putF_keys] at hq
    split at hq
    · exact .inl hq
    · exact (List.mem_append.mp hq).imp id List.mem_singleton.mp
  refine ⟨fun e he => ?_, fun e he => ?_, ?_, fun a ha b hb => ?_⟩
  · rcases keys e.1 (List.mem_map_of_mem he) with q | q
    · obtain ⟨e', he', q⟩ := List.mem_map.mp q
      rw [← q]
      exact g.path e' he'
    · rw [q]
      exact ⟨h1, h2, h3⟩
  · unfold putF at he
    split at he
    · obtain ⟨e', he', rfl⟩ := List.mem_map.mp he
      split
      · exact ht
      · exact g.text e' he'
    · rcases List.mem_append.mp he with he | he
      · exact g.text e he
      · rw [List.mem_singleton.mp he]
        exact ht
  · rw [putF_keys]
    split
    · exact g.nd
    · rename_i h
      rw [List.nodup_append]
      refine ⟨g.nd, by simp, fun a ha b hb => ?_⟩
      rw [List.mem_singleton.mp hb]
      rintro rfl
      exact h ha
  · rcases keys a ha with ha1 | ea
    · rcases keys b hb with hb1 | eb
      · exact g.free a ha1 b hb1
      · rw [eb]
        exact (rm a ha1).2
    · rw [ea]
      rcases keys b hb with hb1 | eb
      · exact (rm b hb1).1
      · rw [eb]
        exact self
theorem putF_len (fs : Fs) (p : List Str) (t : Str) : (putF fs p t).length ≤ fs.length + 1 := by
  unfold putF
  split
  · rw [List.length_map]
    omega
  · rw [List.length_append]
    exact Nat.le_refl _
def spFiles : Sp := fun vs H Q _ => ∃ (st l p : Addr) (c : Nat) (zs : List Str) (most : Nat), vs = [.ref st, .ref p, .int most] ∧ Strm H st l c ∧ c ≤ 800000 ∧ Pool H st l p zs ∧ 0 < zs.length ∧ zs.length < 1000 ∧ (∀ z ∈ zs, IsNm z) ∧ most ≤ 50 ∧
  ∀ (d : Addr) (fs : Fs) (H' : Hp) (c' : Nat), H d = none → H' d = some (.dK (fsK fs)) → GoodF zs fs → fs.length ≤ most → But st l H H' → Strm H' st l c' → c' ≤ c + 1 + 5 * most → Q (.ref d) H'
def spRoom : Sp := fun vs H Q _ => ∃ d fs p, vs = [.ref d, .str (js p)] ∧ H d = some (.dK (fsK fs)) ∧ fs.length ≤ 1000 ∧ (∀ e ∈ fs, Nms e.1 ∧ e.1.length ≤ 100) ∧ Nms p ∧ p.length ≤ 100 ∧ ∀ H', Same H H' → Q (.bl (room fs p)) H'
section
variable {P : Program} {w : World} {K : PySem.W.Frag} {mg : Str → Option Value} {base : Heap} {fBe : Addr} {fdBe : FuncData}
theorem scRoom : FnScope ["_law_files_here", "_law_path_here", "_law_one"] ["_law_files_here", "_law_path_here"] (defScope sRoom) := ⟨rfl, rfl, rfl, by decide +kernel, rfl, by decide +kernel, by decide +kernel⟩
theorem ok_room {f : Addr} {fd : FuncData} (F : Fun K "_law_has_room" "_law_has_room" sRoom f fd) (T : TB mg) (aBe : At K mg "_law_beneath" fBe fdBe ["_law_path_here", "_law_other"]) (GBe : FnOk P w K mg base CX0 1 fBe fdBe ["_law_path_here", "_law_other"] spBeneath) :
    FnOk P w K mg base CX0 2 f fd ["_law_files_here", "_law_path_here"] spRoom := by
  refine F.ok scRoom (fun vs H Q E h => ?_) (fun cdv A outer s H vs Q E hr h => ?_)
  · obtain ⟨d, fs, p, rfl, _⟩ := h
    rfl
  · obtain ⟨d, fs, p, rfl, hd, fl, hf, hp, pl, k⟩ := h
    refine ⟨_, pss_one (ps_ret (pe_not (pe_callB (cr_any rfl) (by rfl) T.any boot_any (pa_cons (pe_lock (pe_lc (own := [("_law_one", 2)]) (g := gName 2) (tt := tYes) rfl scRoom.nd (pi_keys (pv 0)) (blkOk_by (own := [("_law_one", 2)]) (N := ["_law_files_here", "_law_path_here", "_law_one"]) (sc := defScope sRoom) (by decide +kernel)) (fun _ _ _ _ _ => (pg_name (i := 2) scRoom.nd rfl (Or.inl rfl))) (fun _ _ _ _ _ => pts_nil) (fun _ _ _ _ _ => (by exact (pe_or (pe_call GBe (hr.mono (by decide)) rfl aBe.m aBe.k aBe.b .nil pass0 (pa_cons (pv 1) (pa_cons (pv 2) pa_nil))) (pe_one (pe_call GBe (hr.mono (by decide)) rfl aBe.m aBe.k aBe.b .nil pass0 (pa_cons (pv 2) (pa_cons (pv 1) pa_nil))))))))) pa_nil)))), ?_⟩
    refine ⟨d, _, hd, trivial, fun od => ⟨_, rfl, d, od, rfl, .inl ⟨fsK fs, upd_same, fun D hD => ?_⟩⟩⟩
    refine lcW (walk_keys (kvs := fsK fs)) (fs.map fun e => .bl (ben p e.1 || ben e.1 p)) (by unfold fsK; rw [List.length_map, List.length_map]) (by unfold fsK; rw [List.length_map]; omega) hD (fun H' s => s _ _ upd_same) ?_ ?_
    · rintro i x y _ H3 hy s3 ⟨rfl, k0, v, hkv, rfl⟩ Q1 k1
      unfold fsK at hkv
      rw [List.getElem?_map] at hkv hy
      obtain ⟨e, he, ek⟩ := Option.map_eq_some_iff.mp hkv
      rw [he] at hy
      cases hy
      cases ek
      have hm := hf e (List.mem_of_getElem? he)
      refine ⟨_, rfl, _, rfl, p, e.1, rfl, hp, hm.1, hm.2, pl, fun H4 s4 => ⟨_, rfl, ?_⟩⟩
      have k1 : ∀ H4, Same H3 H4 → Q1 (.bl (ben p e.1 || ben e.1 p)) H4 := k1
      cases h1 : ben p e.1 with
      | true =>
        rw [h1] at k1
        exact iteT (k1 _ s4)
      | false =>
        rw [h1] at k1
        refine iteF ⟨_, rfl, _, rfl, e.1, p, rfl, hm.1, hp, pl, hm.2, fun H5 s5 => k1 _ (s4.trans s5)⟩
    · intro H1 s1 hD1
      have su : Same H (upd H1 d (.dK (fsK fs))) := fun b u hb => by
        by_cases e : b = d
        · rw [e] at hb ⊢
          rw [upd_same, ← hd]
          exact hb
        · rw [upd_ne e]
          exact s1 _ _ (by rw [upd_ne e]; exact hb)
      refine ⟨s1 _ _ upd_same, D, fs.map fun e => ben p e.1 || ben e.1 p, rfl, SqL.of ?_, _, rfl, ?_⟩
      · rw [upd_ne (fun e => by rw [e, upd_same] at hD; cases hD), hD1, List.map_map]
        rfl
      · rw [List.any_map]
        exact k _ su
theorem scFiles : FnScope ["_law_stream", "_law_pool_here", "_law_most", "_law_files_here", "_law_k", "_law_path_here"] ["_law_stream", "_law_pool_here", "_law_most"] (defScope sFiles) := ⟨rfl, rfl, rfl, by decide +kernel, rfl, by decide +kernel, by decide +kernel⟩
theorem ok_files {f fD fPa fTe fRo : Addr} {fd fdD fdPa fdTe fdRo : FuncData} (F : Fun K "_law_files" "_law_files" sFiles f fd) (T : TB mg) (aD : aD' K mg fD fdD) (GD : FnOk P w K mg base CX0 1 fD fdD ["_law_stream", "_law_many"] spDraw)
    (aPa : At K mg "_law_path" fPa fdPa ["_law_stream", "_law_pool_here", "_law_most"]) (GPa : FnOk P w K mg base CX0 3 fPa fdPa ["_law_stream", "_law_pool_here", "_law_most"] spPath)
    (aRoom : At K mg "_law_has_room" fRo fdRo ["_law_files_here", "_law_path_here"]) (GRoom : FnOk P w K mg base CX0 2 fRo fdRo ["_law_files_here", "_law_path_here"] spRoom)
    (aTe : At K mg "_law_text" fTe fdTe ["_law_stream"]) (GTe : FnOk P w K mg base CX0 2 fTe fdTe ["_law_stream"] spText) : FnOk P w K mg base CX0 4 f fd ["_law_stream", "_law_pool_here", "_law_most"] spFiles := by
  refine F.ok scFiles (fun vs H Q E h => ?_) (fun cdv A outer s H vs Q E hr h => ?_)
  · obtain ⟨st, l, p, c, zs, most, rfl, _⟩ := h
    rfl
  · obtain ⟨st, l, p, c, zs, most, rfl, S, hc, L, z0, z1, nm, hm, k⟩ := h
    have hu := hr.units
    have hu1 := Nat.lt_of_le_of_lt (Nat.add_le_add_left (show 1 ≤ 64 by decide) _) hr.units
    refine ⟨_, pss_cons (ps_set (i := 3) scFiles.nd rfl (Or.inl rfl) pe_dnewK)
            (pss_cons (ps_for PassesOwn.never rfl (pi_range1 rfl T.range (pa_cons (pe_call GD (hr.mono (by decide)) rfl aD.m aD.k aD.b .nil pass0 (pa_cons (pv 0) (pa_cons (pe_op op_add (pv 2) pe_int) pa_nil))) pa_nil)) (pg_name (i := 4) scFiles.nd rfl (Or.inl rfl)) (pss_cons (ps_set (i := 5) scFiles.nd rfl (Or.inl rfl) (pe_call GPa (hr.mono (by decide)) rfl aPa.m aPa.k aPa.b .nil pass0 (pa_cons (pv 0) (pa_cons (pv 1) (pa_cons pe_int pa_nil)))))
            (pss_one (ps_if (pt_val (pe_call GRoom (hr.mono (by decide)) rfl aRoom.m aRoom.k aRoom.b .nil pass0 (pa_cons (pv 3) (pa_cons (pv 5) pa_nil)))) (pss_one (ps_dput hu1 (pv 3) (pv 5) (pe_call GTe (hr.mono (by decide)) rfl aTe.m aTe.k aTe.b .nil pass0 (pa_cons (pv 0) pa_nil)) rfl)) (pss_nil)))))
            (pss_one (ps_ret (pv 3)))), ?_⟩
    refine fun d hd => ?_
    have nd := S.ne_new hd
    have s0 := same_mk (o := .dK []) hd
    refine ⟨_, rfl, _, rfl, _, _, rfl, rfl, st, l, c, _, rfl, S.up s0, by omega, by omega, by omega, fun n H1 n0 n1 B1 S1 => ?_⟩
    obtain ⟨n, rfl⟩ := Int.eq_ofNat_of_zero_le n0
    have d1 : H1 d = some (.dK (fsK [])) := B1 _ _ upd_same nd.1 nd.2
    refine ⟨n, rfl, by omega, by omega, for_range (lo := 0) (n := n) (fun i σ H' => ∃ x4 x5 fs c', σ = [some (.ref st), some (.ref p), some (.int most), some (.ref d), x4, x5] ∧ But st l H H' ∧ H' d = some (.dK (fsK fs)) ∧ GoodF zs fs ∧ fs.length ≤ i ∧ Strm H' st l c' ∧ c' ≤ c + 1 + 5 * i)
      ⟨none, none, [], c + 1, rfl, (But.same s0).trans B1, d1, ⟨by simp, by simp, by simp, by simp⟩, Nat.le_refl _, S1, by omega⟩ ?_ ?_⟩
    · rintro i _ H2 hi ⟨x4, x5, fs, c2, rfl, B2, h2, g, fl, S2, hc2⟩
      refine ⟨_, rfl, _, rfl, st, l, p, c2, zs, 3, rfl, S2, by omega, L.but B2, z0, z1, nm, by decide, by decide, fun ys H3 c3 y1 y3 yz B3 S3 hc3 => ?_⟩
      have hc3' : c3 ≤ c2 + 1 + 3 := hc3
      have h3 := B3 _ _ h2 nd.1 nd.2
      have ny : Nms ys := fun y hy => nm y (yz y hy)
      have yl : ys.length ≤ 3 := by omega
      have fe : ∀ e ∈ fs, Nms e.1 ∧ e.1.length ≤ 100 := fun e he => ⟨fun y hy => nm y ((g.path e he).2.2 y hy), by have := (g.path e he).2.1; omega⟩
      refine ⟨_, rfl, _, rfl, d, fs, ys, rfl, h3, by omega, fe, ny, by omega, fun H4 s4 => ⟨_, rfl, ite2 (fun hro => ?_) (fun _ => ?_)⟩⟩
      · refine ⟨_, rfl, st, l, c3, rfl, S3.up s4, by omega, fun t H5 ht B5 S5 => ?_⟩
        have h5 := B5 _ _ (s4 _ _ h3) nd.1 nd.2
        refine ⟨_, rfl, _, rfl, d, _, rfl, DPut.k (k := .inr (js ys)) h5 (Nat.lt_of_le_of_lt (show (fsK fs).length ≤ 50 by unfold fsK; rw [List.length_map]; omega) (by decide)), ?_⟩
        have hne : ys ≠ [] := by
          rintro rfl
          simp at y1
        rw [fsK_put (fun e he => (fe e he).1) ny]
        have B6 : But st l H H5 := (B2.trans (B3.trans (But.same s4))).trans B5
        refine ⟨_, _, putF fs ys t, c3 + 1, rfl, B6.put hd, upd_same, g.put hne yl yz ht hro, Nat.le_trans (putF_len fs ys t) (by omega), S5.put nd, by omega⟩
      · exact ⟨_, _, fs, c3, rfl, B2.trans (B3.trans (But.same s4)), s4 _ _ h3, g, by omega, S3.up s4, by omega⟩
    · rintro _ H2 ⟨x4, x5, fs, c2, rfl, B2, h2, g, fl, S2, hc2⟩
      exact ⟨_, rfl, k d fs H2 c2 hd h2 g (by omega) B2 S2 (by omega)⟩
end
end N4

set_option maxHeartbeats 3900000
namespace N4
open PySem PySem.Spec PyProof.Rows L2 TL
open C8 (pss_cut tCut pe_gc)
open CB
/-- settings: names, each with its text -/
abbrev Ss := List (Str × Str)
def ssK (ss : Ss) : List (L2.Key × V) := ss.map fun e => (.inr e.1, .str e.2)
structure GoodS (zs : List Str) (ss : Ss) : Prop where
  name : ∀ e ∈ ss, e.1 ∈ zs
  text : ∀ e ∈ ss, e.2 ∈ texts
  nd : (ss.map (·.1)).Nodup
theorem ssK_put {ss : Ss} {n : Str} {t : Str} (h : n ∉ ss.map (·.1)) : putK (ssK ss) (.inr n) (.str t) = ssK (ss ++ [(n, t)]) := by
  have an : ((ssK ss).any fun kv => decide (kv.1 = (.inr n : L2.Key))) = false := by
    unfold ssK
    rw [List.any_map, List.any_eq_false]
    intro e he q
    have : e.1 = n := Sum.inr.inj (of_decide_eq_true q)
    exact h (this ▸ List.mem_map_of_mem he)
  unfold putK
  rw [an, if_neg (by decide)]
  unfold ssK
  rw [List.map_append]
  rfl
def tools : List Str := ["", "1", "2"]
/-- a world as the law holds it -/
def WAt (H : Hp) (x : Addr) (fs : Fs) (ss : Ss) (z : Str) : Prop := ∃ d e, H x = some (.dK [(.inr "files", .ref d), (.inr "settings", .ref e), (.inr "tool", .str z)]) ∧ H d = some (.dK (fsK fs)) ∧ H e = some (.dK (ssK ss))
theorem WAt.same {H H' : Hp} {x : Addr} {fs : Fs} {ss : Ss} {z : Str} (h : WAt H x fs ss z) (s : Same H H') : WAt H' x fs ss z := by
  obtain ⟨d, e, h1, h2, h3⟩ := h
  exact ⟨d, e, s _ _ h1, s _ _ h2, s _ _ h3⟩
theorem dk_but {H H' : Hp} {st l a : Addr} {c : Nat} {kvs : List (L2.Key × V)} (S : Strm H st l c) (B : But st l H H') (h : H a = some (.dK kvs)) : H' a = some (.dK kvs) := by
  obtain ⟨ns, u, m, ⟨g1, g2⟩, _⟩ := S.ex
  exact B _ _ h (ne_of h g1 (by intro z; cases z)) (ne_of h g2 (by intro z; cases z))
theorem WAt.but {H H' : Hp} {st l x : Addr} {c : Nat} {fs : Fs} {ss : Ss} {z : Str} (h : WAt H x fs ss z) (S : Strm H st l c) (B : But st l H H') : WAt H' x fs ss z := by
  obtain ⟨d, e, h1, h2, h3⟩ := h
  exact ⟨d, e, dk_but S B h1, dk_but S B h2, dk_but S B h3⟩
theorem cut_take (xs : List V) (d : Nat) : cutV xs none (some (d : Int)) = xs.take d := by
  show (xs.drop (HT.sIx xs.length 0 none)).take (HT.sIx xs.length xs.length (some (d : Int)) - HT.sIx xs.length 0 none) = xs.take d
  rw [HT.sIx_none, HT.sIx_nat, List.drop_zero, Nat.sub_zero]
  by_cases h : d ≤ xs.length
  · rw [Nat.min_eq_left h]
  · rw [Nat.min_eq_right (by omega), List.take_of_length_le (Nat.le_refl _), List.take_of_length_le (by omega)]
theorem disp3 (u v t : V) : mergeK [] [((.inr "files" : L2.Key), u), (.inr "settings", v), (.inr "tool", t)] = [(.inr "files", u), (.inr "settings", v), (.inr "tool", t)] := by rfl
def spWorld : Sp := fun vs H Q _ => ∃ (st l p : Addr) (c : Nat) (zs : List Str) (most : Nat), vs = [.ref st, .ref p, .int most] ∧ Strm H st l c ∧ c ≤ 700000 ∧ Pool H st l p zs ∧ 0 < zs.length ∧ zs.length < 1000 ∧ (∀ z ∈ zs, IsNm z) ∧ zs.Nodup ∧ most ≤ 50 ∧
  ∀ (x : Addr) (fs : Fs) (ss : Ss) (z : Str) (H' : Hp) (c' : Nat), WAt H' x fs ss z → GoodF zs fs → fs.length ≤ most → GoodS zs ss → ss.length ≤ 2 → z ∈ tools → But st l H H' → Strm H' st l c' → c' ≤ c + 6 + 5 * most → Q (.ref x) H'
section
variable {P : Program} {w : World} {K : PySem.W.Frag} {mg : Str → Option Value} {base : Heap}
theorem scWorld : FnScope ["_law_stream", "_law_pool_here", "_law_most", "_law_settings", "_law_name"] ["_law_stream", "_law_pool_here", "_law_most"] (defScope sWorld) := ⟨rfl, rfl, rfl, by decide +kernel, rfl, by decide +kernel, by decide +kernel⟩
theorem ok_world {f fD fTe fFi : Addr} {fd fdD fdTe fdFi : FuncData} (F : Fun K "_law_world" "_law_world" sWorld f fd) (T : TB mg) (aD : aD' K mg fD fdD) (GD : FnOk P w K mg base CX0 1 fD fdD ["_law_stream", "_law_many"] spDraw)
    (aFiles : At K mg "_law_files" fFi fdFi ["_law_stream", "_law_pool_here", "_law_most"]) (GFiles : FnOk P w K mg base CX0 4 fFi fdFi ["_law_stream", "_law_pool_here", "_law_most"] spFiles)
    (aTe : At K mg "_law_text" fTe fdTe ["_law_stream"]) (GTe : FnOk P w K mg base CX0 2 fTe fdTe ["_law_stream"] spText) : FnOk P w K mg base CX0 5 f fd ["_law_stream", "_law_pool_here", "_law_most"] spWorld := by
  refine F.ok scWorld (fun vs H Q E h => ?_) (fun cdv A outer s H vs Q E hr h => ?_)
  · obtain ⟨st, l, p, c, zs, most, rfl, _⟩ := h
    rfl
  · obtain ⟨st, l, p, c, zs, most, rfl, S, hc, L, z0, z1, nm, znd, hm, k⟩ := h
    have hu := hr.units
    have hu1 := Nat.lt_of_le_of_lt (Nat.add_le_add_left (show 1 ≤ 64 by decide) _) hr.units
    refine ⟨_, pss_cons (ps_set (i := 3) scWorld.nd rfl (Or.inl rfl) pe_dnewK)
            (pss_cons (ps_for PassesOwn.never rfl (pi_list (pe_slice sl_list (pv 1) po_none (po_some pe_int))) (pg_name (i := 4) scWorld.nd rfl (Or.inl rfl)) (pss_one (ps_if (pt_cmpR op_eq (pe_call GD (hr.mono (by decide)) rfl aD.m aD.k aD.b .nil pass0 (pa_cons (pv 0) (pa_cons pe_int pa_nil))) pe_int (nomark _)) (pss_one (ps_dput hu1 (pv 3) (pv 4) (pe_call GTe (hr.mono (by decide)) rfl aTe.m aTe.k aTe.b .nil pass0 (pa_cons (pv 0) pa_nil)) rfl)) (pss_nil))))
            (pss_one (ps_ret (pe_disp (pps_cons pe_str (pe_call GFiles (hr.mono (by decide)) rfl aFiles.m aFiles.k aFiles.b .nil pass0 (pa_cons (pv 0) (pa_cons (pv 1) (pa_cons (pv 2) pa_nil)))) (pps_cons pe_str (pv 3) (pps_cons pe_str (pe_ix ix_list (pe_lst (pa_cons pe_str (pa_cons pe_str (pa_cons pe_str pa_nil)))) (pe_call GD (hr.mono (by decide)) rfl aD.m aD.k aD.b .nil pass0 (pa_cons (pv 0) (pa_cons pe_int pa_nil))) (fun _ _ => rfl)) pps_nil))) rfl rfl (by simp) (by decide))))), ?_⟩
    refine fun e he => ?_
    have ne := S.ne_new he
    have s0 := same_mk (o := .dK []) he
    refine ⟨_, rfl, 2, rfl, p, _, rfl, SqL.of (s0 _ _ L.h), fun q hq => ?_⟩
    rw [show cutV (zs.map V.str) none (some (2 : Int)) = (zs.take 2).map V.str from (cut_take _ 2).trans List.map_take.symm]
    have nq := (S.up s0).ne_new hq
    have s1 := s0.trans (same_mk (o := .lst ((zs.take 2).map V.str)) hq)
    have qe : q ≠ e := fun z => by rw [z, upd_same] at hq; cases hq
    have lt2 : (zs.take 2).length ≤ 2 := by rw [List.length_take]; omega
    refine ⟨q, rfl, ⟨_, SqL.of upd_same⟩, for_it (walk_list (K := K) (a := q) (xs := (zs.take 2).map V.str)) (fun i σ H' => ∃ x4 ss c', σ = [some (.ref st), some (.ref p), some (.int most), some (.ref e), x4] ∧ But st l H H' ∧ H' q = some (.lst ((zs.take 2).map V.str)) ∧ H' e = some (.dK (ssK ss)) ∧ GoodS zs ss ∧ ss.length ≤ i ∧ (∀ n ∈ ss.map (·.1), n ∈ (zs.take 2).take i) ∧ Strm H' st l c' ∧ c' ≤ c + 2 * i)
      ⟨none, [], c, rfl, But.same s1, upd_same, by rw [upd_ne qe.symm]; exact upd_same, ⟨by simp, by simp, by simp⟩, Nat.le_refl _, by simp, S.up s1, by omega⟩ (fun i σ H' _ q' => by obtain ⟨_, _, _, _, _, h, _⟩ := q'; exact SqL.of h) ?_ ?_⟩
    · rintro i x _ H2 H3 hi ⟨x4, ss, c2, rfl, B2, hq2, he2, g, sl, sub, S2, hc2⟩ ⟨rfl, hx⟩
      rw [List.length_map] at hi
      rw [List.getElem?_map, List.getElem?_eq_getElem hi] at hx
      cases hx
      have hnm : (zs.take 2)[i] ∈ zs := List.mem_of_mem_take (List.getElem_mem hi)
      have tk : (zs.take 2).take (i + 1) = (zs.take 2).take i ++ [(zs.take 2)[i]] := by
        rw [List.take_succ, List.getElem?_eq_getElem hi]
        rfl
      have sub' : ∀ n ∈ ss.map (·.1), n ∈ (zs.take 2).take (i + 1) := fun n hn => by
        rw [tk]
        exact List.mem_append_left _ (sub n hn)
      have new : (zs.take 2)[i] ∉ ss.map (·.1) := fun hn => by
        obtain ⟨j, hj, ej⟩ := List.getElem_of_mem (sub _ hn)
        rw [List.getElem_take] at ej
        have hj' : j < i := by
          rw [List.length_take] at hj
          omega
        have := (List.getElem_inj (znd.sublist (List.take_sublist 2 zs))).mp ej
        omega
      refine ⟨_, rfl, st, l, c2, 2, rfl, S2, by omega, by decide, by decide, fun n H3 n0 n1 B3 S3 => ⟨rfl, _, rfl, ite2 (fun _ => ?_) (fun _ => ?_)⟩⟩
      · refine ⟨_, rfl, st, l, c2 + 1, rfl, S3, by omega, fun t H4 ht B4 S4 => ?_⟩
        have he4 := B4 _ _ (B3 _ _ he2 ne.1 ne.2) ne.1 ne.2
        have hq4 := B4 _ _ (B3 _ _ hq2 nq.1 nq.2) nq.1 nq.2
        refine ⟨_, rfl, _, rfl, e, _, rfl, DPut.k (k := .inr (zs.take 2)[i]) he4 (Nat.lt_of_le_of_lt (show (ssK ss).length ≤ 2 by unfold ssK; rw [List.length_map]; omega) (by decide)), ?_⟩
        rw [ssK_put new]
        have B5 := B2.trans (B3.trans B4)
        refine ⟨_, ss ++ [((zs.take 2)[i], t)], c2 + 2, rfl, B5.put he, by rw [upd_ne qe]; exact hq4, upd_same, ⟨fun a ha => ?_, fun a ha => ?_, ?_⟩, by rw [List.length_append]; show ss.length + 1 ≤ i + 1; omega, fun n hn => ?_, S4.put ne, by omega⟩
        · rcases List.mem_append.mp ha with h | h
          · exact g.name a h
          · rw [List.mem_singleton.mp h]; exact hnm
        · rcases List.mem_append.mp ha with h | h
          · exact g.text a h
          · rw [List.mem_singleton.mp h]; exact ht
        · rw [List.map_append, List.nodup_append]
          refine ⟨g.nd, by simp, fun a ha b hb => ?_⟩
          rw [List.mem_singleton.mp hb]
          rintro rfl
          exact new ha
        · rw [List.map_append] at hn
          rcases List.mem_append.mp hn with h | h
          · exact sub' n h
          · rw [tk, List.mem_singleton.mp h]
            exact List.mem_append_right _ (List.mem_singleton.mpr rfl)
      · exact ⟨_, ss, c2 + 1, rfl, B2.trans B3, B3 _ _ hq2 nq.1 nq.2, B3 _ _ he2 ne.1 ne.2, g, by omega, sub', S3, by omega⟩
    · rintro _ H2 ⟨x4, ss, c2, rfl, B2, hq2, he2, g, sl, sub, S2, hc2⟩
      rw [List.length_map] at sl hc2
      refine fun x hx => ?_
      have nx := S2.ne_new hx
      have sx := same_mk (o := .dK []) hx
      refine ⟨_, rfl, _, rfl, _, rfl, st, l, p, c2, zs, most, rfl, S2.up sx, by omega, (L.but B2).but (But.same sx), z0, z1, nm, hm, fun d fs H3 c3 hd hd3 gf fl B3 S3 hc3 => ?_⟩
      have hx3 := B3 _ _ (upd_same (H := H2) (a := x) (o := .dK [])) nx.1 nx.2
      have he3 := B3 _ _ (sx _ _ he2) ne.1 ne.2
      refine ⟨_, rfl, by show 3 ≤ sizeLine; decide, fun r hr' => ?_⟩
      have sr := same_mk (o := .lst [.str "", .str "1", .str "2"]) hr'
      have nr := S3.ne_new hr'
      refine ⟨_, rfl, st, l, c3, 3, rfl, S3.up sr, by omega, by decide, by decide, fun n H4 n0 n1 B4 S4 => ?_⟩
      obtain ⟨n, rfl⟩ := Int.eq_ofNat_of_zero_le n0
      have hr4 := B4 _ _ (upd_same (H := H3) (a := r) (o := .lst [.str "", .str "1", .str "2"])) nr.1 nr.2
      have hx4 := B4 _ _ (sr _ _ hx3) nx.1 nx.2
      have he4 := B4 _ _ (sr _ _ he3) ne.1 ne.2
      have hd4 := dk_but (S3.up sr) B4 (sr _ _ hd3)
      have xe : x ≠ e := fun z => by rw [z, he2] at hx; cases hx
      have xd : x ≠ d := fun z => by rw [← z, upd_same] at hd; cases hd
      have BB : But st l H (upd H4 x (.dK [(.inr "files", .ref d), (.inr "settings", .ref e), (.inr "tool", .str (tools.getD n ""))])) := by
        have b1 : But st l H H4 := B2.trans ((But.same sx).trans (B3.trans ((But.same sr).trans B4)))
        intro b u hb h1 h2
        have hbx : b ≠ x := fun z => by rw [z] at hb; rw [B2 _ _ hb (z ▸ h1) (z ▸ h2)] at hx; cases hx
        rw [upd_ne hbx]
        exact b1 b u hb h1 h2
      have fin : ∀ z, z = tools.getD n "" → z ∈ tools → Q (.ref x) (upd H4 x (.dK [(.inr "files", .ref d), (.inr "settings", .ref e), (.inr "tool", .str z)])) := fun z ez hz => by
        subst ez
        exact k x fs ss _ _ (c3 + 1) ⟨d, e, upd_same, by rw [upd_ne xd.symm]; exact hd4, by rw [upd_ne xe.symm]; exact he4⟩ gf fl g (by omega) hz BB (S4.put nx) (by omega)
      have n3 : n = 0 ∨ n = 1 ∨ n = 2 := by omega
      rcases n3 with rfl | rfl | rfl
      · exact ⟨r, _, ((0 : Nat) : Int), _, rfl, rfl, SqL.of hr4, atI_nat rfl, hx4, [(.inr "files", .ref d), (.inr "settings", .ref e), (.inr "tool", .str "")], rfl, by show 3 ≤ 15; decide, by rw [disp3]; exact fin _ rfl (by decide +kernel)⟩
      · exact ⟨r, _, ((1 : Nat) : Int), _, rfl, rfl, SqL.of hr4, atI_nat rfl, hx4, [(.inr "files", .ref d), (.inr "settings", .ref e), (.inr "tool", .str "1")], rfl, by show 3 ≤ 15; decide, by rw [disp3]; exact fin _ rfl (by decide +kernel)⟩
      · exact ⟨r, _, ((2 : Nat) : Int), _, rfl, rfl, SqL.of hr4, atI_nat rfl, hx4, [(.inr "files", .ref d), (.inr "settings", .ref e), (.inr "tool", .str "2")], rfl, by show 3 ≤ 15; decide, by rw [disp3]; exact fin _ rfl (by decide +kernel)⟩
end
end N4

set_option maxHeartbeats 3900000
namespace N4
open PySem PySem.Spec PyProof.Rows L2 TL
open C8 (pss_cut tCut pe_gc)
open CB
/-! d != {} -/
def rNeE : R2 := fun x y H Q => ∃ a b kvs, x = .ref a ∧ y = .ref b ∧ H a = some (.dK kvs) ∧ H b = some (.dK []) ∧ Q (.bl (!kvs.isEmpty)) H
theorem op_neE {X : Cx} (hu : X.A.units < cLine) : OpR X (compareOp .NotEq) rNeE := by
  intro pins s σ H x y v u Q I rx ry h
  obtain ⟨a, b, ks, rfl, rfl, ea, eb, q⟩ := h
  cases rx
  cases ry
  obtain ⟨_, ya, va, ra, da⟩ := (show ObjOk X.prog X.w H s.heap a (.dK ks) from I.hok a _ ea)
  obtain ⟨_, yb, vb, rb, db⟩ := (show ObjOk X.prog X.w H s.heap b (.dK []) from I.hok b _ eb)
  have l1 := ra.length
  have l2 := rb.length
  have hits : va.length = vb.length → PySem.W.KeqHits X.A.in1 s vb va true := fun e => by
    cases va with
    | nil => exact .nil
    | cons z r => rw [← l2] at e; cases e
  refine PySem.W.keq_ne (knd := mixKind X.prog X.w) (r := true) ya yb da db hu hits ⟨.bl _, H, I, rfl, ?_⟩
  have e : (va.length == vb.length && true) = ks.isEmpty := by
    rw [← l1, ← l2]
    cases ks <;> rfl
  rw [e]
  exact q
/-- what lies beneath a folder: names, each with whether it is a folder itself -/
abbrev Nm := List (Str × Bool)
def nmK (fm : Nm) : List (L2.Key × V) := fm.map fun e => (.inr e.1, .str (ent e.1 e.2))
/-- the name n beneath q, as a folder or as a file -/
def Has (fs : Fs) (q : List Str) (n : Str) (b : Bool) : Prop := ∃ e ∈ fs, ∃ r, e.1 = q ++ n :: r ∧ b = decide (r ≠ [])
structure Fm (fs : Fs) (q : List Str) (fm : Nm) : Prop where
  nd : (fm.map (·.1)).Nodup
  has : ∀ n b, (n, b) ∈ fm ↔ Has fs q n b
def addN (fm : Nm) (n : Str) (b : Bool) : Nm := if n ∈ fm.map (·.1) then fm else fm ++ [(n, b)]
theorem nm_put {fm : Nm} {n : Str} {b : Bool} (h : ∀ c, (n, c) ∈ fm → c = b) : putK (nmK fm) (.inr n) (.str (ent n b)) = nmK (addN fm n b) := by
  have an : ((nmK fm).any fun kv => decide (kv.1 = (.inr n : L2.Key))) = decide (n ∈ fm.map (·.1)) := by
    unfold nmK
    rw [List.any_map, Bool.eq_iff_iff, List.any_eq_true, decide_eq_true_iff, List.mem_map]
    constructor
    · rintro ⟨e, he, q⟩
      exact ⟨e, he, Sum.inr.inj (of_decide_eq_true q)⟩
    · rintro ⟨e, he, q⟩
      exact ⟨e, he, decide_eq_true (by show (Sum.inr e.1 : L2.Key) = .inr n; rw [q])⟩
  unfold putK addN
  rw [an]
  by_cases hn : n ∈ fm.map (·.1)
  · rw [if_pos (decide_eq_true hn), if_pos hn]
    unfold nmK
    rw [List.map_map]
    refine List.map_congr_left fun e he => ?_
    show (if (Sum.inr e.1 : L2.Key) = .inr n then ((Sum.inr e.1 : L2.Key), V.str (ent n b)) else (Sum.inr e.1, V.str (ent e.1 e.2))) = (Sum.inr e.1, V.str (ent e.1 e.2))
    by_cases q : e.1 = n
    · have hb : e.2 = b := h e.2 (by rw [← q]; exact he)
      rw [if_pos (by rw [q]), q, hb]
    · rw [if_neg fun z => q (Sum.inr.inj z)]
  · rw [if_neg (fun z => hn (of_decide_eq_true z)), if_neg hn]
    unfold nmK
    rw [List.map_append]
    rfl
theorem has_one {zs : List Str} {fs : Fs} (g : GoodF zs fs) {q : List Str} {n : Str} {b c : Bool} (h1 : Has fs q n b) (h2 : Has fs q n c) : b = c := by
  obtain ⟨e1, m1, r1, p1, rfl⟩ := h1
  obtain ⟨e2, m2, r2, p2, rfl⟩ := h2
  have f1 := g.free _ (List.mem_map_of_mem m1) _ (List.mem_map_of_mem m2)
  have f2 := g.free _ (List.mem_map_of_mem m2) _ (List.mem_map_of_mem m1)
  by_cases a1 : r1 = []
  · by_cases a2 : r2 = []
    · rw [a1, a2]
    · have : ben e2.1 e1.1 = true := ben_iff.mpr ⟨r2, a2, by rw [p1, p2, a1]; simp⟩
      rw [this] at f2
      cases f2
  · by_cases a2 : r2 = []
    · have : ben e1.1 e2.1 = true := ben_iff.mpr ⟨r1, a1, by rw [p1, p2, a2]; simp⟩
      rw [this] at f1
      cases f1
    · rw [decide_eq_true a1, decide_eq_true a2]
theorem has_take {fs : Fs} {i : Nat} (hi : i < fs.length) {q : List Str} {n : Str} {b : Bool} : Has (fs.take (i + 1)) q n b ↔ Has (fs.take i) q n b ∨ ∃ r, fs[i].1 = q ++ n :: r ∧ b = decide (r ≠ []) := by
  have tk : fs.take (i + 1) = fs.take i ++ [fs[i]] := by
    rw [List.take_succ, List.getElem?_eq_getElem hi]
    rfl
  unfold Has
  rw [tk]
  constructor
  · rintro ⟨e, he, r, h1, h2⟩
    rcases List.mem_append.mp he with he | he
    · exact .inl ⟨e, he, r, h1, h2⟩
    · rw [List.mem_singleton.mp he] at h1
      exact .inr ⟨r, h1, h2⟩
  · rintro (⟨e, he, r, h1, h2⟩ | ⟨r, h1, h2⟩)
    · exact ⟨e, List.mem_append_left _ he, r, h1, h2⟩
    · exact ⟨fs[i], List.mem_append_right _ (List.mem_singleton.mpr rfl), r, h1, h2⟩
theorem Has.whole {fs : Fs} {i : Nat} {q : List Str} {n : Str} {b : Bool} (h : Has (fs.take i) q n b) : Has fs q n b := by
  obtain ⟨e, he, r⟩ := h
  exact ⟨e, List.mem_of_mem_take he, r⟩
theorem Fm.no {fs : Fs} {i : Nat} {q : List Str} {fm : Nm} (h : Fm (fs.take i) q fm) (hi : i < fs.length) (hb : ben fs[i].1 q = false) : Fm (fs.take (i + 1)) q fm := by
  refine ⟨h.nd, fun n b => (h.has n b).trans ⟨fun k => (has_take hi).mpr (.inl k), fun k => ?_⟩⟩
  rcases (has_take hi).mp k with k | ⟨r, h1, _⟩
  · exact k
  · have : ben fs[i].1 q = true := ben_iff.mpr ⟨n :: r, by simp, h1⟩
    rw [this] at hb
    cases hb
theorem Fm.yes {zs : List Str} {fs : Fs} (g : GoodF zs fs) {i : Nat} {q : List Str} {fm : Nm} (h : Fm (fs.take i) q fm) (hi : i < fs.length) {n : Str} {r : List Str} (he : fs[i].1 = q ++ n :: r) : Fm (fs.take (i + 1)) q (addN fm n (decide (r ≠ []))) := by
  have here : Has (fs.take (i + 1)) q n (decide (r ≠ [])) := (has_take hi).mpr (.inr ⟨r, he, rfl⟩)
  unfold addN
  by_cases hn : n ∈ fm.map (·.1)
  · rw [if_pos hn]
    obtain ⟨e, hm, en⟩ := List.mem_map.mp hn
    have hm' : (n, e.2) ∈ fm := by rw [← en]; exact hm
    have old := (h.has n e.2).mp hm'
    refine ⟨h.nd, fun m b => ⟨fun k => (has_take hi).mpr (.inl ((h.has m b).mp k)), fun k => ?_⟩⟩
    rcases (has_take hi).mp k with k | ⟨r', h1, h2⟩
    · exact (h.has m b).mpr k
    · rw [he] at h1
      have e3 := List.append_cancel_left h1
      obtain ⟨rfl, rfl⟩ := List.cons.inj e3
      have := has_one g old.whole (here.whole)
      rw [h2, ← this]
      exact hm'
  · rw [if_neg hn]
    refine ⟨?_, fun m b => ?_⟩
    · rw [List.map_append, List.nodup_append]
      refine ⟨h.nd, by simp, fun a ha c hc => ?_⟩
      rw [List.mem_singleton.mp hc]
      rintro rfl
      exact hn ha
    · rw [List.mem_append, h.has m b, has_take hi, List.mem_singleton, Prod.mk.injEq]
      constructor
      · rintro (k | ⟨rfl, rfl⟩)
        · exact .inl k
        · exact .inr ⟨r, he, rfl⟩
      · rintro (k | ⟨r', h1, h2⟩)
        · exact .inl k
        · rw [he] at h1
          obtain ⟨rfl, rfl⟩ := List.cons.inj (List.append_cancel_left h1)
          exact .inr ⟨rfl, h2⟩
theorem addN_len (fm : Nm) (n : Str) (b : Bool) : (addN fm n b).length ≤ fm.length + 1 := by
  unfold addN
  split
  · omega
  · rw [List.length_append]
    exact Nat.le_refl _
theorem perm_lift {α β : Type} {f : α → β} : ∀ {ys : List β} {l : List α}, ys.Perm (l.map f) → ∃ zs : List α, ys = zs.map f ∧ zs.Perm l
  | [], l, h => by
    have := h.length_eq
    rw [List.length_map] at this
    exact ⟨[], rfl, by rw [List.length_eq_zero_iff.mp this.symm]⟩
  | y :: ys, l, h => by
    obtain ⟨a, ha, rfl⟩ := List.mem_map.mp (h.mem_iff.mp List.mem_cons_self)
    obtain ⟨s, t, rfl⟩ := List.append_of_mem ha
    have p1 : (f a :: ys).Perm (f a :: (s ++ t).map f) := h.trans (by
      have := (List.perm_middle (a := a) (l₁ := s) (l₂ := t)).map f
      exact this)
    obtain ⟨zs, e, pz⟩ := perm_lift p1.cons_inv
    exact ⟨a :: zs, by rw [e]; rfl, (pz.cons a).trans List.perm_middle.symm⟩
theorem nm_val {fm : Nm} (nd : (fm.map (·.1)).Nodup) : ∀ e ∈ fm, valV (nmK fm) (.inr e.1) = some (.str (ent e.1 e.2)) := by
  induction fm with
  | nil => intro e he; cases he
  | cons a r ih =>
    intro e he
    rw [List.map_cons, List.nodup_cons] at nd
    unfold valV nmK
    rw [List.map_cons, List.find?_cons]
    rcases List.mem_cons.mp he with rfl | he
    · rw [show decide ((Sum.inr e.1 : L2.Key) = .inr e.1) = true from decide_eq_true rfl]
      rfl
    · have ne : a.1 ≠ e.1 := fun q => nd.1 (q ▸ List.mem_map_of_mem he)
      rw [show decide ((Sum.inr a.1 : L2.Key) = .inr e.1) = false from decide_eq_false fun q => ne (Sum.inr.inj q)]
      exact ih nd.2 e he
def spNin : Sp := fun vs H Q _ => ∃ d fs zs q, vs = [.ref d, .str (js q)] ∧ H d = some (.dK (fsK fs)) ∧ GoodF zs fs ∧ (∀ z ∈ zs, IsNm z) ∧ fs.length ≤ 50 ∧ Nms q ∧ q.length ≤ 100 ∧
  ∀ fm : Nm, Fm fs q fm → (fm = [] → q ≠ [] → ∀ H', Same H H' → Q .non H') ∧ ((fm ≠ [] ∨ q = []) → ∀ (t : Addr) (ys : Nm) (H' : Hp), Same H H' → ys.Perm fm → sortedS (ys.map (·.1)) = true → H' t = some (.tup (ys.map fun e => .str (ent e.1 e.2))) → Q (.ref t) H')
section
variable {P : Program} {w : World} {K : PySem.W.Frag} {mg : Str → Option Value} {base : Heap}
end
end N4

set_option maxHeartbeats 3900000
namespace N4
open PySem PySem.Spec PyProof.Rows L2 TL
open C8 (pss_cut tCut pe_gc)
open CB
def oV : Option Str → V
  | some t => .str t
  | none => .non
def fOf (fs : Fs) (p : List Str) : Option Str := (fs.find? fun e => decide (e.1 = p)).map (·.2)
def sOf (ss : Ss) (n : Str) : Option Str := (ss.find? fun e => decide (e.1 = n)).map (·.2)
theorem fs_val {fs : Fs} (h : ∀ e ∈ fs, Nms e.1) {p : List Str} (hp : Nms p) : valV (fsK fs) (.inr (js p)) = (fOf fs p).map V.str := by
  induction fs with
  | nil => rfl
  | cons a r ih =>
    unfold valV fsK fOf
    rw [List.map_cons, List.find?_cons, List.find?_cons]
    have ha := h a List.mem_cons_self
    by_cases e : a.1 = p
    · rw [show decide ((Sum.inr (js a.1) : L2.Key) = .inr (js p)) = true from decide_eq_true (by rw [e]), decide_eq_true e]
      rfl
    · rw [show decide ((Sum.inr (js a.1) : L2.Key) = .inr (js p)) = false from decide_eq_false fun q => e (js_inj ha hp (Sum.inr.inj q)), decide_eq_false e]
      exact ih fun x hx => h x (List.mem_cons_of_mem _ hx)
theorem ss_val {ss : Ss} {n : Str} : valV (ssK ss) (.inr n) = (sOf ss n).map V.str := by
  induction ss with
  | nil => rfl
  | cons a r ih =>
    unfold valV ssK sOf
    rw [List.map_cons, List.find?_cons, List.find?_cons]
    by_cases e : a.1 = n
    · rw [show decide ((Sum.inr a.1 : L2.Key) = .inr n) = true from decide_eq_true (by rw [e]), decide_eq_true e]
      rfl
    · rw [show decide ((Sum.inr a.1 : L2.Key) = .inr n) = false from decide_eq_false fun q => e (Sum.inr.inj q), decide_eq_false e]
      exact ih
section
variable {H : Hp} {x d e : Addr} {z : Str}
theorem wd_f (h : H x = some (.dK [(.inr "files", .ref d), (.inr "settings", .ref e), (.inr "tool", .str z)])) : DGet H x (.str "files") (some (.ref d)) := DGet.k (k := .inr "files") h
theorem wd_s (h : H x = some (.dK [(.inr "files", .ref d), (.inr "settings", .ref e), (.inr "tool", .str z)])) : DGet H x (.str "settings") (some (.ref e)) := DGet.k (k := .inr "settings") h
theorem wd_t (h : H x = some (.dK [(.inr "files", .ref d), (.inr "settings", .ref e), (.inr "tool", .str z)])) : DGet H x (.str "tool") (some (.str z)) := DGet.k (k := .inr "tool") h
end
/-- what a look shows of a world -/
def Ans (H : Hp) (fs : Fs) (ss : Ss) (z : Str) (v : V) : Lk → Prop
  | .rd p => v = oV (fOf fs p)
  | .ls q => ∃ fm, Fm fs q fm ∧ ((fm = [] ∧ q ≠ [] ∧ v = .non) ∨ ((fm ≠ [] ∨ q = []) ∧ ∃ t ys, v = .ref t ∧ List.Perm ys fm ∧ sortedS (ys.map (·.1)) = true ∧ H t = some (.tup (ys.map fun e => .str (ent e.1 e.2)))))
  | .se n => v = oV (sOf ss n)
  | .tl => v = .str z
def LkP : Lk → Prop
  | .rd p => Nms p ∧ p.length ≤ 100
  | .ls p => Nms p ∧ p.length ≤ 100
  | .se n => IsNm n
  | .tl => True
def spShows : Sp := fun vs H Q _ => ∃ x t zs fs ss z k, vs = [.ref x, .ref t] ∧ WAt H x fs ss z ∧ H t = some (.tup (lkV k)) ∧ LkP k ∧ GoodF zs fs ∧ (∀ z ∈ zs, IsNm z) ∧ fs.length ≤ 50 ∧ ∀ v H', Same H H' → Ans H' fs ss z v k → Q v H'
section
variable {P : Program} {w : World} {K : PySem.W.Frag} {mg : Str → Option Value} {base : Heap}
end
end N4

set_option maxHeartbeats 3900000
/-! sets of texts that may be gone through: {e for ..}, sorted of one -/
namespace SX
open PySem PySem.Spec PyProof.Rows L2 PpSet
def textOf : Value → Str
  | .str x _ => x
  | _ => ""
abbrev txs (es : Array (Int × Value)) : List Str := es.toList.map fun e => textOf e.2
structure Tab (w : World) (es : Array (Int × Value)) (t : SetTable) (S : Str → Bool) (n : Nat) : Prop where
  good : ∀ e ∈ es.toList, ∃ x k, e = (keyH w (.inr x), Value.str x k)
  nd : (txs es).Nodup
  mem : ∀ x, S x = true ↔ x ∈ txs es
  small : es.size < scanBound
  fits : t.fits es.size = true
  size : es.size = n
  ris : Ris t.place.toList
  led : w.params.followText "set-order" = true ∨ t.led = true
def SetT (w : World) (h : Heap) (a : Addr) (S : Str → Bool) (n : Nat) : Prop := ∃ o es ep t, h.get? a = some o ∧ o.ExactSet ∧ o.data = .set es ep t ∧ Tab w es t S n
theorem SetT.at {w : World} {h h' : Heap} {a : Addr} {S : Str → Bool} {n : Nat} (R : SetT w h a S n) (k : ∀ o, h.get? a = some o → h'.get? a = some o) : SetT w h' a S n := by
  obtain ⟨o, es, ep, t, ho, r⟩ := R
  exact ⟨o, es, ep, t, k o ho, r⟩
section
variable {P : Program} {w : World} {es : Array (Int × Value)} {t : SetTable} {S : Str → Bool} {n : Nat}
theorem Tab.elems (T : Tab w es t S n) : ElemsOf (mixKind P w) es.toList := fun e he => by
  obtain ⟨x, k, rfl⟩ := T.good e he
  exact ⟨⟨.inr x, kV_is (k := .inr x) (u := Value.str x k) ⟨k, rfl⟩, rfl⟩, rfl⟩
theorem Tab.moved (T : Tab w es t S n) {es2 : Array (Int × Value)} {t2 : SetTable} (pm : es2.toList.Perm es.toList) (f : t2.fits es2.size = true) (r : Ris t2.place.toList) (l : t2.led = t.led) : Tab w es2 t2 S n := by
  have hs : es2.size = es.size := by rw [← Array.length_toList, pm.length_eq, Array.length_toList]
  exact ⟨fun e he => T.good e (pm.mem_iff.mp he), (pm.map _).nodup_iff.mpr T.nd, fun x => (T.mem x).trans (pm.map _).mem_iff.symm, by rw [hs]; exact T.small, f, by rw [hs]; exact T.size, r, T.led.imp id fun z => by rw [l]; exact z⟩
theorem Tab.again (T : Tab w es t S n) {x : Str} (hx : S x = true) : Tab w es t (fun j => S j || decide (j = x)) n :=
  ⟨T.good, T.nd, fun j => by
    rw [Bool.or_eq_true, decide_eq_true_eq, ← T.mem j]
    exact ⟨fun z => z.elim id fun e => e ▸ hx, .inl⟩, T.small, T.fits, T.size, T.ris, T.led⟩
theorem Tab.more (T : Tab w es t S n) {x : Str} {k : Tok} (hx : S x = false) (room : n + 1 < scanBound) {es2 : Array (Int × Value)} {t2 : SetTable} (pm : es2.toList.Perm (es.push (keyH w (.inr x), .str x k)).toList) (f : t2.fits es2.size = true) (r : Ris t2.place.toList) (l : t2.led = t.led) :
    Tab w es2 t2 (fun j => S j || decide (j = x)) (n + 1) := by
  rw [Array.toList_push] at pm
  have pc := pm.trans (List.perm_append_singleton _ _)
  have pk : (txs es2).Perm (x :: txs es) := pc.map fun e => textOf e.2
  have nx : x ∉ txs es := fun z => by
    rw [(T.mem x).mpr z] at hx
    cases hx
  have hs : es2.size = n + 1 := by rw [← Array.length_toList, pc.length_eq, List.length_cons, Array.length_toList, T.size]
  refine ⟨fun e he => ?_, pk.nodup_iff.mpr (List.nodup_cons.mpr ⟨nx, T.nd⟩), fun j => ?_, by rw [hs]; exact room, f, hs, r, T.led.imp id fun z => by rw [l]; exact z⟩
  · rcases List.mem_cons.mp (pc.mem_iff.mp he) with z | z
    · exact ⟨x, k, z⟩
    · exact T.good e z
  · rw [Bool.or_eq_true, decide_eq_true_eq, T.mem j, pk.mem_iff, List.mem_cons]
    exact Or.comm
theorem Tab.hit (T : Tab w es t S n) {e : Int × Value} (he : e ∈ es.toList) {x : Str} (h : (mixKind P w).is (.inr x) e.2 = true) : S x = true := by
  obtain ⟨y, k, rfl⟩ := T.good e he
  rcases keyIs_shape (show keyIs (.inr x) (Value.str y k) = true from h) with ⟨i, t, e1, e2⟩ | ⟨z, t, e1, e2⟩
  · cases e1
  · cases e1
    cases e2
    exact (T.mem x).mpr (List.mem_map.mpr ⟨_, he, rfl⟩)
theorem Tab.miss (T : Tab w es t S n) {x : Str} (h : List.findIdx? (fun e => (mixKind P w).is (.inr x) e.2) es.toList = none) : S x = false := by
  cases q : S x with
  | false => rfl
  | true =>
    obtain ⟨e, he, ex⟩ := List.mem_map.mp ((T.mem x).mp q)
    obtain ⟨y, k, rfl⟩ := T.good e he
    have c := List.findIdx?_eq_none_iff.mp h _ he
    have c2 : (mixKind P w).is (.inr y) (Value.str y k) = true := kV_is (k := .inr y) (u := Value.str y k) ⟨k, rfl⟩
    rw [show y = x from ex] at c c2
    rw [c2] at c
    cases c
end
section
variable {P : Program} {w : World} {A : Around} {E : Value → Shared → Prop} {s : Shared} {a : Addr} {S : Str → Bool} {n : Nat}
theorem put_at {h : Heap} {o : Obj} {es es' : Array (Int × Value)} {ep : Nat} {t t' : SetTable} (ho : h.get? a = some o) (hd : o.data = .set es ep t) : (h.update a (Obj.putSet es' t')).get? a = some { o with data := .set es' (ep + 1) t' } := storeB_at ho hd
theorem tail {g : Bool → Sem Unit} (hg : ∀ (b : Bool) (s₁ : Shared) (Q' : Unit → Shared → Prop), Q' () s₁ → wpAny (model P w) A (g b) Q' E s₁) {o : Obj} {es : Array (Int × Value)} {ep : Nat} {t : SetTable} (ho : s.heap.get? a = some o) (hex : o.ExactSet) (hd : o.data = .set es ep t)
    {es1 : Array (Int × Value)} {t2 : SetTable} (T : Tab w es1 t2 S n) {wd : Bool} {R : Option Bool → Shared → Prop} (hR : ∀ h', Heap.SameBut a s.heap h' → SetT w h' a S n → R (some true) { s with heap := h' }) :
    wpAny (model P w) A (do
      storeSet a es1 t2
      if (!wd && t2.tooFull) = true then
        (do g (relayAll t2 es1
              (SetTable.grown es1.size)).2.2
            storeSet a (relayAll t2 es1
              (SetTable.grown es1.size)).1 (relayAll t2 es1
              (SetTable.grown es1.size)).2.1
            pure (some true))
      else pure (some true)) R E s := by
  refine wpAny_bind (wpAny_storeSet_of ho hd ?_ (fits_of_scanBound T.small))
  have ho1 := put_at (es' := es1) (t' := t2) ho hd
  have sb1 := Heap.SameBut.update s.heap a (Obj.putSet es1 t2)
  split
  · have T3 := T.moved (relayAll_perm t2 es1 (SetTable.grown es1.size)) (relayAll_fits ..) (relayAll_ris ..) (relayAll_led ..)
    refine wpAny_bind (hg _ _ _ (wpAny_bind (wpAny_storeSet_of ho1 rfl ?_ (fits_of_scanBound T3.small))))
    exact wpAny_pure (hR _ (sb1.trans (Heap.SameBut.update _ a _)) ⟨_, _, _, _, put_at ho1 rfl, hex, rfl, T3⟩)
  · exact wpAny_pure (hR _ sb1 ⟨_, _, _, _, ho1, hex, rfl, T⟩)
theorem add_hashed {x : Str} {k : Tok} {Q : Bool → Shared → Prop} (R : SetT w s.heap a S n) (room : n + 1 < scanBound)
    (hQ : ∀ h', Heap.SameBut a s.heap h' → SetT w h' a (fun j => S j || decide (j = x)) (if S x = true then n else n + 1) → Q (!S x) { s with heap := h' }) : wpAny (model P w) A (setAddHashed a (.str x k) ((mixKind P w).hash (.inr x))) Q E s := by
  obtain ⟨o, es, ep, t, ho, hex, hd, T⟩ := R
  have hkey : (mixKind P w).is (.inr x) (Value.str x k) = true := kV_is (k := .inr x) (u := Value.str x k) ⟨k, rfl⟩
  have hsc : (Value.str x k).scannable = true := rfl
  have hel : ElemsOf (mixKind P w) es.toList := T.elems
  unfold setAddHashed setAddHashedIn
  refine wpAny_holding (wpAny_bind (wpAny_setState_of ho hd T.fits ?_))
  dsimp only
  rw [byScan_of hsc T.small hel]
  simp only [↓reduceIte]
  unfold setAddByScan
  refine wpAny_bind (wpAny_bind (wpAny_rule (wpAny_bind (wpAny_setScan_of hkey ho hd T.fits hel ?_))))
  cases hfi : List.findIdx? (fun e => (mixKind P w).is (.inr x) e.2) es.toList with
  | some j =>
    obtain ⟨hj, pj, _⟩ := List.findIdx?_eq_some_iff_getElem.mp hfi
    have hS := T.hit (List.getElem_mem hj) pj
    have q := hQ s.heap (Heap.SameBut.refl a s.heap) ⟨o, es, ep, t, ho, hex, hd, by rw [if_pos hS]; exact T.again hS⟩
    rw [hS] at q
    exact wpAny_pure (wpAny_pure q)
  | none =>
    have hS := T.miss hfi
    dsimp only
    have gw : ∀ (b : Bool) {s₁ : Shared} {Q' : Unit → Shared → Prop}, Q' () s₁ → wpAny (model P w) A (match b with | true => rule "set.scan.the-table-gave-way" | false => pure ()) Q' E s₁ := fun b s₁ Q' q => by
      cases b
      · exact wpAny_pure q
      · exact wpAny_rule q
    have pm := layNew_perm t es ((mixKind P w).hash (.inr x)) (.str x k)
    have f1 := layNew_fits t es ((mixKind P w).hash (.inr x)) (.str x k)
    have r1 := layNew_ris t es ((mixKind P w).hash (.inr x)) (.str x k) T.ris
    have l1 := layNew_led t es ((mixKind P w).hash (.inr x)) (.str x k)
    generalize layNew t es ((mixKind P w).hash (.inr x)) (.str x k) = Z at pm f1 r1 l1 ⊢
    obtain ⟨es1, t1, wd, gave⟩ := Z
    dsimp only at pm f1 r1 l1 ⊢
    have T1 := T.more hS room pm f1 r1 l1
    have fin : ∀ h', Heap.SameBut a s.heap h' → SetT w h' a (fun j => S j || decide (j = x)) (n + 1) → Q true { s with heap := h' } := fun h' sb r => by
      have q := hQ h' sb
      rw [hS] at q
      exact q r
    refine wpAny_bind (gw _ ?_)
    have gg : ∀ (b : Bool) (s₁ : Shared) (Q' : Unit → Shared → Prop), Q' () s₁ → wpAny (model P w) A (match b with | true => rule "set.scan.the-table-gave-way" | false => pure ()) Q' E s₁ := fun b s₁ Q' q => gw b q
    split
    · refine wpAny_bind ?_
      rw [hashByValue_scannable 8 hsc]
      refine wpAny_pure ?_
      refine tail gg ho hex hd (S := fun j => S j || decide (j = x)) (n := n + 1) ?_ fun h' sb r => wpAny_pure (fin h' sb r)
      split
      · exact T1
      · exact T1.moved (List.Perm.refl _) (SetTable.fits_plain_off f1) r1 rfl
    · refine wpAny_bind (wpAny_pure ?_)
      simp only [↓reduceIte]
      exact tail gg ho hex hd (S := fun j => S j || decide (j = x)) (n := n + 1) T1 fun h' sb r => wpAny_pure (fin h' sb r)
/-- found.add(x) -/
theorem add {x : Str} {k : Tok} {Q : Value → Shared → Prop} (R : SetT w s.heap a S n) (room : n + 1 < scanBound)
    (hQ : ∀ h', Heap.SameBut a s.heap h' → SetT w h' a (fun j => S j || decide (j = x)) (if S x = true then n else n + 1) → Q .none { s with heap := h', toks := s.toks + 1 }) :
    wpAny (model P w) A (call (.builtin "set.add") [.ref a, .str x k]) Q E s := by
  have hT : s.TypeIs (.ref a) "set" := by
    obtain ⟨o, es, ep, t, ho, hex, _⟩ := R
    exact ⟨o, ho, hex.1⟩
  refine wpAny_call_entry F.slot_set_add hT F.entry_set_add ?_ (F.args_set_add_2 _ _)
  unfold Builtin.«set.add» Builtin.Frozenset.oneOther
  simp only [List.isEmpty_nil, bind_assoc]
  unfold Builtin.Frozenset.addrOf setAdd
  refine wpAny_bind (wpAny_pure ?_)
  try dsimp only
  refine wpAny_bind (wpAny_pure ?_)
  try dsimp only
  refine wpAny_bind (wpAny_holding (wpAny_bind ((mixKind P w).pyHash (kV_is (k := .inr x) (u := Value.str x k) ⟨k, rfl⟩) ?_)))
  refine add_hashed (s := { s with toks := s.toks + 1 }) R room fun h' sb r => ?_
  show wpAny _ _ (ret Value.none) _ _ _
  exact wpAny_pure ⟨_, rfl, hQ h' sb r⟩
theorem fresh {h : Heap} (w : World) : SetT w (h.push { cls := .type "set", dict := none, data := .set #[] 0 (.fresh 0 0 (!w.params.followText "set-order")) }) h.objs.size (fun _ => false) 0 := by
  refine ⟨_, #[], 0, _, Heap.get?_push_size _ rfl, ⟨rfl, rfl, rfl⟩, rfl, (fun e he => by simp at he), by simp [txs], (fun k => by simp [txs]), by decide, by rfl, rfl, List.Pairwise.nil, ?_⟩
  show _ ∨ (!w.params.followText "set-order") = true
  cases w.params.followText "set-order"
  · exact .inr rfl
  · exact .inl rfl
end
/-- the set of texts at a, as a tracked thing -/
def SetTO (w : World) (a : Addr) (S : Str → Bool) (n : Nat) : HO := .ext fun h => SetT w h a S n
theorem new_ok {w : World} {P : Program} {H : Hp} {h : Heap} {a : Addr} {S : Str → Bool} {n : Nat} (R : SetT w h a S n) : ObjOk P w H h a (SetTO w a S n) := by
  have ⟨o, _, _, _, ho, _⟩ := R
  exact ⟨R, ⟨o, ho⟩, fun h1 h2 p k => SetT.at p k⟩
section
variable {X : Cx} {pins : List (Addr × Obj)} {σ : L2.St} {H : Hp} {s : Shared} {a : Addr} {S : Str → Bool} {n : Nat}
theorem get (I : Inv X pins σ H s) (ha : H a = some (SetTO X.w a S n)) : SetT X.w s.heap a S n := (I.hok a _ ha).1
theorem add_in {E : Value → Shared → Prop} {x : Str} {k : Tok} {Q : Value → Shared → Prop} (I : Inv X pins σ H s) (hD : H a = some (SetTO X.w a S n)) (room : n + 1 < scanBound)
    (h : ∀ s', Inv X pins σ (upd H a (SetTO X.w a (fun j => S j || decide (j = x)) (if S x = true then n else n + 1))) s' → Q .none s') : wpAny (model X.prog X.w) X.A (call (.builtin "set.add") [.ref a, .str x k]) Q E s := by
  refine add (get I hD) room fun h' sb new => ?_
  have he : ∃ u, h'.get? a = some u := by
    have ⟨o, _, _, _, ho, _⟩ := new
    exact ⟨o, ho⟩
  exact h _ (I.write (e := a) (t' := s.toks + 1) (by rw [hD]; trivial) (.inl rfl) (fun b u hb hu => (sb.2 b hb).trans hu) he (new_ok new))
end
theorem strs_of : ∀ (l : List Value), (∀ v ∈ l, ∃ x k, v = Value.str x k) → StrsAre l (l.map textOf)
  | [], _ => .nil
  | v :: r, h => by
    obtain ⟨x, k, rfl⟩ := h v List.mem_cons_self
    exact .cons _ _ (strs_of r fun u hu => h u (List.mem_cons_of_mem _ hu))
/-- sorted of a set of fewer than 64 texts -/
def rSortT (w : World) : List V → Hp → VK → Prop := fun vs H Q => ∃ (a : Addr) (S : Str → Bool) (n : Nat), vs = [V.ref a] ∧ H a = some (SetTO w a S n) ∧ n < 64 ∧
  ∀ (ys : List Str) (p : Addr), (∀ x, x ∈ ys ↔ S x = true) → ys.Nodup → ys.length = n → sortedS ys = true → H p = none → Q (.ref p) (upd H p (.lst (ys.map V.str)))
section
variable {X : Cx}
theorem cr_sortT (hc : X.calm = true) : CallR X (.builtin "sorted") (rSortT X.w) := by
  intro pins s σ H vs us Q I r h
  obtain ⟨a, S, n, rfl, ha, h64, q⟩ := h
  obtain ⟨o, es, ep, t, ho, hex, hd, T⟩ := get I ha
  rw [Vals.ref1 r]
  refine Calls.call_function_entry kind_sorted plain_sorted entry_sorted (args_sorted1 _) ?_
  unfold Builtin.«sorted»
  refine wpAny_bind (m := checkCount "sorted" 1 1 _) (wpAny_pure (wpAny_bind ?_))
  refine collect_set (A := X.A.in1) (I.ok.hd hc) ⟨o, ho, hex.1, hd⟩ T.fits T.small T.ris T.led fun s1 out k1 hz g1 o1 pm => ?_
  have ol : out.length = n := by rw [pm.length_eq, List.length_map, Array.length_toList, T.size]
  have hS : StrsAre out (out.map textOf) := strs_of out fun v hv => by
    obtain ⟨e, he, rfl⟩ := List.mem_map.mp (pm.mem_iff.mp hv)
    obtain ⟨x, k, rfl⟩ := T.good e he
    exact ⟨x, k, rfl⟩
  have pt : (out.map textOf).Perm (txs es) := by
    have z := pm.map textOf
    rw [List.map_map] at z
    exact z
  have I1 : Inv X pins σ H s1 := I.call' (ch := []) o1 (Un.kept k1) (I.hok.kept k1) (by rw [g1]; exact I.bare) (fun _ z => nomatch z)
  refine wpAny_bind (wpAny_newList ?_ (by rw [ol, sizeLine_eq]; omega))
  have hoL : (s1.heap.push (seqObj "list" out.toArray 0)).get? s1.heap.objs.size = some (seqObj "list" out.toArray 0) := Heap.get?_push_size _ rfl
  show wpAny _ _ _ _ _ { s1 with heap := s1.heap.push (seqObj "list" out.toArray 0) }
  refine wpAny_bind (wpAny_holding (wpAny_call_entry slot_list_sort ⟨_, hoL, rfl⟩ entry_list_sort ?_ (args_list_sort _)))
  refine list_sort_treeK strKind_oneLt (s := { s1 with heap := s1.heap.push (seqObj "list" out.toArray 0) }) hoL hS.keysOf (fun v₁ v₂ rest e => keyKind_strs (by rw [← e]; exact hS)) (by rw [ol]; exact h64) fun st' hp hs => ⟨_, rfl, ?_⟩
  obtain ⟨ys, e1, e2, e3⟩ := sorted_out_str hS hp hs
  obtain ⟨e', he'⟩ := sortedHeap_at (vs := out) (out := (arrOf st').map (·.2)) hoL
  have yl : ys.length = n := by rw [e2.length_eq, List.length_map, ol]
  have hlen : (ys.map V.str).length ≤ sizeLine := by
    rw [List.length_map, yl]
    exact Nat.le_trans (Nat.le_of_lt h64) (by decide)
  have pp := e2.trans pt
  refine wpAny_pure ⟨_, rfl, .ref s1.heap.objs.size, upd H s1.heap.objs.size (.lst (ys.map V.str)), I1.laid (t' := s1.toks) (fun b u e => ?_) (Nat.le_refl _) ?_, rfl, ?_⟩
  · have hb : b < s1.heap.objs.size := Heap.lt_size e
    rw [sortedHeap_old (Nat.ne_of_lt hb) (by rw [size_push']; exact Nat.lt_succ_of_lt hb)]
    exact Heap.get?_push_of_some _ e
  · show ObjOk X.prog X.w _ _ _ (.lst (ys.map V.str))
    exact ⟨hlen, ((arrOf st').map (·.2)).toList, e', vals_of_strs e1, by rw [Array.toArray_toList]; exact he'⟩
  · exact q ys _ (fun x => by rw [pp.mem_iff, ← T.mem x]) (pp.nodup_iff.mpr T.nd) yl e3 (I1.hok.fresh (Nat.le_refl _))
end
end SX

set_option maxHeartbeats 3900000
/-! {e for t in it if ..}, e a text -/
namespace SX
open PySem PySem.Spec PyProof.Rows L2 PpSet
/-- the context of a block of its own -/
abbrev BX (X : Cx) (scope : Scope) (s : Shared) (H : Hp) (C : Addr) (cl : List (PySem.Str × Addr)) (fp : List Addr) : Cx := X.blk s H scope (compEnvC scope cl C X.env) fp
/-- one more text in the set at D -/
def plus (w : World) (D : Addr) (Nx : Hp → Prop) : VK := fun y H => ∃ (x : Str) (S : Str → Bool) (n : Nat), y = .str x ∧ H D = some (SetTO w D S n) ∧ n + 1 < scanBound ∧ Nx (upd H D (SetTO w D (fun j => S j || decide (j = x)) (if S x = true then n else n + 1)))
def tScT (w : World) (wi : TI) (g : TG) (tt : TT) (te : TE) (own : List Nat) : TE := fun σ H Q => wi σ H fun J H1 => ∀ D, H1 D = none →
  ∃ W : Nat → Nat → Hp → Prop, (∃ m, W 0 m (upd H1 D (SetTO w D (fun _ => false) 0))) ∧ ∀ i m H, W i m H →
    (J.stop i H ∧ Q (.ref D) H) ∨ (J.go i H ∧ ∃ Nx : Hp → Prop, (∀ H', Nx H' → ∃ m', m' < m ∧ W (i + 1) m' H') ∧
      ∀ x H', J.yld i H x H' → g x (wipe σ own) H' fun σ2 H2 => wipe σ2 own = wipe σ own ∧ tt σ2 H2 fun b H3 => if b = true then te σ2 H3 (plus w D Nx) else Nx H3)
section
variable {X : Cx} {elt tg iter : Expr} {ifs : List Expr} {scope : Scope} {own : List (PySem.Str × Nat)} {pos : Pos} {wi : TI} {g : TG} {tt : TT} {te : TE}
theorem pe_scT (hc : X.calm = true) (hN : X.N.Nodup) (hi : PI X tg iter wi) (ok : BlkOk X.N X.env.scope scope own) (hg : ∀ s H C cl fp, PG (BX X scope s H C cl fp) tg g) (ht : ∀ s H C cl fp, PTs (BX X scope s H C cl fp) ifs tt) (he : ∀ s H C cl fp, PE (BX X scope s H C cl fp) elt te)
    (hs : ∀ x, foldedSetIterable iter X.env x = pure x := by intro _; rfl) : PE X (.SetComp elt [⟨tg, iter, ifs, 0⟩] scope pos) (tScT X.w wi g tt te (own.map (·.2))) := by
  refine ⟨fun pins s σ H Q I h => ?_⟩
  rw [eval_SetComp]
  have frees : ∀ y ∈ scope.names, y.2 = .free → ∃ c, X.env.cells.lookup y.1 = some c := fun y hy e => (ok.free y hy e).elim (fun k => I.ok.has _ (.inl k)) fun k => I.ok.has _ (.inr k)
  refine wpAny_comprehension_free (use := none) rfl hs (closure_ok frees) ok.kind (fun y hy e => by rw [ok.uniq y hy, e]) (thn (hi.run pins s σ H _ I h) fun xv sA hx => thn hx fun itv sB hB => ?_)
  obtain ⟨it, fp, tn, J, HB, rfl, IB, T, stB, fB, q⟩ := hB
  refine newSet_ok (newEnv_comp ?_)
  obtain ⟨D, hD⟩ : ∃ D, sB.heap.objs.size = D := ⟨_, rfl⟩
  have nD : HB D = none := IB.hok.fresh (Nat.le_of_eq hD)
  obtain ⟨W, ⟨m0, w0⟩, turn⟩ := q D nD
  generalize hC : ({ sB with heap := sB.heap.push { cls := .type "set", dict := none, data := .set #[] 0 (.fresh 0 0 (!X.w.params.followText "set-order")) } } : Shared) = sC
  have heapC : sC.heap = sB.heap.push { cls := .type "set", dict := none, data := .set #[] 0 (.fresh 0 0 (!X.w.params.followText "set-order")) } := by rw [← hC]
  have IC : Inv X pins σ (upd HB D (SetTO X.w D (fun _ => false) 0)) sC := by
    rw [← hC]
    refine IB.laid (t' := sB.toks) (fun b o e => Heap.get?_push_of_some _ e) (Nat.le_of_eq hD) ?_
    rw [← hD]
    exact new_ok (fresh X.w)
  have old : ∀ b ∈ fp, b < sB.heap.objs.size := fun b hb => Heap.lt_size (T.obj _ _ stB b hb).choose_spec.1
  have fC : ∀ b ∈ fp, FpOk X pins (upd HB D (SetTO X.w D (fun _ => false) 0)) b ∧ b < sC.heap.objs.size := fun b hb => by
    have lt := old b hb
    refine ⟨⟨?_, (fB b hb).2⟩, by rw [heapC, Heap.size_push]; exact Nat.lt_succ_of_lt lt⟩
    rw [upd_ne (by rw [← hD]; exact Nat.ne_of_lt lt)]
    exact (fB b hb).1
  have stC : tn 0 sC.heap := T.keep _ _ _ stB fun b _ o e => by rw [heapC]; exact Heap.get?_push_of_some _ e
  have I4 := block_start IC ok hN fC
  generalize upd HB D (SetTO X.w D (fun _ => false) 0) = HC at IC I4 w0 fC
  generalize hcl : cellsFrom (sC.heap.objs.size + 1) scope.names (cloFrom X.env.cells scope.names []) = cl at I4
  have pg : PG (X.blk sC HC scope (compEnvC scope cl sC.heap.objs.size X.env) fp) tg g := hg sC HC sC.heap.objs.size cl fp
  have pt : PTs (X.blk sC HC scope (compEnvC scope cl sC.heap.objs.size X.env) fp) ifs tt := ht sC HC sC.heap.objs.size cl fp
  have pe : PE (X.blk sC HC scope (compEnvC scope cl sC.heap.objs.size X.env) fp) elt te := he sC HC sC.heap.objs.size cl fp
  have nfp : ∀ b ∈ fp, HC b = none := fun b hb => (fC b hb).1.1
  have home : ∀ s' m H', Inv X pins σ H' s' → Q (.ref D) H' → s'.heap.Ns sC.heap.objs.size m → FpOk X pins H' sC.heap.objs.size → compPost (model X.prog X.w) X.A X.xe none (EP X pins σ Q) (.ref D) sC.heap.objs.size (.ok .next) s' := fun s' m H' I' q' hn f => by
    refine ⟨m, hn, fun h'' sb => ?_⟩
    obtain ⟨f0, f1, f2, f3, f4, f5⟩ := f
    exact ⟨.ref D, H', I'.turned (t' := s'.toks) (fun b o hb e => (sb.2 b hb).trans e) f0 f1 f3 f4 f5, rfl, q'⟩
  show codeAny _ _ (.compStart _ 0 (.ref it) (.ref sB.heap.objs.size) (compEnvC scope cl sC.heap.objs.size X.env)) (compPost _ _ _ none _ (.ref sB.heap.objs.size) sC.heap.objs.size) _
  rw [hD]
  have cL : (compEnvC scope cl sC.heap.objs.size X.env).locals = sC.heap.objs.size := rfl
  generalize compEnvC scope cl sC.heap.objs.size X.env = ce at I4 pg pt pe cL ⊢
  generalize hE : ({ sC with heap := pushCells (sC.heap.push { cls := .type "dict", data := .dict #[] }) scope.names } : Shared) = sE at I4 ⊢
  have stE : tn 0 sE.heap := T.keep _ _ _ stC fun b _ o e => by rw [← hE]; exact pushCells_keeps _ _ _ _ (Heap.get?_push_of_some _ e)
  have stays : ∀ {σ' : L2.St} {H' : Hp} {s' : Shared}, Inv (X.blk sC HC scope ce fp) [] σ' H' s' → (∀ b ∈ fp, H' b = none) → ∀ b ∈ fp, FpOk (X.blk sC HC scope ce fp) [] H' b := fun {σ' H' s'} I' hn b hb =>
    ⟨hn b hb, (I'.ok.exf b hb).1, I'.ok.exfs b hb, .inl hb, fun x c e => (I'.ok.exf b hb).2 x c e, fun p hp => by cases hp⟩
  have loop : codeAny (model X.prog X.w) X.A (.compLoop (.SetComp elt [⟨tg, iter, ifs, 0⟩] scope pos) 0 (.ref it) (.ref D) ce) (compPost (model X.prog X.w) X.A X.xe none (EP X pins σ Q) (.ref D) sC.heap.objs.size) sE := by
    refine compLoopS_any (fun n s' => ∃ i H', Inv (X.blk sC HC scope ce fp) [] (wipe σ (own.map (·.2))) H' s' ∧ tn i s'.heap ∧ (∀ b ∈ fp, H' b = none) ∧ W i n H') ?_ m0 ⟨0, HC, I4, stE, nfp, w0⟩
    rintro n s5 ⟨i, H5, I5, st5, n5, w5⟩
    rcases turn i n H5 w5 with ⟨stop, qq⟩ | ⟨go, Nx, hNx, step⟩
    · refine thnF (T.done (X.blk sC HC scope ce fp) rfl rfl rfl hc i [] s5 _ H5 (fun _ _ => False) I5 (stays I5 n5) st5 stop) fun r s6 ⟨hr, I6⟩ => ?_
      subst hr
      obtain ⟨m, hn, _⟩ := I6.loc
      have hn : s6.heap.Ns ce.locals m := hn
      have nC : H5 ce.locals = none := I6.free
      rw [cL] at hn nC
      exact home s6 m H5 (IC.call' (ch := fp) I6.os I6.base I6.hok I6.bare fun b hb => let f := (fC b hb).1; ⟨f.2.2.2.1, f.2.1, f.2.2.2.2.1, f.2.2.2.2.2⟩) qq hn (IC.fpOk (Nat.le_refl _) nC)
    · refine thnF (T.item (X.blk sC HC scope ce fp) rfl rfl rfl hc i [] s5 _ H5 (fun _ _ => False) I5 (stays I5 n5) st5 go) fun r s6 ⟨u, hr, h6⟩ => ?_
      subst hr
      refine thnF h6 fun _ s7 ⟨x, H7, I7, r7, y7, st7, n7⟩ => ?_
      refine thnF (pg.run _ s7 _ H7 x u _ (I7.pinned (stays I7 n7) (T.obj _ _ st7)) r7 (step x H7 y7)) fun _ s8 ⟨σ8, H8, I8, hw8, q8⟩ => ?_
      refine thnF (pt.run _ s8 σ8 H8 _ I8 q8) fun b s9 ⟨H9, I9, q9⟩ => ?_
      have close : ∀ {s' : Shared} {H' : Hp}, Inv (X.blk sC HC scope ce fp) ([] ++ pinsAt fp s7.heap) σ8 H' s' → Nx H' → ∃ m, m < n ∧ ∃ i H', Inv (X.blk sC HC scope ce fp) [] (wipe σ (own.map (·.2))) H' s' ∧ tn i s'.heap ∧ (∀ b ∈ fp, H' b = none) ∧ W i m H' := fun {s' H'} I' nx => by
        obtain ⟨m', hm, w'⟩ := hNx H' nx
        have pinned : ∀ b ∈ fp, ∀ o, s7.heap.get? b = some o → s'.heap.get? b = some o ∧ H' b = none := fun b hb o e => by
          have z := I'.pin (b, o) (List.mem_append_right _ (List.mem_append_right _ (mem_pinsAt hb e)))
          exact ⟨z.1, z.2.1⟩
        refine ⟨m', hm, i + 1, H', (I'.unpinned (pins := [])).weak (by rw [← hw8, wipe_length]) (fun j v e => ?_), T.keep _ _ _ st7 fun b hb o e => (pinned b hb o e).1, fun b hb => ?_, w'⟩
        · rw [← hw8] at e
          exact (wipe_some e).1
        · obtain ⟨o, e, _⟩ := T.obj _ _ st7 b hb
          exact (pinned b hb o e).2
      cases b with
      | false => exact close I9 q9
      | true =>
        refine thnF (pe.run _ s9 σ8 H9 _ I9 q9) fun z s10 ⟨yv, H10, I10, r10, y, S0, n0, ey, hD10, hz10, nx⟩ => ?_
        subst ey
        obtain ⟨tk, rfl⟩ : ∃ t, z = Value.str y t := r10
        exact add_in (X := X.blk sC HC scope ce fp) I10 hD10 hz10 fun s11 I11 => close I11 nx
  exact codeAny_compStart_set loop (T.self X.A 0 _ _ _ stE loop)
end
end SX

set_option maxHeartbeats 3900000
namespace N4
open PySem PySem.Spec PyProof.Rows L2 TL
open C8 (pss_cut tCut pe_gc)
open CB
abbrev sListing : Stmt := top 26
abbrev sEntryOf : Stmt := top 27
def spEntryOf : Sp := fun vs H Q _ => ∃ n r, vs = [.str (js (n :: r))] ∧ Nms (n :: r) ∧ r.length ≤ 100 ∧ ∀ H', Same H H' → Q (.str (ent n (decide (r ≠ [])))) H'
section
variable {P : Program} {w : World} {K : PySem.W.Frag} {mg : Str → Option Value} {base : Heap}
theorem scEntryOf : FnScope ["rest", "parts"] ["rest"] (defScope sEntryOf) := ⟨rfl, rfl, rfl, by decide +kernel, rfl, by decide +kernel, by decide +kernel⟩
theorem ok_entryOf {f : Addr} {fd : FuncData} (F : Fun K "entry_of" "entry_of" sEntryOf f fd) (T0 : TPk mg) : FnOk P w K mg base CX0 1 f fd ["rest"] spEntryOf := by
  refine F.ok scEntryOf (fun vs H Q E h => ?_) (fun cdv A outer s H vs Q E hr h => ?_)
  · obtain ⟨n, r, rfl, _⟩ := h
    rfl
  · obtain ⟨n, r, rfl, nr, rl, k⟩ := h
    have T := T0.b
    obtain ⟨_, mSTROKE⟩ := T0.STROKE
    refine ⟨_, pss_cons (ps_set (i := 1) scEntryOf.nd rfl (Or.inl rfl) (pe_bm PySem.F.plainAttrs_str PySem.F.slot_str_partition PySem.F.type_str_partition mt_partition (pv 0) (pa_cons (pe_glob (v := .str "/") rfl mSTROKE ⟨_, rfl⟩) pa_nil)))
            (pss_one (ps_ret (pe_op op_add_str (pe_ix ix_tup (pv 1) pe_int (fun _ _ => rfl)) (pe_ix ix_tup (pv 1) pe_int (fun _ _ => rfl))))), ?_⟩
    have nl := js_len nr
    have big : ∀ m : Nat, m ≤ 2000 → m ≤ sizeLine := fun m hm => Nat.le_trans hm (by decide)
    have hn := nr n List.mem_cons_self
    have h8 := hn.2.1
    have e1 : ("/" : Str).length = 1 := by decide +kernel
    rw [List.length_cons] at nl
    refine ⟨_, rfl, rfl, js (n :: r), "/", rfl, rfl, rfl, big _ (by omega), fun p hp => ?_⟩
    have s1 := same_mk (o := .tup [.str (Txt.partition (js (n :: r)) "/").1, .str (Txt.partition (js (n :: r)) "/").2.1, .str (Txt.partition (js (n :: r)) "/").2.2]) hp
    refine ⟨_, rfl, p, _, ((0 : Nat) : Int), _, rfl, rfl, SqT.of upd_same, atI_nat rfl, _, rfl, p, _, ((1 : Nat) : Int), _, rfl, rfl, SqT.of upd_same, atI_nat rfl, _, _, rfl, rfl, ?_, ?_⟩
    · rw [part_js hn]
      by_cases hr0 : r = []
      · rw [if_pos hr0]
        exact big _ (show n.length + 0 ≤ 2000 by omega)
      · rw [if_neg hr0]
        exact big _ (show n.length + ("/" : Str).length ≤ 2000 by omega)
    · have q := k _ s1
      rw [show (Txt.partition (js (n :: r)) "/").1 ++ (Txt.partition (js (n :: r)) "/").2.1 = ent n (decide (r ≠ [])) from ?_]
      · exact q
      · rw [part_js hn]
        unfold ent
        by_cases hr0 : r = []
        · rw [if_pos hr0, if_neg (fun z => (of_decide_eq_true z) hr0)]
          exact ext_tl (by rw [tl_append]; exact List.append_nil _)
        · rw [if_neg hr0, if_pos (decide_eq_true hr0)]
end
end N4

set_option maxHeartbeats 3900000
namespace N4
open PySem PySem.Spec PyProof.Rows L2 TL
open C8 (pss_cut tCut pe_gc)
open CB
section
variable {α : Type} {J : It} {n : Nat} {G : Hp → Prop} {Y : Nat → Hp → V → Hp → Prop} {tt : TT} {te : TE} {σ : L2.St} {H1 : Hp} {D : Addr} {Qd : Hp → Prop} {j : Nat}
/-- [g z for z in zs if f z] -/
theorem lcFM (w : Walk J n G Y) (zs : List α) (u g : α → V) (f : α → Bool) (hn : zs.length = n) (hs : n < 1000000) (hY : ∀ i H x H', Y i H x H' → H' = H ∧ (zs.map u)[i]? = some x) (hD : H1 D = none) (hG : ∀ H', Same H1 H' → G H')
    (test : ∀ z ∈ zs, ∀ (H2 : Hp), Same H1 H2 → ∀ Q1 : Bool → Hp → Prop, (∀ H3, Same H2 H3 → Q1 (f z) H3) → tt ((wipe σ [j]).set j (some (u z))) H2 Q1)
    (elt : ∀ z ∈ zs, f z = true → ∀ (H2 : Hp), Same H1 H2 → ∀ Q1 : VK, (∀ H3, Same H2 H3 → Q1 (g z) H3) → te ((wipe σ [j]).set j (some (u z))) H2 Q1)
    (hd : ∀ H', Same H1 H' → H' D = some (.lst ((zs.filter f).map g)) → Qd H') :
    ∃ W : Nat → Nat → Hp → Prop, (∃ m, W 0 m (upd H1 D (.lst []))) ∧ ∀ i m H, W i m H →
      (J.stop i H ∧ Qd H) ∨ (J.go i H ∧ ∃ Nx : Hp → Prop, (∀ H', Nx H' → ∃ m', m' < m ∧ W (i + 1) m' H') ∧ ∀ x H', J.yld i H x H' → gName j x (wipe σ [j]) H' fun σ2 H2 => wipe σ2 [j] = wipe σ [j] ∧ tt σ2 H2 fun b H3 =>
        if b = true then te σ2 H3 fun y H4 => ∃ acc, H4 D = some (.lst acc) ∧ acc.length < sizeLine ∧ Nx (upd H4 D (.lst (acc ++ [y]))) else Nx H3) := by
  subst hn
  refine lc_it w (fun i H' => Same H1 H' ∧ H' D = some (.lst (((zs.take i).filter f).map g))) ⟨same_mk hD, upd_same⟩ (fun i H' _ q => hG H' q.1) ?_ ?_
  · rintro i x H2 H3 hi ⟨s2, hd2⟩ y
    obtain ⟨rfl, hx⟩ := hY i H2 x H3 y
    rw [List.getElem?_map, List.getElem?_eq_getElem hi] at hx
    cases hx
    have hm : zs[i] ∈ zs := List.getElem_mem hi
    have tk : zs.take (i + 1) = zs.take i ++ [zs[i]] := by
      rw [List.take_succ, List.getElem?_eq_getElem hi]
      rfl
    refine ⟨wipe1 _, test zs[i] hm _ s2 _ fun H4 s4 => ?_⟩
    cases hf : f zs[i] with
    | true =>
      refine iteT (elt _ hm hf _ (s2.trans s4) _ fun H5 s5 => ⟨_, s5 _ _ (s4 _ _ hd2), ?_, same_ch ((s2.trans s4).trans s5) hD, ?_⟩)
      · rw [List.length_map]
        have h1 := List.length_filter_le f (zs.take i)
        rw [List.length_take] at h1
        exact Nat.lt_of_lt_of_le (show _ < 1000000 by omega) (by decide)
      · rw [upd_same, tk, List.filter_append, List.filter_cons_of_pos hf, List.filter_nil, List.map_append]
        rfl
    | false =>
      refine iteF ⟨s2.trans s4, ?_⟩
      rw [tk, List.filter_append, List.filter_cons_of_neg (by rw [hf]; decide), List.filter_nil, List.append_nil]
      exact s4 _ _ hd2
  · rintro H' ⟨s, h⟩
    rw [List.take_length] at h
    exact hd H' s h
/-- {g z for z in zs} -/
theorem scW {w : World} (wk : Walk J n G Y) (zs : List α) (u : α → V) (g : α → Str) (hn : zs.length = n) (hs : n < 60) (hY : ∀ i H x H', Y i H x H' → H' = H ∧ (zs.map u)[i]? = some x) (hD : H1 D = none) (hG : ∀ H', Same H1 H' → G H')
    (elt : ∀ z ∈ zs, ∀ (H2 : Hp), Same H1 H2 → ∀ Q1 : VK, (∀ H3, Same H2 H3 → Q1 (.str (g z)) H3) → te ((wipe σ [j]).set j (some (u z))) H2 Q1)
    (hd : ∀ H' (m : Nat), Same H1 H' → m ≤ zs.length → H' D = some (SX.SetTO w D (fun x => decide (x ∈ zs.map g)) m) → Qd H') :
    ∃ W : Nat → Nat → Hp → Prop, (∃ m, W 0 m (upd H1 D (SX.SetTO w D (fun _ => false) 0))) ∧ ∀ i m H, W i m H →
      (J.stop i H ∧ Qd H) ∨ (J.go i H ∧ ∃ Nx : Hp → Prop, (∀ H', Nx H' → ∃ m', m' < m ∧ W (i + 1) m' H') ∧
        ∀ x H', J.yld i H x H' → gName j x (wipe σ [j]) H' fun σ2 H2 => wipe σ2 [j] = wipe σ [j] ∧ tYes σ2 H2 fun b H3 => if b = true then te σ2 H3 (SX.plus w D Nx) else Nx H3) := by
  subst hn
  refine ⟨fun i m H => m = zs.length - i ∧ i ≤ zs.length ∧ Same H1 H ∧ ∃ k ≤ i, H D = some (SX.SetTO w D (fun x => decide (x ∈ (zs.take i).map g)) k), ⟨zs.length, by simp, Nat.zero_le _, same_mk hD, 0, Nat.le_refl _, by rw [upd_same]; congr 2⟩, ?_⟩
  rintro i m H ⟨rfl, hi, s2, k, hk, hset⟩
  by_cases hlt : i < zs.length
  · refine .inr ⟨wk.goes i H hlt (hG H s2), fun H' => Same H1 H' ∧ ∃ k ≤ i + 1, H' D = some (SX.SetTO w D (fun x => decide (x ∈ (zs.take (i + 1)).map g)) k), fun H' p => ⟨zs.length - (i + 1), by omega, rfl, hlt, p⟩, fun x H' y => ?_⟩
    obtain ⟨rfl, hx⟩ := hY i H x H' (wk.yields i H x H' hlt (hG H s2) y)
    rw [List.getElem?_map, List.getElem?_eq_getElem hlt] at hx
    cases hx
    have tk : zs.take (i + 1) = zs.take i ++ [zs[i]] := by
      rw [List.take_succ, List.getElem?_eq_getElem hlt]
      rfl
    refine ⟨wipe1 _, ?_⟩
    dsimp only [tYes]
    rw [if_pos rfl]
    refine elt zs[i] (List.getElem_mem hlt) _ s2 _ fun H3 s3 => ⟨g zs[i], _, k, rfl, s3 _ _ hset, Nat.lt_of_le_of_lt (show k + 1 ≤ 60 by omega) (by decide), same_ch (s2.trans s3) hD, (if decide (g zs[i] ∈ (zs.take i).map g) = true then k else k + 1), by split <;> omega, ?_⟩
    rw [upd_same]
    congr 2
    funext x
    rw [tk, List.map_append, Bool.eq_iff_iff, Bool.or_eq_true, decide_eq_true_iff, decide_eq_true_iff, decide_eq_true_iff, List.mem_append]
    exact ⟨fun z => z.imp id fun e => by rw [e]; exact List.mem_singleton.mpr rfl, fun z => z.imp id fun e => List.mem_singleton.mp e⟩
  · have e : i = zs.length := by omega
    subst e
    rw [List.take_length] at hset
    exact .inl ⟨wk.stops H (hG H s2), hd H k s2 hk hset⟩
end
end N4

set_option maxHeartbeats 3900000
namespace N4
open PySem PySem.Spec PyProof.Rows L2 TL
open C8 (pss_cut tCut pe_gc)
open CB
theorem sw_file {p q : List Str} (hp : Nms p) (hq : Nms q) (h : p ≠ []) : Txt.startswith (js p) (begS (js q)) = ben p q := by
  rw [begS_js hq]
  by_cases q0 : q = []
  · subst q0
    rw [show bg [] = "" from rfl, sw_pre, show tl ("" : Str) = [] from rfl]
    exact (ben_iff.mpr ⟨p, h, (List.nil_append p).symm⟩).symm
  · rw [show bg q = js q ++ "/" from if_neg q0]
    exact sw_js hp hq q0
/-- names before names, with what stands behind them -/
theorem lt_ent : ∀ {a b : List Nat} (s t : List Nat), (∀ c ∈ b, 47 < c) → (s = [] ∨ s = [47]) → ltCps a b = true → ltCps (a ++ s) (b ++ t) = true
  | [], [], s, t, _, _, h => by cases h
  | [], y :: b, s, t, hb, hs, _ => by
    rcases hs with rfl | rfl
    · rfl
    · show (decide (47 < y) || _) = true
      rw [decide_eq_true (hb y List.mem_cons_self)]
      rfl
  | x :: a, [], s, t, _, _, h => by cases h
  | x :: a, y :: b, s, t, hb, hs, h => by
    have h : (decide (x < y) || (x == y && ltCps a b)) = true := h
    show (decide (x < y) || (x == y && ltCps (a ++ s) (b ++ t))) = true
    rw [Bool.or_eq_true, Bool.and_eq_true] at h ⊢
    rcases h with h | ⟨h1, h2⟩
    · exact .inl h
    · exact .inr ⟨h1, lt_ent s t (fun c hc => hb c (List.mem_cons_of_mem _ hc)) hs h2⟩
theorem rising_names : ∀ (zs : Nm) (a : Str × Bool), IsNm a.1 → (∀ e ∈ zs, IsNm e.1) → risingS (ent a.1 a.2) (zs.map fun e => ent e.1 e.2) = true → risingS a.1 (zs.map (·.1)) = true
  | [], _, _, _, _ => rfl
  | b :: r, a, ha, hz, h => by
    have h : (!ltCps (tl (ent b.1 b.2)) (tl (ent a.1 a.2)) && risingS (ent b.1 b.2) (r.map fun e => ent e.1 e.2)) = true := h
    obtain ⟨h1, h2⟩ := Bool.and_eq_true_iff.mp h
    show (!ltCps (tl b.1) (tl a.1) && risingS b.1 (r.map (·.1))) = true
    refine Bool.and_eq_true_iff.mpr ⟨?_, rising_names r b (hz b List.mem_cons_self) (fun e he => hz e (List.mem_cons_of_mem _ he)) h2⟩
    cases q : ltCps (tl b.1) (tl a.1) with
    | false => rfl
    | true =>
      have := lt_ent (if b.2 = true then [47] else []) (if a.2 = true then [47] else []) (fun c hc => by have := ha.2.2 c hc; omega) (by split <;> simp) q
      rw [← tl_ent, ← tl_ent] at this
      rw [this] at h1
      cases h1
theorem sorted_names (zs : Nm) (hz : ∀ e ∈ zs, IsNm e.1) (h : sortedS (zs.map fun e => ent e.1 e.2) = true) : sortedS (zs.map (·.1)) = true := by
  cases zs with
  | nil => rfl
  | cons a r => exact rising_names r a (hz a List.mem_cons_self) (fun e he => hz e (List.mem_cons_of_mem _ he)) h
/-- what a folder holds: there is such a list -/
theorem fm_is {zs : List Str} {fs : Fs} (g : GoodF zs fs) (hz : ∀ z ∈ zs, IsNm z) (q : List Str) : ∀ i ≤ fs.length, ∃ fm : Nm, Fm (fs.take i) q fm ∧ fm.length ≤ i
  | 0, _ => ⟨[], ⟨by simp, by simp [Has]⟩, Nat.le_refl _⟩
  | i + 1, hi => by
    obtain ⟨fm, h, hl⟩ := fm_is g hz q i (by omega)
    have hlt : i < fs.length := hi
    cases hb : ben fs[i].1 q with
    | false => exact ⟨fm, h.no hlt hb, by omega⟩
    | true =>
      obtain ⟨r', h0, e⟩ := ben_iff.mp hb
      match r', h0, e with
      | n :: r, _, e => exact ⟨_, h.yes g hlt e, Nat.le_trans (addN_len fm n _) (by omega)⟩
theorem ents_nd : ∀ {fm : Nm}, (∀ e ∈ fm, IsNm e.1) → (fm.map (·.1)).Nodup → (fm.map fun e => ent e.1 e.2).Nodup
  | [], _, _ => by simp
  | a :: r, h, nd => by
    rw [List.map_cons, List.nodup_cons] at nd ⊢
    refine ⟨fun q => ?_, ents_nd (fun e he => h e (List.mem_cons_of_mem _ he)) nd.2⟩
    obtain ⟨e, he, ee⟩ := List.mem_map.mp q
    have := (ent_inj (h e (List.mem_cons_of_mem _ he)) (h a List.mem_cons_self) ee).1
    exact nd.1 (this ▸ List.mem_map_of_mem he)
theorem perm_nd {α : Type} [DecidableEq α] : ∀ {l m : List α}, l.Nodup → m.Nodup → (∀ x, x ∈ l ↔ x ∈ m) → l.Perm m
  | [], m, _, _, h => by
    cases m with
    | nil => exact List.Perm.refl _
    | cons a r => exact absurd ((h a).mpr List.mem_cons_self) (by simp)
  | a :: l, m, n1, n2, h => by
    obtain ⟨s, t, rfl⟩ := List.append_of_mem ((h a).mp List.mem_cons_self)
    have n3 : (a :: (s ++ t)).Nodup := (List.perm_middle (a := a) (l₁ := s) (l₂ := t)).nodup_iff.mp n2
    obtain ⟨x1, x2⟩ := List.nodup_cons.mp n1
    obtain ⟨y1, y2⟩ := List.nodup_cons.mp n3
    refine ((perm_nd x2 y2 fun x => ?_).cons a).trans List.perm_middle.symm
    have hm : x ∈ s ++ a :: t ↔ x = a ∨ x ∈ s ++ t := (List.perm_middle (a := a) (l₁ := s) (l₂ := t)).mem_iff.trans List.mem_cons
    constructor
    · intro hx
      rcases hm.mp ((h x).mp (List.mem_cons_of_mem _ hx)) with e | e
      · exact absurd (e ▸ hx) x1
      · exact e
    · intro hx
      rcases List.mem_cons.mp ((h x).mpr (hm.mpr (.inr hx))) with e | e
      · exact absurd (e ▸ hx) y1
      · exact e
/-- the entry of a path beneath q -/
def entH (q : List Str) (e : List Str × Str) : Str := match e.1.drop q.length with
  | n :: r => ent n (decide (r ≠ []))
  | [] => ""
section
variable {P : Program} {w : World} {K : PySem.W.Frag} {mg : Str → Option Value} {base : Heap}
theorem scListing : FnScope ["paths", "place", "rests", "entries", "path", "rest"] ["paths", "place"] (defScope sListing) := ⟨rfl, rfl, rfl, by decide +kernel, rfl, by decide +kernel, by decide +kernel⟩
theorem ok_listing {f fB fR fE : Addr} {fd fdB fdR fdE : FuncData} (F : Fun K "listing" "listing" sListing f fd) (T0 : TPk mg) (aBeg : At K mg "beginning" fB fdB ["place"]) (GBeg : FnOk P w K mg base CX0 1 fB fdB ["place"] spBeg)
    (aRest : At K mg "rest_in" fR fdR ["path", "place"]) (GRest : FnOk P w K mg base CX0 2 fR fdR ["path", "place"] spRest) (aEntryOf : At K mg "entry_of" fE fdE ["rest"]) (GEntryOf : FnOk P w K mg base CX0 1 fE fdE ["rest"] spEntryOf) :
    FnOk P w K mg base CX0 3 f fd ["paths", "place"] spNin := by
  refine F.ok scListing (fun vs H Q E h => ?_) (fun cdv A outer s H vs Q E hr h => ?_)
  · obtain ⟨d, fs, zs, q, rfl, _⟩ := h
    rfl
  · obtain ⟨d, fs, zs, q, rfl, hd, g, nm, fl, hq, ql, k⟩ := h
    have T := T0.b
    obtain ⟨_, mROOT⟩ := T0.ROOT
    refine ⟨_, pss_cons (ps_lock (ps_setLc (i := 2) (own := [("path", 4)]) (g := gName 4) (tt := _) rfl scListing.nd rfl rfl (sw_true rfl rfl rfl (by decide +kernel)) (pi_keys (pv 0)) (blkOk_by (own := [("path", 4)]) (N := ["paths", "place", "rests", "entries", "path", "rest"]) (sc := defScope sListing) (by decide +kernel)) (fun _ _ _ _ _ => (pg_name (i := 4) scListing.nd rfl (Or.inl rfl))) (fun _ _ _ _ _ => (by exact pts_one (pt_val (pe_bmK K rfl PySem.F.plainAttrs_str PySem.F.slot_str_startswith PySem.F.type_str_startswith mt_startswith (pv 4) (pa_cons (pe_call GBeg (hr.mono (by decide)) rfl aBeg.m aBeg.k aBeg.b .nil pass0 (pa_cons (pv 1) pa_nil)) pa_nil))))) (fun _ _ _ _ _ => (by exact (pe_call GRest (hr.mono (by decide)) rfl aRest.m aRest.k aRest.b .nil pass0 (pa_cons (pv 4) (pa_cons (pv 1) pa_nil)))))))
            (pss_cons (ps_set (i := 3) scListing.nd rfl (Or.inl rfl) (pe_callB (SX.cr_sortT rfl) (by rfl) T.sorted (by decide +kernel) (pa_cons (SX.pe_scT (own := [("rest", 5)]) (g := gName 5) (tt := tYes) rfl scListing.nd (pi_list (pv 2)) (blkOk_by (own := [("rest", 5)]) (N := ["paths", "place", "rests", "entries", "path", "rest"]) (sc := defScope sListing) (by decide +kernel)) (fun _ _ _ _ _ => (pg_name (i := 5) scListing.nd rfl (Or.inl rfl))) (fun _ _ _ _ _ => pts_nil) (fun _ _ _ _ _ => (by exact (pe_call GEntryOf (hr.mono (by decide)) rfl aEntryOf.m aEntryOf.k aEntryOf.b .nil pass0 (pa_cons (pv 5) pa_nil))))) pa_nil)))
            (pss_one (ps_ret (pe_ifExp (PW.pt (pw_or (pt_truth (pv 3) (by intro _; rfl)) (pw_or1 (pt_cmpR op_eq (pv 1) (pe_glob (v := .str "") rfl mROOT ⟨_, rfl⟩) (nomark _))))) (pe_callTy call_tuple_of (by rfl) T.tuple (by decide +kernel) (pa_cons (pv 3) pa_nil)) pe_non)))), ?_⟩
    have nf : ∀ e ∈ fs, Nms e.1 := fun e he y hy => nm y ((g.path e he).2.2 y hy)
    have sh : ∀ p : List Str, Nms p → p.length ≤ 100 → Sh (js p) := fun p hp hl => by
      have := js_len hp
      unfold Sh
      omega
    have lk : ∀ e ∈ fs, e.1.length ≤ 100 := fun e he => by
      have := (g.path e he).2.1
      omega
    obtain ⟨fm, Fm0, fml⟩ := fm_is g nm q fs.length (Nat.le_refl _)
    rw [List.take_length] at Fm0
    obtain ⟨kno, kyes⟩ := k fm Fm0
    have fnm : ∀ e ∈ fm, IsNm e.1 := fun e he => by
      obtain ⟨f0, hf0, r, e1, _⟩ := (Fm0.has e.1 e.2).mp he
      exact nf f0 hf0 _ (by rw [e1]; exact List.mem_append_right _ List.mem_cons_self)
    have dropR : ∀ e ∈ fs, ben e.1 q = true → ∃ n r, e.1 = q ++ n :: r ∧ e.1.drop q.length = n :: r := fun e he hb => by
      obtain ⟨r', h0, er⟩ := ben_iff.mp hb
      match r', h0, er with
      | n :: r, _, er => exact ⟨n, r, er, by rw [er, List.drop_left]⟩
    refine ⟨d, _, hd, trivial, fun od => ⟨_, rfl, d, od, rfl, .inl ⟨fsK fs, upd_same, fun D hD => ?_⟩⟩⟩
    refine lcFM (walk_keys (kvs := fsK fs)) fs (fun e => .str (js e.1)) (fun e => .str (js (e.1.drop q.length))) (fun e => ben e.1 q) (by unfold fsK; rw [List.length_map]) (by unfold fsK; rw [List.length_map]; omega) (fun i H x H' y => ?_) hD (fun H' s => s _ _ upd_same) ?_ ?_ ?_
    · obtain ⟨rfl, k0, v, hkv, rfl⟩ := y
      refine ⟨rfl, ?_⟩
      unfold fsK at hkv
      rw [List.getElem?_map] at hkv ⊢
      obtain ⟨e, he, ek⟩ := Option.map_eq_some_iff.mp hkv
      cases ek
      rw [he]
      rfl
    · intro e he H2 s2 Q1 k1
      refine ⟨_, rfl, rfl, _, rfl, js q, rfl, sh q hq ql, fun H3 s3 => ⟨js e.1, begS (js q), rfl, rfl, _, rfl, ?_⟩⟩
      rw [sw_file (nf e he) hq (g.path e he).1]
      exact k1 _ s3
    · intro e he hb H2 s2 Q1 k1
      refine ⟨_, rfl, _, rfl, js e.1, js q, rfl, ⟨sh _ (nf e he) (lk e he), sh q hq ql⟩, fun H3 s3 => ?_⟩
      obtain ⟨n, r, er, ed⟩ := dropR e he hb
      show Q1 (.str (cutS (js e.1) (some (((begS (js q)).length : Nat) : Int)) none)) H3
      rw [begS_js hq, show cutS (js e.1) (some (((bg q).length : Nat) : Int)) none = js (e.1.drop q.length) by rw [ed, er]; exact rest_bg q (by simp)]
      exact k1 _ s3
    · intro H1 s1 hD1
      have Dd : D ≠ d := fun z => by rw [z, upd_same] at hD; cases hD
      have su : Same H (upd H1 d (.dK (fsK fs))) := fun b u hb => by
        by_cases e : b = d
        · rw [e] at hb ⊢
          rw [upd_same, ← hd]
          exact hb
        · rw [upd_ne e]
          exact s1 _ _ (by rw [upd_ne e]; exact hb)
      have hL : upd H1 d (.dK (fsK fs)) D = some (.lst ((fs.filter fun e => ben e.1 q).map fun e => V.str (js (e.1.drop q.length)))) := by
        rw [upd_ne Dd]
        exact hD1
      refine ⟨s1 _ _ upd_same, ?_⟩
      have lmem : ∀ e ∈ fs.filter fun e => ben e.1 q, e ∈ fs ∧ ben e.1 q = true := fun e he => List.mem_filter.mp he
      have llen : (fs.filter fun e => ben e.1 q).length ≤ 50 := Nat.le_trans (List.length_filter_le _ _) fl
      have lall : ∀ e, e ∈ fs → ben e.1 q = true → e ∈ fs.filter fun e => ben e.1 q := fun e h1 h2 => List.mem_filter.mpr ⟨h1, h2⟩
      generalize (fs.filter fun e => ben e.1 q) = L at hL lmem llen lall ⊢
      generalize upd H1 d (.dK (fsK fs)) = H2 at su hL ⊢
      refine ⟨_, rfl, D, rfl, ⟨_, SqL.of hL⟩, fun D2 hD2 => ?_⟩
      refine scW (walk_list (K := K) (a := D) (xs := L.map fun e => V.str (js (e.1.drop q.length)))) L (fun e => V.str (js (e.1.drop q.length))) (entH q) (by rw [List.length_map]) (by rw [List.length_map]; omega) (fun i H x H' y => ⟨y.1, y.2⟩) hD2 (fun H' s' => SqL.of (s' _ _ hL)) ?_ ?_
      · intro e he H3 s3 Q1 k1
        obtain ⟨hm, hb⟩ := lmem e he
        obtain ⟨n, r, er, ed⟩ := dropR e hm hb
        have nr : Nms (n :: r) := fun y hy => nf e hm y (by rw [er]; exact List.mem_append_right _ hy)
        have rl : r.length ≤ 100 := by
          have := lk e hm
          rw [er, List.length_append, List.length_cons] at this
          omega
        unfold entH at k1
        rw [ed] at k1 ⊢
        exact ⟨_, rfl, n, r, rfl, nr, rl, k1⟩
      · intro H3 m s3 hm hset
        refine ⟨D2, _, m, rfl, hset, by omega, fun ys p hmem hnd hlen hsrt hp => ?_⟩
        have ent_mem : ∀ x, x ∈ L.map (entH q) ↔ x ∈ fm.map fun e => ent e.1 e.2 := fun x => by
          rw [List.mem_map, List.mem_map]
          constructor
          · rintro ⟨e, he, rfl⟩
            obtain ⟨h1, h2⟩ := lmem e he
            obtain ⟨n, r, er, ed⟩ := dropR e h1 h2
            refine ⟨(n, decide (r ≠ [])), (Fm0.has _ _).mpr ⟨e, h1, r, er, rfl⟩, ?_⟩
            unfold entH
            rw [ed]
          · rintro ⟨⟨n, b⟩, he, rfl⟩
            obtain ⟨e, h1, r, er, rfl⟩ := (Fm0.has n b).mp he
            have hb : ben e.1 q = true := ben_iff.mpr ⟨n :: r, by simp, er⟩
            refine ⟨e, lall e h1 hb, ?_⟩
            unfold entH
            rw [er, List.drop_left]
        have end_ : (fm.map fun e => ent e.1 e.2).Nodup := ents_nd fnm Fm0.nd
        have pm : ys.Perm (fm.map fun e => ent e.1 e.2) := perm_nd hnd end_ fun x => by
          rw [hmem x, decide_eq_true_iff]
          exact ent_mem x
        obtain ⟨us, rfl, pu⟩ := perm_lift pm
        have s4 : Same H (upd H3 p (.lst ((us.map fun e => ent e.1 e.2).map V.str))) := (su.trans s3).trans (same_mk hp)
        have e1 : ∀ a b : Str, decide (V.str a = V.str b) = decide (a = b) := fun a b => decide_eq_decide.mpr ⟨V.str.inj, fun q => by rw [q]⟩
        refine ⟨_, rfl, !((us.map fun e => ent e.1 e.2).map V.str).isEmpty, .inl ⟨_, SqL.of upd_same, rfl⟩, ?_⟩
        have em : ((us.map fun e => ent e.1 e.2).map V.str).isEmpty = decide (fm = []) := by
          have := pu.length_eq
          cases us with
          | nil => rw [decide_eq_true (List.length_eq_zero_iff.mp this.symm)]; rfl
          | cons a r => rw [decide_eq_false fun z => by rw [z] at this; cases this]; rfl
        rw [em]
        by_cases hfm : fm = []
        · rw [decide_eq_true hfm]
          by_cases hq0 : q = []
          · refine iteF ⟨_, rfl, rfl, _, rfl, ?_⟩
            rw [e1, decide_eq_true (show js q = "" by rw [hq0]; rfl)]
            refine iteT ⟨_, rfl, p, _, rfl, .inl ⟨SqL.of upd_same, fun t ht => ?_⟩⟩
            refine kyes (.inr hq0) t us _ (s4.trans (same_mk ht)) pu (sorted_names us (fun e he => fnm e (pu.mem_iff.mp he)) hsrt) ?_
            rw [upd_same, List.map_map]
            rfl
          · refine iteF ⟨_, rfl, rfl, _, rfl, ?_⟩
            rw [e1, decide_eq_false (js_ne hq hq0)]
            exact iteF (kno hfm hq0 _ s4)
        · rw [decide_eq_false hfm]
          refine iteT ⟨_, rfl, p, _, rfl, .inl ⟨SqL.of upd_same, fun t ht => ?_⟩⟩
          refine kyes (.inl hfm) t us _ (s4.trans (same_mk ht)) pu (sorted_names us (fun e he => fnm e (pu.mem_iff.mp he)) hsrt) ?_
          rw [upd_same, List.map_map]
          rfl
end
end N4

set_option maxHeartbeats 3900000
namespace N4
open PySem PySem.Spec PyProof.Rows L2 TL
open C8 (pss_cut tCut pe_gc)
open CB
abbrev sWAns : Stmt := inClass (top 23) 3
abbrev sWLen : Stmt := inClass (top 23) 5
/-- the class World, as the top left it -/
structure WCl (K : PySem.W.Frag) (mg : Str → Option Value) (C : Addr) : Prop where
  mg : mg "World" = some (.ref C)
  cl : Cls K C
  n1 : NoAttr K C "contents"
  n2 : NoAttr K C "chosen"
  n3 : NoAttr K C "tool"
/-- a world stands at o -/
def WoAt (C : Addr) (H : Hp) (o : Addr) (fs : Fs) (ss : Ss) (z : Str) : Prop := ∃ dx d e, H o = some (.ins C dx [(("contents" : Str), .ref d), ("chosen", .ref e), ("tool", .str z)]) ∧ H d = some (.dK (fsK fs)) ∧ H e = some (.dK (ssK ss))
theorem WoAt.same {C : Addr} {H H' : Hp} {o : Addr} {fs : Fs} {ss : Ss} {z : Str} (h : WoAt C H o fs ss z) (s : Same H H') : WoAt C H' o fs ss z := by
  obtain ⟨dx, d, e, h1, h2, h3⟩ := h
  exact ⟨dx, d, e, s _ _ h1, s _ _ h2, s _ _ h3⟩
theorem WoAt.but {C : Addr} {H H' : Hp} {st l o : Addr} {c : Nat} {fs : Fs} {ss : Ss} {z : Str} (h : WoAt C H o fs ss z) (S : Strm H st l c) (B : But st l H H') : WoAt C H' o fs ss z := by
  obtain ⟨dx, d, e, h1, h2, h3⟩ := h
  obtain ⟨ns, u, m, ⟨g1, g2⟩, _⟩ := id S.ex
  exact ⟨dx, d, e, B _ _ h1 (ne_of h1 g1 (by intro z; cases z)) (ne_of h1 g2 (by intro z; cases z)), dk_but S B h2, dk_but S B h3⟩
section
variable {u v t : V}
theorem lk_1 : List.lookup ("contents" : Str) [(("contents" : Str), u), ("chosen", v), ("tool", t)] = some u := by rfl
theorem lk_2 : List.lookup ("chosen" : Str) [(("contents" : Str), u), ("chosen", v), ("tool", t)] = some v := by rfl
theorem lk_3 : List.lookup ("tool" : Str) [(("contents" : Str), u), ("chosen", v), ("tool", t)] = some t := by rfl
end
def spWAns (C : Addr) : Sp := fun vs H Q _ => ∃ o x zs fs ss z k, vs = [.ref o, x] ∧ WoAt C H o fs ss z ∧ RowAt H x (lkV k) ∧ LkOk k ∧ GoodF zs fs ∧ (∀ z ∈ zs, IsNm z) ∧ fs.length ≤ 50 ∧ ∀ v H', Same H H' → Ans H' fs ss z v k → Q v H'
section
variable {P : Program} {w : World} {K : PySem.W.Frag} {mg : Str → Option Value} {base : Heap} {C : Addr}
theorem scWAns : FnScope ["self", "look", "plain"] ["self", "look"] (defScope sWAns) := ⟨rfl, rfl, rfl, by decide +kernel, rfl, by decide +kernel, by decide +kernel⟩
theorem ok_wans {f fA fL : Addr} {fd fdA fdL : FuncData} (F : Fun K "answer" "World.answer" sWAns f fd) (T0 : TPk mg) (R : WCl K mg C) (aAsLook : At K mg "as_look" fA fdA ["thing"]) (GAsLook : FnOk P w K mg base CX0 5 fA fdA ["thing"] spAsLook)
    (aListing : At K mg "listing" fL fdL ["paths", "place"]) (GListing : FnOk P w K mg base CX0 3 fL fdL ["paths", "place"] spNin) : FnOk P w K mg base CX0 6 f fd ["self", "look"] (spWAns C) := by
  refine F.ok scWAns (fun vs H Q E h => ?_) (fun cdv A outer s H vs Q E hr h => ?_)
  · obtain ⟨o, x, zs, fs, ss, z, k, rfl, _⟩ := h
    rfl
  · have T := T0.b
    have hu1 := Nat.lt_of_le_of_lt (Nat.add_le_add_left (show 1 ≤ 64 by decide) _) hr.units
    obtain ⟨o, x, zs, fs, ss, z, k, rfl, ⟨dx, d, e, ho, hd, he⟩, hx, kok, g, nm, fl, kk⟩ := h
    refine ⟨_, pss_cons (ps_set (i := 2) scWAns.nd rfl (Or.inl rfl) (pe_call GAsLook (hr.mono (by decide)) rfl aAsLook.m aAsLook.k aAsLook.b .nil pass0 (pa_cons (pv 1) pa_nil)))
            (pss_cons (ps_if (pt_cmp (pc_isN (pv 2))) (pss_one (ps_never)) (pss_nil))
            (pss_cons (ps_if (pt_cmpR op_eq (pe_ix ix_tup (pv 2) pe_int (fun _ _ => rfl)) pe_str (nomark _)) (pss_one (ps_ret (pe_fld (pv 0) rfl))) (pss_nil))
            (pss_cons (ps_if (pt_cmpR op_eq (pe_ix ix_tup (pv 2) pe_int (fun _ _ => rfl)) pe_str (nomark _)) (pss_one (ps_ret (pe_dget1 hu1 (pe_fld (pv 0) rfl) (pe_ix ix_tup (pv 2) pe_int (fun _ _ => rfl)) ⟨rfl, rfl, rfl, rfl⟩))) (pss_nil))
            (pss_cons (ps_if (pt_cmpR op_eq (pe_ix ix_tup (pv 2) pe_int (fun _ _ => rfl)) pe_str (nomark _)) (pss_one (ps_ret (pe_dget1 hu1 (pe_fld (pv 0) rfl) (pe_ix ix_tup (pv 2) pe_int (fun _ _ => rfl)) ⟨rfl, rfl, rfl, rfl⟩))) (pss_nil))
            (pss_one (ps_ret (pe_call GListing (hr.mono (by decide)) rfl aListing.m aListing.k aListing.b .nil pass0 (pa_cons (pe_fld (pv 0) rfl) (pa_cons (pe_ix ix_tup (pv 2) pe_int (fun _ _ => rfl)) pa_nil))))))))), ?_⟩
    have e1 : ∀ a b : Str, decide (V.str a = V.str b) = decide (a = b) := fun a b => decide_eq_decide.mpr ⟨V.str.inj, fun q => by rw [q]⟩
    have nf : ∀ y ∈ fs, Nms y.1 := fun y hy w hw => nm w ((g.path y hy).2.2 w hw)
    refine ⟨_, rfl, x, k, rfl, hx, kok, fun t H1 s1 ht => ⟨_, rfl, _, rfl, iteF ?_⟩⟩
    cases k with
    | rd p =>
      refine ⟨_, rfl, t, _, ((0 : Nat) : Int), _, rfl, rfl, SqT.of ht, atI_nat rfl, rfl, _, rfl, ?_⟩
      rw [e1]
      refine iteF ⟨_, rfl, t, _, ((0 : Nat) : Int), _, rfl, rfl, SqT.of ht, atI_nat rfl, rfl, _, rfl, ?_⟩
      rw [e1]
      refine iteF ⟨_, rfl, t, _, ((0 : Nat) : Int), _, rfl, rfl, SqT.of ht, atI_nat rfl, rfl, _, rfl, ?_⟩
      rw [e1]
      refine iteT ?_
      refine ⟨_, rfl, o, C, dx, _, _, rfl, s1 _ _ ho, R.cl, R.n1, lk_1, d, rfl, .inl ⟨_, .inl (s1 _ _ hd)⟩, _, rfl, t, _, ((1 : Nat) : Int), _, rfl, rfl, SqT.of ht, atI_nat rfl, ?_⟩
      have dg := DGet.k (k := .inr (js p)) (s1 _ _ hd)
      rw [fs_val nf kok.2.1] at dg
      refine ⟨_, dg, ?_⟩
      have q := kk (oV (fOf fs p)) H1 s1 rfl
      cases hs : fOf fs p with
      | none => rw [hs] at q; exact q
      | some y => rw [hs] at q; exact q
    | ls p =>
      refine ⟨_, rfl, t, _, ((0 : Nat) : Int), _, rfl, rfl, SqT.of ht, atI_nat rfl, rfl, _, rfl, ?_⟩
      rw [e1]
      refine iteF ⟨_, rfl, t, _, ((0 : Nat) : Int), _, rfl, rfl, SqT.of ht, atI_nat rfl, rfl, _, rfl, ?_⟩
      rw [e1]
      refine iteF ⟨_, rfl, t, _, ((0 : Nat) : Int), _, rfl, rfl, SqT.of ht, atI_nat rfl, rfl, _, rfl, ?_⟩
      rw [e1]
      refine iteF ?_
      refine ⟨_, rfl, o, C, dx, _, _, rfl, s1 _ _ ho, R.cl, R.n1, lk_1, _, rfl, t, _, ((1 : Nat) : Int), _, rfl, rfl, SqT.of ht, atI_nat rfl, ?_⟩
      exact ⟨d, fs, zs, p, rfl, s1 _ _ hd, g, nm, fl, kok.1, by have := kok.2; omega, fun fm hfm => ⟨fun e0 nq H' s' => kk .non H' (s1.trans s') ⟨fm, hfm, .inl ⟨e0, nq, rfl⟩⟩, fun why u ys H' s' pm srt hu => kk (.ref u) H' (s1.trans s') ⟨fm, hfm, .inr ⟨why, u, ys, rfl, pm, srt, hu⟩⟩⟩⟩
    | se n =>
      refine ⟨_, rfl, t, _, ((0 : Nat) : Int), _, rfl, rfl, SqT.of ht, atI_nat rfl, rfl, _, rfl, ?_⟩
      rw [e1]
      refine iteF ⟨_, rfl, t, _, ((0 : Nat) : Int), _, rfl, rfl, SqT.of ht, atI_nat rfl, rfl, _, rfl, ?_⟩
      rw [e1]
      refine iteT ?_
      refine ⟨_, rfl, o, C, dx, _, _, rfl, s1 _ _ ho, R.cl, R.n2, lk_2, e, rfl, .inl ⟨_, .inl (s1 _ _ he)⟩, _, rfl, t, _, ((1 : Nat) : Int), _, rfl, rfl, SqT.of ht, atI_nat rfl, ?_⟩
      have dg := DGet.k (k := .inr n) (s1 _ _ he)
      rw [ss_val] at dg
      refine ⟨_, dg, ?_⟩
      have q := kk (oV (sOf ss n)) H1 s1 rfl
      cases hs : sOf ss n with
      | none => rw [hs] at q; exact q
      | some y => rw [hs] at q; exact q
    | tl =>
      refine ⟨_, rfl, t, _, ((0 : Nat) : Int), _, rfl, rfl, SqT.of ht, atI_nat rfl, rfl, _, rfl, ?_⟩
      rw [e1]
      refine iteT ?_
      exact ⟨_, rfl, o, C, dx, _, _, rfl, s1 _ _ ho, R.cl, R.n3, lk_3, kk (.str z) H1 s1 rfl⟩
end
end N4

set_option maxHeartbeats 3900000
/-! enumerate of a text -/
namespace ES
open PySem PySem.Spec PyProof.Rows L2
/-- the signs of x, each in a new pair with its place -/
def Itx (x : Str) : It :=
  ⟨fun i _ => i < x.cps.size, fun i H v H' => ∃ T c, v = .ref T ∧ H T = none ∧ H' = upd H T (.tup [.int (i : Nat), .str ⟨#[c]⟩]) ∧ x.cps[i]? = some c, fun i _ => x.cps.size ≤ i⟩
theorem turn_enumS {P : Program} {w : World} {K : PySem.W.Frag} {elts : List Expr} {kk : Nat} {tpos : Pos} (x : Str) (t : Tok) (e it : Addr) :
    Turn P w K (.Tuple elts kk tpos) (Itx x) [e, it] e (fun i h => (∃ old, IsEnum h e it ((i : Nat) : Int) old) ∧ h.IsStrIter it (strIterType x) x t i ∧ e ≠ it ∧ i ≤ x.cps.size) where
  mem := by simp
  obj := fun i h st b hb => by
    obtain ⟨⟨old, he⟩, ⟨o, ho, hc, hd⟩, _⟩ := st
    rcases (show b = e ∨ b = it by simpa using hb) with rfl | rfl
    · exact ⟨_, he, fun v q => nomatch q⟩
    · exact ⟨o, ho, fun v q => by rw [hd] at q; cases q⟩
  keep := fun i h h' st k => by
    obtain ⟨⟨old, he⟩, ⟨o, ho, r⟩, hne⟩ := st
    exact ⟨⟨old, k e (by simp) _ he⟩, ⟨o, k it (by simp) _ ho, r⟩, hne⟩
  item := by
    intro X hP hw hK hc i pins s σ H E I hf st hg
    subst hP hw hK
    obtain ⟨⟨old, he⟩, hit, hne, hle⟩ := st
    have hel : e < s.heap.objs.size := Heap.lt_size he
    have hil : it < s.heap.objs.size := by obtain ⟨_, q, _⟩ := hit; exact Heap.lt_size q
    have D := Draws.text (prog := X.prog) (w := X.w) (A := X.A.in1) (I.ok.hd hc) it x t
    refine wpAny_pyNext_enum_itemD D he hit hg hne (by simpa using hne) fun v h' tk hv ho hit' hT hsz hk => ?_
    obtain ⟨c, u, hcx, rfl⟩ := hv
    refine ⟨_, rfl, wpAny_letOwnedTupleGo_enum (s := { s with heap := h', toks := tk + 1 }) ho fun h'' he' sb => ?_⟩
    have away : ∀ b, b ∉ [e, it] → b ≠ e ∧ b ≠ it := fun b hb => ⟨fun z => hb (by simp [z]), fun z => hb (by simp [z])⟩
    have hT2 : h''.get? s.heap.objs.size = some { cls := .type "tuple", data := .seq #[.int i tk, .str ⟨#[c]⟩ u] } := (sb.2 _ (Nat.ne_of_gt hel)).trans hT
    have I1 : Inv X pins σ (upd H s.heap.objs.size (.tup [.int (i : Nat), .str ⟨#[c]⟩])) { s with heap := h'', toks := tk + 1 } := by
      refine I.turnedNew (ch := [e, it]) (fun b ob hb q => ?_) hf (Nat.le_refl _) ?_
      · exact (sb.2 b (away b hb).1).trans (hk b ob (away b hb).1 (away b hb).2 q)
      · exact ⟨by show 2 ≤ sizeLine; decide, [.int i tk, .str ⟨#[c]⟩ u], .cons ⟨_, rfl⟩ (.cons ⟨_, rfl⟩ .nil), ⟨_, hT2, rfl, _, rfl⟩⟩
    refine ⟨.ref s.heap.objs.size, _, I1, rfl, ⟨s.heap.objs.size, c, rfl, I.hok.fresh (Nat.le_refl _), rfl, hcx⟩, ⟨⟨Value.str ⟨#[c]⟩ u, ?_⟩, ?_, hne, hg⟩, fun b hb => ?_⟩
    · rw [show ((i + 1 : Nat) : Int) = (i : Int) + 1 by omega]
      exact he'
    · obtain ⟨o, h1, h2⟩ := hit'
      exact ⟨o, (sb.2 it (Ne.symm hne)).trans h1, h2⟩
    · have lt : b < s.heap.objs.size := by
        rcases (show b = e ∨ b = it by simpa using hb) with z | z
        · rw [z]; exact hel
        · rw [z]; exact hil
      rw [upd_ne (Nat.ne_of_lt lt)]
      exact (hf b hb).1
  done := by
    intro X hP hw hK hc i pins s σ H E I hf st hg
    subst hP hw hK
    obtain ⟨⟨old, he⟩, hit, hne, hle⟩ := st
    have ei : i = x.cps.size := Nat.le_antisymm hle hg
    subst ei
    obtain ⟨f0, f1, f2, f3, f4, f5⟩ := hf it (by simp)
    have D := Draws.text (prog := X.prog) (w := X.w) (A := X.A.in1) (I.ok.hd hc) it x t
    exact wpAny_pyNext_enum_endD D he hit fun h' eb => ⟨rfl, I.turned (t' := s.toks) (fun b o hb q => eb b o hb q) f0 f1 f3 f4 f5⟩
  self := fun A i s Q E st h => let ⟨⟨_, he⟩, _⟩ := st; wpAny_pyIter_enum he h
/-- for (i, c) in enumerate(e), e a text -/
def iEnumS (ta : TA) : TI := fun σ H R => ta σ H fun vs H1 => ∃ x, vs = [.str x] ∧ R (Itx x) H1
theorem pi_enumS {X : Cx} {e : Expr} {ta : TA} {p pos tpos : Pos} {elts : List Expr} {kk : Nat} (hg : Gl X "enumerate") (hm : X.mg "enumerate" = none) (ha : PA X [e] ta) (hs : starEach [e] X.env = [(false, eval e X.env)] := by rfl) :
    PI X (.Tuple elts kk tpos) (.Call (.Name "enumerate" p) [e] [] pos) (iEnumS ta) := by
  refine ⟨fun pins s σ H R I h => ?_⟩
  refine Call_ (ld_blt I hg hm boot_enumerate (PyProof.Rows.callWith_type1 (thn (ha.run pos pins s σ H _ I h) fun us s1 ⟨vs, H1, I1, r1, x, ex, q⟩ => ?_) hs rfl))
  subst ex
  obtain ⟨u, rfl, t, rfl⟩ : ∃ u, us = [u] ∧ ∃ t, u = Value.str x t := by
    cases r1 with
    | cons r rr =>
      cases rr
      exact ⟨_, rfl, r⟩
  refine call_enumerate_str fun h' he hit hsz hk => wpAny_pyIter_enum he ?_
  have I2 : Inv X pins σ H1 { s1 with heap := h' } := I1.kept (t' := s1.toks) hk
  refine ⟨s1.heap.objs.size + 1, [s1.heap.objs.size + 1, s1.heap.objs.size], _, _, H1, rfl, I2, turn_enumS x t (s1.heap.objs.size + 1) s1.heap.objs.size, ⟨⟨_, he⟩, hit, Nat.succ_ne_self _, Nat.zero_le _⟩, fun b hb => ?_, q⟩
  have le : s1.heap.objs.size ≤ b := by
    rcases (show b = s1.heap.objs.size + 1 ∨ b = s1.heap.objs.size by simpa using hb) with z | z
    · rw [z]; exact Nat.le_add_right _ _
    · rw [z]; exact Nat.le_refl _
  exact I1.fpOk le (I1.hok.fresh le)
theorem walk_enumS {x : Str} : Walk (Itx x) x.cps.size (fun _ => True) (fun i H v H' => ∃ T c, v = .ref T ∧ H T = none ∧ H' = upd H T (.tup [.int (i : Nat), .str ⟨#[c]⟩]) ∧ x.cps[i]? = some c) :=
  ⟨fun i _ hi _ => hi, fun _ _ => Nat.le_refl _, fun i H v H' _ _ y => y⟩
end ES

set_option maxHeartbeats 3900000
namespace N4
open PySem PySem.Spec PyProof.Rows L2 TL
open C8 (pss_cut tCut pe_gc)
open CB
abbrev sAbove : Stmt := top 16
def pickX (p : Nat → Bool) (g : Nat → V) (n : Nat) : List V := ((List.range n).filter p).map g
theorem pickX_succ (p : Nat → Bool) (g : Nat → V) (n : Nat) : pickX p g (n + 1) = pickX p g n ++ (if p n = true then [g n] else []) := by
  unfold pickX
  rw [List.range_succ, List.filter_append, List.map_append]
  congr 1
  cases h : p n <;> simp [List.filter, h]
section
variable {K : PySem.W.Frag} {D : Addr} {H1 : Hp} {σ : L2.St} {tt : TT} {te : TE} {Qd : Hp → Prop} {jk jw : Nat}
/-- [g k for k, c in enumerate(x) if p k], x a text -/
theorem lcX (x : Str) (p : Nat → Bool) (g : Nat → V) (hs : x.cps.size < 1000000) (hD : H1 D = none) (hw : ∀ a b, wipe (((wipe σ [jk, jw]).set jk (some a)).set jw (some b)) [jk, jw] = wipe σ [jk, jw])
    (test : ∀ (i c : Nat) (H2 : Hp), x.cps[i]? = some c → Same H1 H2 → ∀ Q1 : Bool → Hp → Prop, (∀ H3, Same H2 H3 → Q1 (p i) H3) → tt (((wipe σ [jk, jw]).set jk (some (.int (i : Nat)))).set jw (some (.str ⟨#[c]⟩))) H2 Q1)
    (elt : ∀ (i c : Nat) (H2 : Hp) (Q1 : VK), x.cps[i]? = some c → Q1 (g i) H2 → te (((wipe σ [jk, jw]).set jk (some (.int (i : Nat)))).set jw (some (.str ⟨#[c]⟩))) H2 Q1)
    (hd : ∀ H', Same H1 H' → H' D = some (.lst (pickX p g x.cps.size)) → Qd H') :
    ∃ W : Nat → Nat → Hp → Prop, (∃ m, W 0 m (upd H1 D (.lst []))) ∧ ∀ i m H, W i m H →
      ((ES.Itx x).stop i H ∧ Qd H) ∨ ((ES.Itx x).go i H ∧ ∃ Nx : Hp → Prop, (∀ H', Nx H' → ∃ m', m' < m ∧ W (i + 1) m' H') ∧ ∀ v H', (ES.Itx x).yld i H v H' → gTup K 2 (gCons (gName jk) (gCons (gName jw) gNil)) v (wipe σ [jk, jw]) H' fun σ2 H2 => wipe σ2 [jk, jw] = wipe σ [jk, jw] ∧ tt σ2 H2 fun b H3 =>
        if b = true then te σ2 H3 fun y H4 => ∃ acc, H4 D = some (.lst acc) ∧ acc.length < sizeLine ∧ Nx (upd H4 D (.lst (acc ++ [y]))) else Nx H3) := by
  refine lc_it (ES.walk_enumS (x := x)) (fun i H' => Same H1 H' ∧ H' D = some (.lst (pickX p g i))) ⟨same_mk hD, upd_same⟩ (fun i H' _ q => trivial) ?_ ?_
  · rintro i v H2 H3 hi ⟨s2, hd2⟩ ⟨T, c, rfl, hT, rfl, hc⟩
    have sT := same_mk (o := .tup [.int (i : Nat), .str ⟨#[c]⟩]) hT
    refine ⟨T, _, rfl, SqT.of upd_same, rfl, _, _, rfl, _, _, rfl, rfl, hw _ _, test i c _ hc (s2.trans sT) _ fun H4 s4 => ?_⟩
    have hd4 := s4 _ _ (sT _ _ hd2)
    have pl : (pickX p g i).length ≤ i := by
      unfold pickX
      rw [List.length_map]
      exact Nat.le_trans (List.length_filter_le _ _) (by rw [List.length_range]; exact Nat.le_refl _)
    cases hp : p i with
    | true =>
      refine iteT (elt i c _ _ hc ⟨_, hd4, ?_, same_ch ((s2.trans sT).trans s4) hD, ?_⟩)
      · exact Nat.lt_of_le_of_lt pl (Nat.lt_of_lt_of_le (show i < 1000000 by omega) (by decide))
      · rw [upd_same, pickX_succ, if_pos hp]
    | false =>
      refine iteF ⟨(s2.trans sT).trans s4, ?_⟩
      rw [pickX_succ, if_neg (by rw [hp]; decide), List.append_nil]
      exact hd4
  · rintro H' ⟨s, h⟩
    exact hd H' s h
end
/-- the ways above a path -/
def aboves : List Str → List (List Str)
  | [] => []
  | [_] => []
  | y :: z :: r => [y] :: (aboves (z :: r)).map (y :: ·)
/-- what stands ahead of each stroke -/
def strokes : List Nat → List Nat → List (List Nat)
  | _, [] => []
  | acc, c :: r => (if c = 47 then [acc] else []) ++ strokes (acc ++ [c]) r
theorem strokes_free : ∀ (u acc r : List Nat), 47 ∉ u → strokes acc (u ++ r) = strokes (acc ++ u) r
  | [], acc, r, _ => by simp
  | c :: u, acc, r, h => by
    have h1 : c ≠ 47 := fun e => h (e ▸ List.mem_cons_self)
    have ih := strokes_free u (acc ++ [c]) r fun m => h (List.mem_cons_of_mem _ m)
    show (if c = 47 then [acc] else []) ++ strokes (acc ++ [c]) (u ++ r) = _
    rw [if_neg h1, ih]
    simp
theorem aboves_ne : ∀ {p : List Str}, ∀ q ∈ aboves p, q ≠ []
  | [], q, h => by cases h
  | [_], q, h => by cases h
  | y :: z :: r, q, h => by
    rcases List.mem_cons.mp h with rfl | h
    · simp
    · obtain ⟨a, _, rfl⟩ := List.mem_map.mp h
      simp
theorem strokes_jl : ∀ {p : List Str} (acc : List Nat), Nms p → strokes acc (jl p) = (aboves p).map fun q => acc ++ jl q
  | [], acc, _ => rfl
  | [y], acc, h => by
    have hy := nm_free (h y List.mem_cons_self)
    have := strokes_free (tl y) acc [] hy
    rw [List.append_nil] at this
    exact this
  | y :: z :: r, acc, h => by
    have hy := nm_free (h y List.mem_cons_self)
    have e : jl (y :: z :: r) = tl y ++ 47 :: jl (z :: r) := rfl
    rw [e, strokes_free _ _ _ hy]
    show [acc ++ tl y] ++ strokes (acc ++ tl y ++ [47]) (jl (z :: r)) = _
    rw [strokes_jl _ h.tail]
    show _ = (acc ++ jl [y]) :: ((aboves (z :: r)).map (y :: ·)).map fun q => acc ++ jl q
    rw [List.map_map]
    show (acc ++ tl y) :: _ = (acc ++ tl y) :: _
    congr 1
    refine List.map_congr_left fun q hq => ?_
    have nq := aboves_ne q hq
    show acc ++ tl y ++ [47] ++ jl q = acc ++ jl (y :: q)
    rw [show jl (y :: q) = tl y ++ 47 :: jl q from jl_app (q := [y]) (by simp) nq]
    simp
theorem strokes_at : ∀ (l acc : List Nat), strokes acc l = ((List.range l.length).filter fun i => decide (l[i]? = some 47)).map fun i => acc ++ l.take i
  | [], acc => rfl
  | c :: r, acc => by
    rw [List.length_cons, List.range_succ_eq_map, List.filter_cons, List.filter_map]
    show (if c = 47 then [acc] else []) ++ strokes (acc ++ [c]) r = _
    rw [strokes_at r (acc ++ [c])]
    have tailEq : ((List.filter ((fun i => decide ((c :: r)[i]? = some 47)) ∘ Nat.succ) (List.range r.length)).map Nat.succ).map (fun i => acc ++ (c :: r).take i) = ((List.range r.length).filter fun i => decide (r[i]? = some 47)).map fun i => (acc ++ [c]) ++ r.take i := by
      rw [List.map_map]
      have ef : ((fun i => decide ((c :: r)[i]? = some 47)) ∘ Nat.succ) = fun i => decide (r[i]? = some 47) := by
        funext i
        simp
      rw [ef]
      refine List.map_congr_left fun i _ => ?_
      show acc ++ (c :: r).take (i + 1) = _
      rw [List.take_succ_cons]
      simp
    by_cases h : c = 47
    · rw [if_pos h, if_pos (by subst h; simp), List.map_cons, tailEq]
      simp
    · rw [if_neg h, if_neg (by simp [h]), tailEq]
      simp
theorem map_tl_inj : ∀ {a b : List Str}, a.map tl = b.map tl → a = b
  | [], [], _ => rfl
  | [], _ :: _, h => by cases h
  | _ :: _, [], h => by cases h
  | x :: a, y :: b, h => by
    rw [List.map_cons, List.map_cons] at h
    obtain ⟨h1, h2⟩ := List.cons.inj h
    rw [ext_tl h1, map_tl_inj h2]
def spAbove : Sp := fun vs H Q _ => ∃ p, vs = [.str (js p)] ∧ Nms p ∧ p.length ≤ 100 ∧ ∀ D H', H D = none → Same H H' → H' D = some (.lst ((aboves p).map fun q => .str (js q))) → Q (.ref D) H'
section
variable {P : Program} {w : World} {K : PySem.W.Frag} {mg : Str → Option Value} {base : Heap}
theorem scAbove : FnScope ["path", "at", "sign"] ["path"] (defScope sAbove) := ⟨rfl, rfl, rfl, by decide +kernel, rfl, by decide +kernel, by decide +kernel⟩
theorem ok_above {f : Addr} {fd : FuncData} (F : Fun K "paths_above" "paths_above" sAbove f fd) (T0 : TPk mg) : FnOk P w K mg base CX0 1 f fd ["path"] spAbove := by
  refine F.ok scAbove (fun vs H Q E h => ?_) (fun cdv A outer s H vs Q E hr h => ?_)
  · obtain ⟨p, rfl, _⟩ := h
    rfl
  · obtain ⟨p, rfl, hp, hl, k⟩ := h
    have T := T0.b
    obtain ⟨_, mSTROKE⟩ := T0.STROKE
    refine ⟨_, pss_one (ps_ret (pe_lc (own := [("at", 1), ("sign", 2)]) (g := gTup K 2 (gCons (gName 1) (gCons (gName 2) gNil))) (tt := _) rfl scAbove.nd (ES.pi_enumS rfl T.enumerate (pa_cons (pv 0) pa_nil)) (blkOk_by (own := [("at", 1), ("sign", 2)]) (N := ["path", "at", "sign"]) (sc := defScope sAbove) (by decide +kernel)) (fun _ _ _ _ _ => (pg_tupK (K0 := K) rfl rfl (pgs_cons (pg_name (i := 1) scAbove.nd rfl (Or.inl rfl)) (pgs_cons (pg_name (i := 2) scAbove.nd rfl (Or.inl rfl)) pgs_nil)))) (fun _ _ _ _ _ => (by exact pts_one (pt_cmpR op_eq (pv 2) (pe_glob (v := .str "/") rfl mSTROKE ⟨_, rfl⟩) (nomark _)))) (fun _ _ _ _ _ => (by exact (pe_slice sl_str (pv 0) po_none (po_some (pv 1))))))), ?_⟩
    have jn := js_len hp
    have sz : (js p).cps.size = (jl p).length := by rw [← tl_js]; rfl
    have lx : (js p).length = (js p).cps.size := rfl
    refine ⟨_, rfl, js p, rfl, fun D hD => ?_⟩
    refine lcX (js p) (fun i => decide ((jl p)[i]? = some 47)) (fun i => .str (cutS (js p) none (some ((i : Nat) : Int)))) (by omega) hD (fun _ _ => rfl) ?_ ?_ ?_
    · intro i c H2 hc s2 Q1 k1
      refine ⟨_, rfl, rfl, _, rfl, ?_⟩
      have e1 : (jl p)[i]? = some c := by
        rw [← tl_js]
        show (js p).cps.toList[i]? = some c
        rw [Array.getElem?_toList]
        exact hc
      have q := k1 H2 (Same.refl H2)
      rw [e1] at q
      have e2 : decide (V.str ⟨#[c]⟩ = V.str "/") = decide (some c = some 47) := decide_eq_decide.mpr ⟨fun z => by
        have z1 := congrArg tl (V.str.inj z)
        rw [tl_sl] at z1
        have z2 : [c] = [47] := z1
        rw [List.cons.inj z2 |>.1], fun z => by
        rw [Option.some.inj z]
        rfl⟩
      rw [e2]
      exact q
    · intro i c H2 Q1 hc q
      exact ⟨_, rfl, _, rfl, _, rfl, js p, rfl, Nat.le_trans (show (js p).length ≤ 900 by omega) (by decide), q⟩
    · intro H1 s1 hD1
      have e : pickX (fun i => decide ((jl p)[i]? = some 47)) (fun i => .str (cutS (js p) none (some ((i : Nat) : Int)))) (js p).cps.size = (aboves p).map fun q => .str (js q) := by
        have e3 : (((List.range (jl p).length).filter fun i => decide ((jl p)[i]? = some 47)).map fun i => cutS (js p) none (some ((i : Nat) : Int))) = (aboves p).map js := by
          refine map_tl_inj ?_
          rw [List.map_map, List.map_map]
          have a1 := strokes_at (jl p) []
          rw [strokes_jl [] hp] at a1
          refine Eq.trans ?_ (a1.symm.trans ?_)
          · refine List.map_congr_left fun i _ => ?_
            show tl (cutS (js p) none (some ((i : Nat) : Int))) = [] ++ (jl p).take i
            rw [cut_to, tl_js]
            rfl
          · refine List.map_congr_left fun q _ => ?_
            show [] ++ jl q = tl (js q)
            rw [tl_js]
            rfl
        unfold pickX
        rw [sz]
        have e4 := congrArg (List.map V.str) e3
        rw [List.map_map, List.map_map] at e4
        exact e4
      rw [e] at hD1
      exact k D H1 hD s1 hD1
end
end N4

set_option maxHeartbeats 3900000
namespace N4
open PySem PySem.Spec PyProof.Rows L2 TL
open C8 (pss_cut tCut pe_gc)
open CB
abbrev sCkF : Stmt := top 24
abbrev sCkS : Stmt := top 25
def spCkF : Sp := fun vs H Q _ => ∃ d fs zs, vs = [.ref d] ∧ H d = some (.dK (fsK fs)) ∧ GoodF zs fs ∧ (∀ z ∈ zs, IsNm z) ∧ fs.length ≤ 50 ∧ ∀ H', Same H H' → Q .non H'
def spCkS : Sp := fun vs H Q _ => ∃ d ss zs, vs = [.ref d] ∧ H d = some (.dK (ssK ss)) ∧ GoodS zs ss ∧ (∀ z ∈ zs, IsNm z) ∧ ss.length ≤ 50 ∧ ∀ H', Same H H' → Q .non H'
/-- a table of ways, each with True -/
def trK (ps : List (List Str)) : List (L2.Key × V) := ps.map fun p => (.inr (js p), .bl true)
theorem tr_put (ps : List (List Str)) (p : List Str) : ∃ qs : List (List Str), putK (trK ps) (.inr (js p)) (.bl true) = trK qs ∧ qs.length ≤ ps.length + 1 ∧ ∀ q ∈ qs, q ∈ ps ∨ q = p := by
  unfold putK
  split
  · refine ⟨ps, ?_, Nat.le_succ _, fun q h => .inl h⟩
    unfold trK
    rw [List.map_map]
    refine List.map_congr_left fun e _ => ?_
    show (if (Sum.inr (js e) : L2.Key) = .inr (js p) then ((Sum.inr (js e) : L2.Key), V.bl true) else (Sum.inr (js e), .bl true)) = (Sum.inr (js e), V.bl true)
    split <;> rfl
  · refine ⟨ps ++ [p], ?_, by rw [List.length_append]; exact Nat.le_refl _, fun q h => (List.mem_append.mp h).imp id List.mem_singleton.mp⟩
    unfold trK
    rw [List.map_append]
    rfl
theorem tr_no {ps : List (List Str)} (hp : ∀ p ∈ ps, Nms p) {q : List Str} (hq : Nms q) (h : q ∉ ps) : valV (trK ps) (.inr (js q)) = none := by
  induction ps with
  | nil => rfl
  | cons a r ih =>
    unfold valV trK
    rw [List.map_cons, List.find?_cons]
    rw [show decide ((Sum.inr (js a) : L2.Key) = .inr (js q)) = false from decide_eq_false fun z => h (by rw [js_inj (hp a List.mem_cons_self) hq (Sum.inr.inj z)]; exact List.mem_cons_self)]
    exact ih (fun p hm => hp p (List.mem_cons_of_mem _ hm)) fun hm => h (List.mem_cons_of_mem _ hm)
theorem aboves_is : ∀ {p q : List Str}, q ∈ aboves p → ∃ r, r ≠ [] ∧ p = q ++ r
  | [], q, h => by cases h
  | [_], q, h => by cases h
  | y :: z :: r, q, h => by
    rcases List.mem_cons.mp h with rfl | h
    · exact ⟨z :: r, by simp, rfl⟩
    · obtain ⟨a, ha, rfl⟩ := List.mem_map.mp h
      obtain ⟨t, h1, h2⟩ := aboves_is ha
      exact ⟨t, h1, by rw [h2]; rfl⟩
theorem aboves_len : ∀ p : List Str, (aboves p).length ≤ p.length
  | [] => Nat.le_refl _
  | [_] => Nat.zero_le _
  | y :: z :: r => by
    have := aboves_len (z :: r)
    show ((aboves (z :: r)).map (y :: ·)).length + 1 ≤ _
    rw [List.length_map]
    exact Nat.succ_le_succ this
section
variable {P : Program} {w : World} {K : PySem.W.Frag} {mg : Str → Option Value} {base : Heap}
theorem scCkS : FnScope ["settings", "name"] ["settings"] (defScope sCkS) := ⟨rfl, rfl, rfl, by decide +kernel, rfl, by decide +kernel, by decide +kernel⟩
theorem ok_ckS {f fN : Addr} {fd fdN : FuncData} (F : Fun K "check_settings" "check_settings" sCkS f fd) (aIsName : At K mg "is_name" fN fdN ["thing"]) (GIsName : FnOk P w K mg base CX0 1 fN fdN ["thing"] spIsName) : FnOk P w K mg base CX0 2 f fd ["settings"] spCkS := by
  refine F.ok scCkS (fun vs H Q E h => ?_) (fun cdv A outer s H vs Q E hr h => ?_)
  · obtain ⟨d, ss, zs, rfl, _⟩ := h
    rfl
  · obtain ⟨d, ss, zs, rfl, hd, g, nm, sl, k⟩ := h
    refine ⟨_, pss_one (ps_lock (ps_for PassesOwn.never rfl (pi_keys (pv 0)) (pg_name (i := 1) scCkS.nd rfl (Or.inl rfl)) (pss_one (ps_if (pt_not (pt_val (pe_call GIsName (hr.mono (by decide)) rfl aIsName.m aIsName.k aIsName.b .nil pass0 (pa_cons (pv 1) pa_nil)))) (pss_one (ps_never)) (pss_nil))))), ?_⟩
    refine ⟨d, _, hd, trivial, fun od => ⟨_, rfl, d, od, rfl, .inl ⟨ssK ss, upd_same, for_it (walk_keys (kvs := ssK ss)) (fun i σ H' => ∃ x1, σ = [some (.ref d), x1] ∧ Same (upd H d (.frz od (.dK (ssK ss)))) H') ⟨none, rfl, Same.refl _⟩ (fun i σ H' _ z => by obtain ⟨_, _, z⟩ := z; exact z _ _ upd_same) ?_ ?_⟩⟩⟩
    · rintro i x _ H2 H3 hi ⟨x1, rfl, s2⟩ ⟨rfl, k0, v, hkv, rfl⟩
      unfold ssK at hkv
      rw [List.getElem?_map] at hkv
      obtain ⟨e, he, ek⟩ := Option.map_eq_some_iff.mp hkv
      cases ek
      have hn := nm _ (g.name e (List.mem_of_getElem? he))
      refine ⟨_, rfl, e.1, rfl, nm_sh hn, fun H4 s4 => ⟨_, rfl, ?_⟩⟩
      rw [decide_eq_true hn]
      exact iteF ⟨_, rfl, s2.trans s4⟩
    · rintro _ H2 ⟨x1, rfl, s2⟩
      refine ⟨s2 _ _ upd_same, k _ fun b u hb => ?_⟩
      by_cases e : b = d
      · rw [e] at hb ⊢
        rw [upd_same, ← hd]
        exact hb
      · rw [upd_ne e]
        exact s2 _ _ (by rw [upd_ne e]; exact hb)
theorem scCkF : FnScope ["files", "path", "earlier", "folders", "tops", "top"] ["files"] (defScope sCkF) := ⟨rfl, rfl, rfl, by decide +kernel, rfl, by decide +kernel, by decide +kernel⟩
theorem ok_ckF {f fP fA : Addr} {fd fdP fdA : FuncData} (F : Fun K "check_files" "check_files" sCkF f fd) (T0 : TPk mg) (aIsPath : At K mg "is_path" fP fdP ["thing"]) (GIsPath : FnOk P w K mg base CX0 2 fP fdP ["thing"] spIsPath)
    (aAbove : At K mg "paths_above" fA fdA ["path"]) (GAbove : FnOk P w K mg base CX0 1 fA fdA ["path"] spAbove) : FnOk P w K mg base CX0 3 f fd ["files"] spCkF := by
  refine F.ok scCkF (fun vs H Q E h => ?_) (fun cdv A outer s H vs Q E hr h => ?_)
  · obtain ⟨d, fs, zs, rfl, _⟩ := h
    rfl
  · have T := T0.b
    have hu := hr.units
    have hu1 := Nat.lt_of_le_of_lt (Nat.add_le_add_left (show 1 ≤ 64 by decide) _) hr.units
    obtain ⟨d, fs, zs, rfl, hd, g, nm, fl, k⟩ := h
    refine ⟨_, pss_cons (ps_lock (ps_for PassesOwn.never rfl (pi_keys (pv 0)) (pg_name (i := 1) scCkF.nd rfl (Or.inl rfl)) (pss_one (ps_if (pt_not (pt_val (pe_call GIsPath (hr.mono (by decide)) rfl aIsPath.m aIsPath.k aIsPath.b .nil pass0 (pa_cons (pv 1) pa_nil)))) (pss_one (ps_never)) (pss_nil)))))
            (pss_cons (ps_set (i := 2) scCkF.nd rfl (Or.inr rfl) pe_dnewK)
            (pss_cons (ps_set (i := 3) scCkF.nd rfl (Or.inl rfl) pe_dnewK)
            (pss_one (ps_lock (ps_for PassesOwn.never rfl (pi_keys (pv 0)) (pg_name (i := 1) scCkF.nd rfl (Or.inl rfl)) (pss_cons (ps_set (i := 4) scCkF.nd rfl (Or.inl rfl) (pe_call GAbove (hr.mono (by decide)) rfl aAbove.m aAbove.k aAbove.b .nil pass0 (pa_cons (pv 1) pa_nil)))
            (pss_cons (ps_if (PW.pt (pw_or (pt_cmp (pc_din hu1 (pv 1) (pv 3))) (pw_or1 (pt_val (pe_callB (cr_any rfl) (by rfl) T.any boot_any (pa_cons (pe_lc (own := [("top", 5)]) (g := gName 5) (tt := tYes) rfl scCkF.nd (pi_list (pv 4)) (blkOk_by (own := [("top", 5)]) (N := ["files", "path", "earlier", "folders", "tops", "top"]) (sc := defScope sCkF) (by decide +kernel)) (fun _ _ _ _ _ => (pg_name (i := 5) scCkF.nd rfl (Or.inl rfl))) (fun _ _ _ _ _ => pts_nil) (fun _ _ _ _ _ => (by exact (pe_cmp (pc_din hu1 (pv 5) (pv 2)) rfl)))) pa_nil)))))) (pss_one (ps_never)) (pss_nil))
            (pss_cons (ps_dput hu1 (pv 2) (pv 1) pe_bl rfl)
            (pss_one (ps_for PassesOwn.never rfl (pi_list (pv 4)) (pg_name (i := 5) scCkF.nd rfl (Or.inl rfl)) (pss_one (ps_dput hu1 (pv 3) (pv 5) pe_bl rfl)))))))))))), ?_⟩
    have nf : ∀ e ∈ fs, Nms e.1 := fun e he y hy => nm y ((g.path e he).2.2 y hy)
    have at_ : ∀ {i : Nat} {k0 : L2.Key} {v : V}, (fsK fs)[i]? = some (k0, v) → ∃ e, fs[i]? = some e ∧ k0 = .inr (js e.1) := fun {i k0 v} hkv => by
      unfold fsK at hkv
      rw [List.getElem?_map] at hkv
      obtain ⟨e, he, ek⟩ := Option.map_eq_some_iff.mp hkv
      cases ek
      exact ⟨e, he, rfl⟩
    have back : ∀ {H1 H2 : Hp}, H1 d = some (.dK (fsK fs)) → (∀ b u, H1 b = some u → b ≠ d → H2 b = some u) → Same H1 (upd H2 d (.dK (fsK fs))) := fun {H1 H2} h1 kp b u hb => by
      by_cases e : b = d
      · rw [e] at hb ⊢
        rw [upd_same, ← h1]
        exact hb
      · rw [upd_ne e]
        exact kp b u hb e
    refine ⟨d, _, hd, trivial, fun od => ⟨_, rfl, d, od, rfl, .inl ⟨fsK fs, upd_same, for_it (walk_keys (kvs := fsK fs)) (fun i σ H' => ∃ x1, σ = [some (.ref d), x1, none, none, none, none] ∧ Same (upd H d (.frz od (.dK (fsK fs)))) H') ⟨none, rfl, Same.refl _⟩ (fun i σ H' _ z => by obtain ⟨_, _, z⟩ := z; exact z _ _ upd_same) ?_ ?_⟩⟩⟩
    · rintro i x _ H2 H3 hi ⟨x1, rfl, s2⟩ ⟨rfl, k0, v, hkv, rfl⟩
      obtain ⟨e, he, rfl⟩ := at_ hkv
      have hm := List.mem_of_getElem? he
      obtain ⟨h0, h3, _⟩ := g.path e hm
      refine ⟨_, rfl, e.1, rfl, nf e hm, by omega, fun H4 s4 => ⟨_, rfl, ?_⟩⟩
      rw [decide_eq_true h0]
      exact iteF ⟨_, rfl, s2.trans s4⟩
    rintro _ H2 ⟨x1, rfl, s2⟩
    have su := back hd (H2 := H2) fun b u hb nb => s2 _ _ (by rw [upd_ne nb]; exact hb)
    have hd3 : upd H2 d (.dK (fsK fs)) d = some (.dK (fsK fs)) := upd_same
    refine ⟨s2 _ _ upd_same, ?_⟩
    generalize upd H2 d (.dK (fsK fs)) = H3 at su hd3 ⊢
    refine fun e0 n0 => ?_
    have t0 := same_mk (o := .dK []) n0
    refine fun f0 n1 => ?_
    have t1 := same_mk (o := .dK []) n1
    have d0 : d ≠ e0 := fun z => by rw [← z, hd3] at n0; cases n0
    have d1 : d ≠ f0 := fun z => by rw [← z, t0 _ _ hd3] at n1; cases n1
    have ef : e0 ≠ f0 := fun z => by rw [← z, upd_same] at n1; cases n1
    have he5 := t1 _ _ (upd_same (H := H3) (a := e0) (o := .dK []))
    have hf5 := upd_same (H := upd H3 e0 (.dK [])) (a := f0) (o := .dK [])
    have hd5 := (t0.trans t1) _ _ hd3
    have s5 := su.trans (t0.trans t1)
    have noE : H e0 = none := su.free n0
    have noF : H f0 = none := su.free (t0.free n1)
    generalize upd (upd H3 e0 (.dK [])) f0 (.dK []) = H5 at he5 hf5 hd5 s5 ⊢
    refine ⟨d, _, hd5, trivial, fun oe => ⟨_, rfl, d, oe, rfl, .inl ⟨fsK fs, upd_same, for_it (walk_keys (kvs := fsK fs)) (fun i σ H' => ∃ x1 x4 x5 ps qs, σ = [some (.ref d), x1, some (.ref e0), some (.ref f0), x4, x5] ∧ (∀ b u, H b = some u → b ≠ d → H' b = some u) ∧ H' d = some (.frz oe (.dK (fsK fs))) ∧ H' e0 = some (.dK (trK ps)) ∧ H' f0 = some (.dK (trK qs)) ∧
        (∀ p ∈ ps, p ∈ fs.map (·.1)) ∧ (∀ q ∈ qs, Nms q ∧ ∃ e ∈ fs, ∃ r, r ≠ [] ∧ e.1 = q ++ r) ∧ ps.length ≤ i ∧ qs.length ≤ 3 * i)
      ⟨x1, none, none, [], [], rfl, fun b u hb nb => by rw [upd_ne nb]; exact s5 _ _ hb, upd_same, by rw [upd_ne d0.symm]; exact he5, by rw [upd_ne d1.symm]; exact hf5, by simp, by simp, Nat.le_refl _, Nat.le_refl _⟩ (fun i σ H' _ z => by obtain ⟨_, _, _, _, _, _, _, z, _⟩ := z; exact z) ?_ ?_⟩⟩⟩
    · rintro i x _ H6 _ hi ⟨x1, x4, x5, ps, qs, rfl, kp, hd6, he6, hf6, hps, hqs, pl, ql⟩ ⟨rfl, k0, v, hkv, rfl⟩
      obtain ⟨e, he, rfl⟩ := at_ hkv
      have hi' : i < fs.length := (List.getElem?_eq_some_iff.mp he).1
      have hm := List.mem_of_getElem? he
      obtain ⟨h0, h3, _⟩ := g.path e hm
      have ne := nf e hm
      have psn : ∀ p ∈ ps, Nms p := fun p hp => by
        obtain ⟨a, ha, rfl⟩ := List.mem_map.mp (hps p hp)
        exact nf a ha
      have notq : e.1 ∉ qs := fun hq => by
        obtain ⟨_, a, ha, r, hr, ea⟩ := hqs _ hq
        have := g.free _ (List.mem_map_of_mem ha) _ (List.mem_map_of_mem hm)
        rw [ben_iff.mpr ⟨r, hr, ea⟩] at this
        cases this
      have notp : ∀ t ∈ aboves e.1, Nms t ∧ t ∉ ps := fun t ht => by
        obtain ⟨r, hr, er⟩ := aboves_is ht
        refine ⟨fun y hy => ne y (by rw [er]; exact List.mem_append_left _ hy), fun hp => ?_⟩
        have := g.free _ (List.mem_map_of_mem hm) _ (hps t hp)
        rw [ben_iff.mpr ⟨r, hr, er⟩] at this
        cases this
      have al := aboves_len e.1
      refine ⟨_, rfl, e.1, rfl, ne, by omega, fun D H7 nD s7 hD => ?_⟩
      have dgq := DGet.k (k := .inr (js e.1)) (s7 _ _ hf6)
      rw [tr_no (fun q hq => (hqs q hq).1) ne notq] at dgq
      refine ⟨_, rfl, _, rfl, f0, none, rfl, dgq, _, rfl, iteF ⟨_, rfl, D, rfl, ⟨_, SqL.of hD⟩, fun D2 hD2 => ?_⟩⟩
      refine lc_mapL (aboves e.1) (fun q => .str (js q)) (fun _ => .bl false) (by omega) hD2 (SqL.of hD) (fun t ht H8 s8 Q1 k1 => ?_) (fun H8 s8 hD8 => ?_)
      · have dgp := DGet.k (k := .inr (js t)) ((s7.trans s8) _ _ he6)
        rw [tr_no psn (notp t ht).1 (notp t ht).2] at dgp
        exact ⟨_, rfl, _, rfl, e0, none, rfl, dgp, k1 H8 (Same.refl H8)⟩
      · refine ⟨D2, (aboves e.1).map fun _ => false, rfl, SqL.of (by rw [hD8, List.map_map]; rfl), ?_⟩
        have anyF : ((aboves e.1).map fun _ => false).any id = false := by
          rw [List.any_map, List.any_eq_false]
          intro t _ h
          cases h
        rw [anyF]
        have s78 := s7.trans s8
        have he8 := s78 _ _ he6
        have hf8 := s78 _ _ hf6
        have hd8 := s78 _ _ hd6
        have hDD := s8 _ _ hD
        obtain ⟨ps', ep, pl', mp⟩ := tr_put ps e.1
        refine ⟨_, rfl, iteF ⟨_, rfl, _, rfl, e0, _, rfl, DPut.k (k := .inr (js e.1)) he8 (Nat.lt_of_le_of_lt (show (trK ps).length ≤ 50 by unfold trK; rw [List.length_map]; omega) (by decide)), ?_⟩⟩
        rw [ep]
        have De : D ≠ e0 := fun z => by rw [z, he6] at nD; cases nD
        have Df : D ≠ f0 := fun z => by rw [z, hf6] at nD; cases nD
        have hD9 : upd H8 e0 (.dK (trK ps')) D = some (.lst ((aboves e.1).map fun q => V.str (js q))) := by
          rw [upd_ne De]
          exact hDD
        have eH : ∀ b u, H b = some u → b ≠ d → upd H8 e0 (.dK (trK ps')) b = some u := fun b u hb nb => by
          rw [upd_ne (fun z => by rw [z, noE] at hb; cases hb)]
          exact s78 _ _ (kp b u hb nb)
        refine ⟨_, rfl, D, rfl, ⟨_, SqL.of hD9⟩, for_it (walk_list (K := K) (a := D) (xs := (aboves e.1).map fun q => V.str (js q))) (fun j σ H' => ∃ x1 x5 qs', σ = [some (.ref d), x1, some (.ref e0), some (.ref f0), some (.ref D), x5] ∧ (∀ b u, H b = some u → b ≠ d → H' b = some u) ∧ H' d = some (.frz oe (.dK (fsK fs))) ∧ H' e0 = some (.dK (trK ps')) ∧ H' f0 = some (.dK (trK qs')) ∧
            H' D = some (.lst ((aboves e.1).map fun q => V.str (js q))) ∧ (∀ q ∈ qs', q ∈ qs ∨ q ∈ aboves e.1) ∧ qs'.length ≤ qs.length + j)
          ⟨_, _, qs, rfl, eH, by rw [upd_ne d0]; exact hd8, upd_same, by rw [upd_ne ef.symm]; exact hf8, hD9, fun q h => .inl h, Nat.le_refl _⟩ (fun j σ H' _ z => by obtain ⟨_, _, _, _, _, _, _, _, z, _⟩ := z; exact SqL.of z) ?_ ?_⟩
        · rintro j y _ H9 _ hj ⟨x1', x5', qs', rfl, kp9, hd9, he9, hf9, hD9', hq9, ql9⟩ ⟨rfl, hy⟩
          rw [List.length_map] at hj
          rw [List.getElem?_map, List.getElem?_eq_getElem hj] at hy
          cases hy
          obtain ⟨qs2, eq2, ql2, mq2⟩ := tr_put qs' (aboves e.1)[j]
          refine ⟨_, rfl, _, rfl, f0, _, rfl, DPut.k (k := .inr (js (aboves e.1)[j])) hf9 (Nat.lt_of_le_of_lt (show (trK qs').length ≤ 1000 by unfold trK; rw [List.length_map]; omega) (by decide)), ?_⟩
          rw [eq2]
          refine ⟨_, _, qs2, rfl, fun b u hb nb => ?_, by rw [upd_ne d1]; exact hd9, by rw [upd_ne ef]; exact he9, upd_same, by rw [upd_ne Df]; exact hD9', fun q hq => ?_, by omega⟩
          · rw [upd_ne (fun z => by rw [z, noF] at hb; cases hb)]
            exact kp9 b u hb nb
          · rcases mq2 q hq with h | h
            · exact hq9 q h
            · exact .inr (h ▸ List.getElem_mem hj)
        · rintro _ H9 ⟨x1', x5', qs', rfl, kp9, hd9, he9, hf9, _, hq9, ql9⟩
          rw [List.length_map] at ql9
          refine ⟨_, _, _, ps', qs', rfl, kp9, hd9, he9, hf9, fun p hp => ?_, fun q hq => ?_, by omega, by omega⟩
          · rcases mp p hp with h | h
            · exact hps p h
            · rw [h]
              exact List.mem_map_of_mem hm
          · rcases hq9 q hq with h | h
            · exact hqs q h
            · obtain ⟨r, hr, er⟩ := aboves_is h
              exact ⟨(notp q h).1, e, hm, r, hr, er⟩
    · rintro _ H6 ⟨x1, x4, x5, ps, qs, rfl, kp, hd6, he6, hf6, hps, hqs, pl, ql⟩
      exact ⟨hd6, k _ (back hd kp)⟩
end
end N4

set_option maxHeartbeats 3900000
namespace N4
open PySem PySem.Spec PyProof.Rows L2 TL
open C8 (pss_cut tCut pe_gc)
open CB
abbrev sWIni : Stmt := inClass (top 23) 0
section
variable {α : Type} {J : It} {n : Nat} {G : Hp → Prop} {Y : Nat → Hp → V → Hp → Prop} {tk tv : TE} {σ : L2.St} {H1 : Hp} {D : Addr} {Qd : Hp → Prop} {j : Nat}
theorem put_new {kvs : List (L2.Key × V)} {k : L2.Key} {v : V} (h : k ∉ kvs.map (·.1)) : putK kvs k v = kvs ++ [(k, v)] := by
  unfold putK
  rw [if_neg]
  intro q
  obtain ⟨e, he, q⟩ := List.any_eq_true.mp q
  exact h (of_decide_eq_true q ▸ List.mem_map_of_mem he)
/-- {u z: val z for z in zs}, the keys unlike -/
theorem lcD (w : Walk J n G Y) (zs : List α) (u : α → Str) (val : α → V) (hn : zs.length = n) (hs : n < 1000) (hY : ∀ i H x H', Y i H x H' → H' = H ∧ (zs.map fun z => V.str (u z))[i]? = some x) (nd : (zs.map u).Nodup) (hD : H1 D = none) (hG : ∀ H', Same H1 H' → G H')
    (key : ∀ z ∈ zs, ∀ (H2 : Hp), Same H1 H2 → ∀ Q1 : VK, Q1 (.str (u z)) H2 → tk ((wipe σ [j]).set j (some (.str (u z)))) H2 Q1)
    (elt : ∀ z ∈ zs, ∀ (H2 : Hp), Same H1 H2 → ∀ Q1 : VK, Q1 (val z) H2 → tv ((wipe σ [j]).set j (some (.str (u z)))) H2 Q1)
    (hd : ∀ H', Same H1 H' → H' D = some (.dK (zs.map fun z => (.inr (u z), val z))) → Qd H') :
    ∃ W : Nat → Nat → Hp → Prop, (∃ m, W 0 m (upd H1 D (.dK []))) ∧ ∀ i m H, W i m H →
      (J.stop i H ∧ Qd H) ∨ (J.go i H ∧ ∃ Nx : Hp → Prop, (∀ H', Nx H' → ∃ m', m' < m ∧ W (i + 1) m' H') ∧
        ∀ x H', J.yld i H x H' → gName j x (wipe σ [j]) H' fun σ2 H2 => wipe σ2 [j] = wipe σ [j] ∧ tYes σ2 H2 fun b H3 => if b = true then tk σ2 H3 fun y H4 => tv σ2 H4 fun z H5 => ∃ kvs k, y = kV k ∧ H5 D = some (.dK kvs) ∧ kvs.length < sizeLine ∧ Nx (upd H5 D (.dK (putK kvs k z))) else Nx H3) := by
  subst hn
  refine ⟨fun i m H => m = zs.length - i ∧ i ≤ zs.length ∧ Same H1 H ∧ H D = some (.dK ((zs.take i).map fun z => (.inr (u z), val z))), ⟨zs.length, by simp, Nat.zero_le _, same_mk hD, upd_same⟩, ?_⟩
  rintro i m H ⟨rfl, hi, s2, hset⟩
  by_cases hlt : i < zs.length
  · refine .inr ⟨w.goes i H hlt (hG H s2), fun H' => Same H1 H' ∧ H' D = some (.dK ((zs.take (i + 1)).map fun z => (.inr (u z), val z))), fun H' p => ⟨zs.length - (i + 1), by omega, rfl, hlt, p⟩, fun x H' y => ?_⟩
    obtain ⟨rfl, hx⟩ := hY i H x H' (w.yields i H x H' hlt (hG H s2) y)
    rw [List.getElem?_map, List.getElem?_eq_getElem hlt] at hx
    cases hx
    have tk' : zs.take (i + 1) = zs.take i ++ [zs[i]] := by
      rw [List.take_succ, List.getElem?_eq_getElem hlt]
      rfl
    have hm : zs[i] ∈ zs := List.getElem_mem hlt
    have fresh : (Sum.inr (u zs[i]) : L2.Key) ∉ ((zs.take i).map fun z => ((Sum.inr (u z) : L2.Key), val z)).map (·.1) := fun q => by
      rw [List.map_map] at q
      obtain ⟨a, ha, ea⟩ := List.mem_map.mp q
      have ea : u a = u zs[i] := Sum.inr.inj ea
      have nd2 : ((zs.take (i + 1)).map u).Nodup := nd.sublist ((List.take_sublist _ _).map u)
      rw [tk', List.map_append, List.nodup_append] at nd2
      exact nd2.2.2 _ (List.mem_map_of_mem ha) _ (List.mem_singleton.mpr rfl) ea
    refine ⟨wipe1 _, ?_⟩
    dsimp only [tYes]
    rw [if_pos rfl]
    refine key _ hm _ s2 _ (elt _ hm _ s2 _ ⟨_, .inr (u zs[i]), rfl, hset, Nat.lt_of_le_of_lt (show _ ≤ 1000 by rw [List.length_map, List.length_take]; omega) (by decide), same_ch s2 hD, ?_⟩)
    rw [upd_same, put_new fresh, tk', List.map_append]
    rfl
  · have e : i = zs.length := by omega
    subst e
    rw [List.take_length] at hset
    exact .inl ⟨w.stops H (hG H s2), hd H s2 hset⟩
end
theorem GoodF.perm {zs : List Str} {fs fs' : Fs} (g : GoodF zs fs) (p : fs'.Perm fs) : GoodF zs fs' :=
  ⟨fun e he => g.path e (p.mem_iff.mp he), fun e he => g.text e (p.mem_iff.mp he), (p.map _).nodup_iff.mpr g.nd, fun a ha b hb => g.free a ((p.map _).mem_iff.mp ha) b ((p.map _).mem_iff.mp hb)⟩
theorem GoodS.perm {zs : List Str} {ss ss' : Ss} (g : GoodS zs ss) (p : ss'.Perm ss) : GoodS zs ss' :=
  ⟨fun e he => g.name e (p.mem_iff.mp he), fun e he => g.text e (p.mem_iff.mp he), (p.map _).nodup_iff.mpr g.nd⟩
theorem js_nd : ∀ {ps : List (List Str)}, (∀ p ∈ ps, Nms p) → ps.Nodup → (ps.map js).Nodup
  | [], _, _ => by simp
  | p :: r, h, nd => by
    rw [List.nodup_cons] at nd
    rw [List.map_cons, List.nodup_cons]
    refine ⟨fun q => ?_, js_nd (fun x hx => h x (List.mem_cons_of_mem _ hx)) nd.2⟩
    obtain ⟨a, ha, e⟩ := List.mem_map.mp q
    exact nd.1 (js_inj (h a (List.mem_cons_of_mem _ ha)) (h p List.mem_cons_self) e ▸ ha)
theorem fs_get {fs : Fs} (h : ∀ e ∈ fs, Nms e.1) (nd : (fs.map (·.1)).Nodup) : ∀ e ∈ fs, fOf fs e.1 = some e.2 := by
  induction fs with
  | nil => intro e he; cases he
  | cons a r ih =>
    intro e he
    rw [List.map_cons, List.nodup_cons] at nd
    unfold fOf
    rw [List.find?_cons]
    rcases List.mem_cons.mp he with rfl | he
    · rw [decide_eq_true rfl]
      rfl
    · have na : a.1 ≠ e.1 := fun q => nd.1 (by rw [q]; exact List.mem_map_of_mem he)
      rw [decide_eq_false na]
      exact ih (fun x hx => h x (List.mem_cons_of_mem _ hx)) nd.2 e he
theorem ss_get {ss : Ss} (nd : (ss.map (·.1)).Nodup) : ∀ e ∈ ss, sOf ss e.1 = some e.2 := by
  induction ss with
  | nil => intro e he; cases he
  | cons a r ih =>
    intro e he
    rw [List.map_cons, List.nodup_cons] at nd
    unfold sOf
    rw [List.find?_cons]
    rcases List.mem_cons.mp he with rfl | he
    · rw [decide_eq_true rfl]
      rfl
    · have na : a.1 ≠ e.1 := fun q => nd.1 (by rw [q]; exact List.mem_map_of_mem he)
      rw [decide_eq_false na]
      exact ih nd.2 e he
theorem funD_ok {P : Program} {w : World} {K : PySem.W.Frag} {mg : Str → Option Value} {base : Heap} {x qual : Str} {st : Stmt} {dvs : List V} {kws : List (Str × V)} {f : Addr} {fd : FuncData} {N ps : List Str} {k : Nat} {sp : Sp} (F : FunD K x qual (defArgs st) (defBody st) (defScope st) dvs kws f fd) (S : FnScope N ps (defScope st)) (len : ∀ vs H Q E, sp vs H Q E → vs.length = ps.length)
    (body : ∀ (cdv : Value) (A : Around) (outer : List Env) (s : Shared) (H : Hp) (vs : List V) (Q : VK) (E : XK), Room k (A.deeper (envOfC qual (defScope st) s.heap.objs.size f cdv)) → sp vs H Q E →
      ∃ t, PSs (cxOf CX0 P w K mg base N qual (defScope st) f cdv A outer s H E).nox (defBody st) t ∧ t { nx := fun _ H' => Q .non H', rt := Q } (start N vs) H) : FnOk P w K mg base CX0 (k + 1) f fd ps sp :=
  F.ok S len fun cdv A outer s H vs Q E hr hsp => by
    obtain ⟨t, h, q⟩ := body cdv A outer s H vs Q E hr hsp
    exact ⟨t, h.nox, q⟩
def spWIni (C : Addr) : Sp := fun vs H Q _ => ∃ o dx d e fs ss zs z, vs = [.ref o, .ref d, .ref e, .str z] ∧ H o = some (.ins C dx []) ∧ H d = some (.dK (fsK fs)) ∧ H e = some (.dK (ssK ss)) ∧ GoodF zs fs ∧ GoodS zs ss ∧ (∀ y ∈ zs, IsNm y) ∧ fs.length ≤ 50 ∧ ss.length ≤ 50 ∧
  ∀ (H' : Hp) (fs' : Fs) (ss' : Ss), (∀ b u, H b = some u → b ≠ o → H' b = some u) → List.Perm fs' fs → List.Perm ss' ss → sortedS (fs'.map fun x => js x.1) = true → sortedS (ss'.map (·.1)) = true → WoAt C H' o fs' ss' z → Q .non H'
section
variable {P : Program} {w : World} {K : PySem.W.Frag} {mg : Str → Option Value} {base : Heap} {C : Addr}
theorem scWIni : FnScope ["self", "files", "settings", "tool", "chosen", "path", "name"] ["self", "files", "settings", "tool"] (defScope sWIni) := ⟨rfl, rfl, rfl, by decide +kernel, rfl, by decide +kernel, by decide +kernel⟩
theorem ok_wini {f fF fS : Addr} {fd fdF fdS : FuncData} {dvs : List V} {kws : List (Str × V)} (F : FunD K "__init__" "World.__init__" (defArgs sWIni) (defBody sWIni) (defScope sWIni) dvs kws f fd) (T : TB mg) (R : WCl K mg C) (aCkF : At K mg "check_files" fF fdF ["files"]) (GCkF : FnOk P w K mg base CX0 3 fF fdF ["files"] spCkF)
    (aCkS : At K mg "check_settings" fS fdS ["settings"]) (GCkS : FnOk P w K mg base CX0 2 fS fdS ["settings"] spCkS) : FnOk P w K mg base CX0 4 f fd ["self", "files", "settings", "tool"] (spWIni C) := by
  refine funD_ok F scWIni (fun vs H Q E h => ?_) (fun cdv A outer s H vs Q E hr h => ?_)
  · obtain ⟨o, dx, d, e, fs, ss, zs, z, rfl, _⟩ := h
    rfl
  · have hu1 := Nat.lt_of_le_of_lt (Nat.add_le_add_left (show 1 ≤ 64 by decide) _) hr.units
    obtain ⟨o, dx, d, e, fs, ss, zs, z, rfl, ho, hd, he, g, gs, nm, fl, sl, k⟩ := h
    refine ⟨_, pss_cons (ps_set (i := 4) scWIni.nd rfl (Or.inr rfl) (pe_ifExp (pt_cmp (pc_isN (pv 2))) pe_dnewK (pv 2)))
            (pss_cons (ps_expr (pe_call GCkF (hr.mono (by decide)) rfl aCkF.m aCkF.k aCkF.b .nil pass0 (pa_cons (pv 1) pa_nil)))
            (pss_cons (ps_expr (pe_call GCkS (hr.mono (by decide)) rfl aCkS.m aCkS.k aCkS.b .nil pass0 (pa_cons (pv 4) pa_nil)))
            (pss_cons (ps_fld (pv 0) (pe_dc (own := [("path", 5)]) (g := gName 5) (tt := tYes) rfl scWIni.nd (pi_list (pe_callB (call_sortedD rfl) (by rfl) T.sorted (by decide +kernel) (pa_cons (pv 1) pa_nil))) (blkOk_by (own := [("path", 5)]) (N := ["self", "files", "settings", "tool", "chosen", "path", "name"]) (sc := defScope sWIni) (by decide +kernel)) (fun _ _ _ _ _ => (pg_name (i := 5) scWIni.nd rfl (Or.inl rfl))) (fun _ _ _ _ _ => pts_nil) (fun _ _ _ _ _ => (by exact (pv 5))) (fun _ _ _ _ _ => (by exact (pe_dget hu1 (pv 1) (pv 5) (fun _ _ => rfl))))) rfl)
            (pss_cons (ps_fld (pv 0) (pe_dc (own := [("name", 6)]) (g := gName 6) (tt := tYes) rfl scWIni.nd (pi_list (pe_callB (call_sortedD rfl) (by rfl) T.sorted (by decide +kernel) (pa_cons (pv 4) pa_nil))) (blkOk_by (own := [("name", 6)]) (N := ["self", "files", "settings", "tool", "chosen", "path", "name"]) (sc := defScope sWIni) (by decide +kernel)) (fun _ _ _ _ _ => (pg_name (i := 6) scWIni.nd rfl (Or.inl rfl))) (fun _ _ _ _ _ => pts_nil) (fun _ _ _ _ _ => (by exact (pv 6))) (fun _ _ _ _ _ => (by exact (pe_dget hu1 (pv 4) (pv 6) (fun _ _ => rfl))))) rfl)
            (pss_one (ps_fld (pv 0) (pv 3) rfl)))))), ?_⟩
    have nf : ∀ x ∈ fs, Nms x.1 := fun x hx y hy => nm y ((g.path x hx).2.2 y hy)
    refine ⟨_, rfl, _, rfl, iteF ⟨_, rfl, _, rfl, d, fs, zs, rfl, hd, g, nm, fl, fun H1 s1 => ⟨_, rfl, e, ss, zs, rfl, s1 _ _ he, gs, nm, sl, fun H2 s2 => ?_⟩⟩⟩
    have s12 := s1.trans s2
    have keysF : (fsK fs).map (·.1) = (fs.map fun x => js x.1).map Sum.inr := by
      unfold fsK
      rw [List.map_map, List.map_map]
      rfl
    have keysS : (ssK ss).map (·.1) = (ss.map (·.1)).map Sum.inr := by
      unfold ssK
      rw [List.map_map, List.map_map]
      rfl
    refine ⟨_, rfl, d, fsK fs, fs.map fun x => js x.1, rfl, .inl (s12 _ _ hd), keysF, by rw [List.length_map]; omega, fun ys p pm srt hp => ?_⟩
    obtain ⟨fs', rfl, pf⟩ := perm_lift pm
    have g' := g.perm pf
    have fl' := pf.length_eq
    have s3 := same_mk (o := .lst ((fs'.map fun x => js x.1).map V.str)) hp
    have s13 := s12.trans s3
    have hl3 : upd H2 p (.lst ((fs'.map fun x => js x.1).map V.str)) p = some (.lst (fs'.map fun x => V.str (js x.1))) := by rw [upd_same, List.map_map]; rfl
    generalize upd H2 p (.lst ((fs'.map fun x => js x.1).map V.str)) = H3 at s13 hl3 ⊢
    have ndj : (fs'.map fun x => js x.1).Nodup := by
      have := js_nd (ps := fs'.map (·.1)) (fun q hq => by
        obtain ⟨a, ha, rfl⟩ := List.mem_map.mp hq
        exact nf a (pf.mem_iff.mp ha)) g'.nd
      rw [List.map_map] at this
      exact this
    refine ⟨p, rfl, ⟨_, SqL.of hl3⟩, fun D hD => ?_⟩
    refine lcD (walk_list (K := K) (a := p) (xs := fs'.map fun x => V.str (js x.1))) fs' (fun x => js x.1) (fun x => .str x.2) (by rw [List.length_map]) (by rw [List.length_map]; omega) (fun i H x H' y => ⟨y.1, y.2⟩) ndj hD (fun H' s' => SqL.of (s' _ _ hl3)) ?_ ?_ ?_
    · intro x hx H4 s4 Q1 k1
      exact ⟨_, rfl, k1⟩
    · intro x hx H4 s4 Q1 k1
      have dg := DGet.k (k := .inr (js x.1)) ((s13.trans s4) _ _ hd)
      have hm := pf.mem_iff.mp hx
      rw [fs_val nf (nf x hm), fs_get nf g.nd x hm] at dg
      exact ⟨_, rfl, _, rfl, d, _, rfl, dg, k1⟩
    · intro H4 s4 hD4
      have s14 := s13.trans s4
      refine ⟨_, rfl, o, C, dx, [], rfl, s14 _ _ ho, R.cl, R.n1, by show 0 < 1000; decide, ?_⟩
      have ho4 := s14 _ _ ho
      have eo : e ≠ o := ne_of he ho (by intro z; cases z)
      have Do : D ≠ o := ne_of hD4 ho4 (by intro z; cases z)
      have kp5 : ∀ b u, H b = some u → b ≠ o → upd H4 o (.ins C dx [(("contents" : Str), .ref D)]) b = some u := fun b u hb nb => by
        rw [upd_ne nb]
        exact s14 _ _ hb
      have he5 := kp5 _ _ he eo
      have hD5 : upd H4 o (.ins C dx [(("contents" : Str), .ref D)]) D = some (.dK (fs'.map fun x => (.inr (js x.1), .str x.2))) := by
        rw [upd_ne Do]
        exact hD4
      have ho5 := upd_same (H := H4) (a := o) (o := .ins C dx [(("contents" : Str), .ref D)])
      show tSeq _ _ _ _ (upd H4 o (.ins C dx [(("contents" : Str), .ref D)]))
      generalize upd H4 o (.ins C dx [(("contents" : Str), .ref D)]) = H5 at kp5 he5 hD5 ho5 ⊢
      refine ⟨_, rfl, e, ssK ss, ss.map (·.1), rfl, .inl he5, keysS, by rw [List.length_map]; omega, fun ys p2 pm2 srt2 hp2 => ?_⟩
      obtain ⟨ss', rfl, ps⟩ := perm_lift pm2
      have sl' := ps.length_eq
      have s6 := same_mk (o := .lst ((ss'.map (·.1)).map V.str)) hp2
      have hl6 : upd H5 p2 (.lst ((ss'.map (·.1)).map V.str)) p2 = some (.lst (ss'.map fun x => V.str x.1)) := by rw [upd_same, List.map_map]; rfl
      generalize upd H5 p2 (.lst ((ss'.map (·.1)).map V.str)) = H6 at s6 hl6 ⊢
      refine ⟨p2, rfl, ⟨_, SqL.of hl6⟩, fun D2 hD2 => ?_⟩
      refine lcD (walk_list (K := K) (a := p2) (xs := ss'.map fun x => V.str x.1)) ss' (fun x => x.1) (fun x => .str x.2) (by rw [List.length_map]) (by rw [List.length_map]; omega) (fun i H x H' y => ⟨y.1, y.2⟩) (gs.perm ps).nd hD2 (fun H' s' => SqL.of (s' _ _ hl6)) ?_ ?_ ?_
      · intro x hx H7 s7 Q1 k1
        exact ⟨_, rfl, k1⟩
      · intro x hx H7 s7 Q1 k1
        have dg := DGet.k (k := .inr x.1) ((s6.trans s7) _ _ he5)
        rw [ss_val, ss_get gs.nd x (ps.mem_iff.mp hx)] at dg
        exact ⟨_, rfl, _, rfl, e, _, rfl, dg, k1⟩
      · intro H7 s7 hD7
        have s67 := s6.trans s7
        have ho7 := s67 _ _ ho5
        have D2o : D2 ≠ o := ne_of hD7 ho7 (by intro z; cases z)
        refine ⟨_, rfl, o, C, dx, [(("contents" : Str), .ref D)], rfl, ho7, R.cl, R.n2, by show 1 < 1000; decide, ?_⟩
        refine ⟨_, rfl, _, rfl, o, C, dx, [(("contents" : Str), .ref D), ("chosen", .ref D2)], rfl, upd_same, R.cl, R.n3, by show 2 < 1000; decide, ?_⟩
        refine k _ fs' ss' (fun b u hb nb => ?_) pf ps srt srt2 ⟨dx, D, D2, upd_same, ?_, ?_⟩
        · rw [upd_ne nb, upd_ne nb]
          exact s67 _ _ (kp5 b u hb nb)
        · rw [upd_ne Do, upd_ne Do]
          exact s67 _ _ hD5
        · rw [upd_ne D2o, upd_ne D2o]
          exact hD7
end
end N4

set_option maxHeartbeats 3900000
namespace N4
open PySem PySem.Spec PyProof.Rows L2 TL
open C8 (pss_cut tCut pe_gc)
open CB
abbrev sMade : Stmt := top 45
def spMade (C : Addr) : Sp := fun vs H Q _ => ∃ x fs ss zs z, vs = [.ref x] ∧ WAt H x fs ss z ∧ GoodF zs fs ∧ GoodS zs ss ∧ (∀ y ∈ zs, IsNm y) ∧ fs.length ≤ 50 ∧ ss.length ≤ 50 ∧
  ∀ (o : Addr) (H' : Hp) (fs' : Fs) (ss' : Ss), H o = none → Same H H' → List.Perm fs' fs → List.Perm ss' ss → sortedS (fs'.map fun x => js x.1) = true → sortedS (ss'.map (·.1)) = true → WoAt C H' o fs' ss' z → Q (.ref o) H'
section
variable {P : Program} {w : World} {K : PySem.W.Frag} {mg : Str → Option Value} {base : Heap} {C : Addr}
theorem scMade : FnScope ["_law_w"] ["_law_w"] (defScope sMade) := ⟨rfl, rfl, rfl, by decide +kernel, rfl, by decide +kernel, by decide +kernel⟩
theorem ok_made {f fI : Addr} {fd fdI : FuncData} (F : Fun K "_law_made" "_law_made" sMade f fd) (mDict : mg "dict" = none) (R : WCl K mg C) (mk : Mk K C fI) (bWIni : L2.Binds K fdI ["self", "files", "settings", "tool"] []) (GWIni : FnOk P w K mg base CX0 4 fI fdI ["self", "files", "settings", "tool"] (spWIni C)) :
    FnOk P w K mg base CX0 6 f fd ["_law_w"] (spMade C) := by
  refine F.ok scMade (fun vs H Q E h => ?_) (fun cdv A outer s H vs Q E hr h => ?_)
  · obtain ⟨x, fs, ss, zs, z, rfl, _⟩ := h
    rfl
  · have hu1 := Nat.lt_of_le_of_lt (Nat.add_le_add_left (show 1 ≤ 64 by decide) _) hr.units
    obtain ⟨x, fs, ss, zs, z, rfl, ⟨d, e, hx, hd, he⟩, g, gs, nm, fl, sl, k⟩ := h
    refine ⟨_, pss_one (ps_ret (pe_make mk GWIni (hr.mono (by decide)) rfl R.mg bWIni .nil pass0 (pa_cons (pe_callTy call_dictD (by rfl) mDict (by decide +kernel) (pa_cons (pe_dget hu1 (pv 0) pe_str (fun _ _ => rfl)) pa_nil)) (pa_cons (pe_callTy call_dictD (by rfl) mDict (by decide +kernel) (pa_cons (pe_dget hu1 (pv 0) pe_str (fun _ _ => rfl)) pa_nil)) (pa_cons (pe_dget hu1 (pv 0) pe_str (fun _ _ => rfl)) pa_nil))))), ?_⟩
    refine ⟨_, rfl, x, _, rfl, wd_f hx, d, _, rfl, .inl hd, fun p hp => ?_⟩
    have s1 := same_mk (o := .dK (fsK fs)) hp
    refine ⟨_, rfl, x, _, rfl, wd_s (s1 _ _ hx), e, _, rfl, .inl (s1 _ _ he), fun q hq => ?_⟩
    have s2 := same_mk (o := .dK (ssK ss)) hq
    have s12 := s1.trans s2
    refine ⟨_, rfl, x, _, rfl, wd_t (s12 _ _ hx), ?_⟩
    have hp2 := s2 _ _ (upd_same (H := H) (a := p) (o := .dK (fsK fs)))
    have hq2 := upd_same (H := upd H p (.dK (fsK fs))) (a := q) (o := .dK (ssK ss))
    generalize upd (upd H p (.dK (fsK fs))) q (.dK (ssK ss)) = H2 at s12 hp2 hq2 ⊢
    intro o dx ho hdx hne
    have sm : Same H2 (upd (upd H2 dx (.own o)) o (.ins C dx [])) := fun b u hb => by
      have n1 : b ≠ o := fun e => by rw [e, ho] at hb; cases hb
      have n2 : b ≠ dx := fun e => by rw [e, hdx] at hb; cases hb
      rw [upd_ne n1, upd_ne n2]
      exact hb
    refine ⟨o, dx, p, q, fs, ss, zs, z, rfl, upd_same, sm _ _ hp2, sm _ _ hq2, g, gs, nm, fl, sl, fun H' fs' ss' kp pf ps srt srt2 wo => ⟨rfl, ?_⟩⟩
    refine k o H' fs' ss' (s12.free ho) (fun b u hb => ?_) pf ps srt srt2 wo
    exact kp b u (sm _ _ (s12 _ _ hb)) fun e => by rw [e, s12.free ho] at hb; cases hb
end
end N4

set_option maxHeartbeats 3900000
namespace N4
open PySem PySem.Spec PyProof.Rows L2 TL
open C8 (pss_cut tCut pe_gc)
open CB
abbrev sWEq : Stmt := inClass (top 23) 7
/-- what isinstance asks of the class -/
structure WIs (K : PySem.W.Frag) (C : Addr) : Prop where
  ha : PySem.W.findIn K (.ref C) "__class__" = some (some (.builtin "object.__class__"))
  hn : PySem.W.specialIn K (.builtin "object.__class__") "__get__" = some (some (.builtin "getset_descriptor.__get__"))
  ht : PySem.W.takesIn K (.builtin "object.__class__") = some true
  hm : PySem.W.mroIn K C (.type "object") = some true
  kC : PySem.W.kitOne K (.ref C) (.ref C) = some true
/-- worlds that hold the same -/
def spWEq (C : Addr) : Sp := fun vs H Q _ => ∃ o o2 fs fs' ss ss' zs z, vs = [.ref o, .ref o2] ∧ WoAt C H o fs ss z ∧ WoAt C H o2 fs' ss' z ∧ List.Perm fs fs' ∧ List.Perm ss ss' ∧ GoodF zs fs ∧ GoodS zs ss ∧ (∀ y ∈ zs, IsNm y) ∧ Q (.bl true) H
section
variable {P : Program} {w : World} {K : PySem.W.Frag} {mg : Str → Option Value} {base : Heap} {C : Addr}
theorem scWEq : FnScope ["self", "other"] ["self", "other"] (defScope sWEq) := ⟨rfl, rfl, rfl, by decide +kernel, rfl, by decide +kernel, by decide +kernel⟩
theorem ok_weq {f : Addr} {fd : FuncData} (F : Fun K "__eq__" "World.__eq__" sWEq f fd) (T : TB mg) (R : WCl K mg C) (I : WIs K C) : FnOk P w K mg base CX0 1 f fd ["self", "other"] (spWEq C) := by
  refine F.ok scWEq (fun vs H Q E h => ?_) (fun cdv A outer s H vs Q E hr h => ?_)
  · obtain ⟨o, o2, fs, fs', ss, ss', zs, z, rfl, _⟩ := h
    rfl
  · have hu0 := hr.units0
    obtain ⟨o, o2, fs, fs', ss, ss', zs, z, rfl, ⟨dx, d, e, ho, hd, he⟩, ⟨dy, d2, e2, ho2, hd2, he2⟩, pf, ps, g, gs, nm, k⟩ := h
    refine ⟨_, pss_one (ps_ret (pe_and (pe_callB call_isi (by rfl) T.isinstance (by decide +kernel) (pa_cons (pv 1) (pa_cons (pe_glob (v := .ref C) rfl R.mg rfl) pa_nil))) (pe_and (pe_cmpR (op_eq_dictA hu0) (pe_fld (pv 0) rfl) (pe_fld (pv 1) rfl) (nomark _)) (pe_and (pe_cmpR (op_eq_dictA hu0) (pe_fld (pv 0) rfl) (pe_fld (pv 1) rfl) (nomark _)) (pe_one (pe_cmpR op_eq (pe_fld (pv 0) rfl) (pe_fld (pv 1) rfl) (nomark _))))))), ?_⟩
    have g' := g.perm pf.symm
    have gs' := gs.perm ps.symm
    have nf : ∀ x ∈ fs', Nms x.1 := fun x hx y hy => nm y ((g'.path x hx).2.2 y hy)
    refine ⟨_, rfl, _, _, .ref C, .ref C, true, rfl, .own C, .base (.ins ho2 R.cl I.ha I.hn I.ht I.hm), I.kC, _, rfl, iteT ?_⟩
    refine ⟨_, rfl, o, C, dx, _, _, rfl, ho, R.cl, R.n1, lk_1, _, rfl, o2, C, dy, _, _, rfl, ho2, R.cl, R.n1, lk_1, d, d2, fsK fs, fsK fs', rfl, rfl, hd, hd2, ?_, fun p hp => ?_, _, rfl, iteT ?_⟩
    · unfold fsK
      rw [List.length_map, List.length_map, pf.length_eq]
    · obtain ⟨x, hx, rfl⟩ := List.mem_map.mp hp
      have hm := pf.mem_iff.mp hx
      exact ⟨by show valV (fsK fs') (.inr (js x.1)) = _; rw [fs_val nf (nf x hm), fs_get nf g'.nd x hm]; rfl, rfl⟩
    refine ⟨_, rfl, o, C, dx, _, _, rfl, ho, R.cl, R.n2, lk_2, _, rfl, o2, C, dy, _, _, rfl, ho2, R.cl, R.n2, lk_2, e, e2, ssK ss, ssK ss', rfl, rfl, he, he2, ?_, fun p hp => ?_, _, rfl, iteT ?_⟩
    · unfold ssK
      rw [List.length_map, List.length_map, ps.length_eq]
    · obtain ⟨x, hx, rfl⟩ := List.mem_map.mp hp
      have hm := ps.mem_iff.mp hx
      exact ⟨by show valV (ssK ss') (.inr x.1) = _; rw [ss_val, ss_get gs'.nd x hm]; rfl, rfl⟩
    refine ⟨_, rfl, o, C, dx, _, _, rfl, ho, R.cl, R.n3, lk_3, _, rfl, o2, C, dy, _, _, rfl, ho2, R.cl, R.n3, lk_3, rfl, ?_⟩
    rw [decide_eq_true rfl]
    exact k
end
end N4

set_option maxHeartbeats 3900000
/-! repr of data; defs that are called where no repr is under way. -/
namespace RP
open PySem PySem.Spec PyProof.Rows L2
/-- a key as data -/
def kD : Key → PyData
  | .inl i => .int i
  | .inr x => .str x
mutual
/-- what the value v is, read off the tracked heap -/
inductive Dq (K : PySem.W.Frag) (H : Hp) : V → PyData → Prop
  | non : Dq K H .non .none
  | bl (b : Bool) : Dq K H (.bl b) (.bool b)
  | int (i : Int) : Dq K H (.int i) (.int i)
  | str (x : Str) : Dq K H (.str x) (.str x)
  | lst {a : Addr} {xs : List V} {ds : List PyData} : H a = some (.lst xs) → DqAll K H xs ds → Dq K H (.ref a) (.list ds)
  | tup {a : Addr} {xs : List V} {ds : List PyData} : H a = some (.tup xs) → DqAll K H xs ds → Dq K H (.ref a) (.tuple ds)
  | dct {a : Addr} {kvs : List (Key × V)} {ds : List PyData} : H a = some (.dK kvs) → DqAll K H (kvs.map (·.2)) ds → Dq K H (.ref a) (.dict ((kvs.map fun p => kD p.1).zip ds))
inductive DqAll (K : PySem.W.Frag) (H : Hp) : List V → List PyData → Prop
  | nil : DqAll K H [] []
  | cons {v : V} {vs : List V} {d : PyData} {ds : List PyData} : Dq K H v d → DqAll K H vs ds → DqAll K H (v :: vs) (d :: ds)
end
mutual
theorem Dq.up {K : PySem.W.Frag} {H H' : Hp} (e : ∀ a o, H a = some o → H' a = some o) : ∀ {v : V} {d : PyData}, Dq K H v d → Dq K H' v d
  | _, _, .non => .non
  | _, _, .bl b => .bl b
  | _, _, .int i => .int i
  | _, _, .str x => .str x
  | _, _, .lst h t => .lst (e _ _ h) (DqAll.up e t)
  | _, _, .tup h t => .tup (e _ _ h) (DqAll.up e t)
  | _, _, .dct h t => .dct (e _ _ h) (DqAll.up e t)
theorem DqAll.up {K : PySem.W.Frag} {H H' : Hp} (e : ∀ a o, H a = some o → H' a = some o) : ∀ {vs : List V} {ds : List PyData}, DqAll K H vs ds → DqAll K H' vs ds
  | _, _, .nil => .nil
  | _, _, .cons h t => .cons (Dq.up e h) (DqAll.up e t)
end
theorem DqAll.length {K : PySem.W.Frag} {H : Hp} : ∀ {vs : List V} {ds : List PyData}, DqAll K H vs ds → vs.length = ds.length
  | _, _, .nil => rfl
  | _, _, .cons _ t => congrArg Nat.succ t.length
section
variable {X : Cx} {pins : List (Addr × Obj)} {σ : L2.St} {H : Hp} {s : Shared}
/-- sys.modules is no tracked object -/
theorem not_sys (I : Inv X pins σ H s) (SM : (X.base.get? sysModules).isSome = true) {a : Addr} {o : HO} (h : H a = some o) : a ≠ sysModules := fun z => by
  obtain ⟨u, hu⟩ := Option.isSome_iff_exists.mp SM
  have := (I.bs _ _ hu).2
  rw [← z, h] at this
  cases this
theorem keys_read {P : Program} {w : World} {h : Heap} : ∀ {es : List DictEntry} {kvs : List (Key × V)} {vs : List (Key × Value)}, Pairs (mixKind P w) es vs → KV kvs vs → ReadsAll h (es.map (·.key)) (kvs.map fun p => kD p.1) []
  | _, _, _, .nil, .nil => .nil
  | _, _, _, .cons (e := e) (kv := kv) k1 _ t, .cons r q => by
    have ih := keys_read (h := h) t q
    obtain ⟨e1, _⟩ := r
    rw [List.map_cons, List.map_cons, e1]
    have k1' : keyIs kv.1 e.key = true := k1
    rcases keyIs_shape k1' with ⟨i, t, hk, hv⟩ | ⟨x, t, hk, hv⟩
    · rw [hk, hv]
      exact .cons (.int i t) ih
    · rw [hk, hv]
      exact .cons (.str x t) ih
theorem vals_read {P : Program} {w : World} : ∀ {es : List DictEntry} {kvs : List (Key × V)} {vs : List (Key × Value)}, Pairs (mixKind P w) es vs → KV kvs vs → Vals (kvs.map (·.2)) (es.map (·.val))
  | _, _, _, .nil, .nil => .nil
  | _, _, _, .cons _ k2 t, .cons r q => by
    have ih := vals_read t q
    obtain ⟨_, e2⟩ := r
    rw [List.map_cons, List.map_cons, k2]
    exact .cons e2 ih
mutual
theorem Dq.reads (I : Inv X pins σ H s) (SM : (X.base.get? sysModules).isSome = true) : ∀ {v : V} {d : PyData} {u : Value}, Dq X.K H v d → RelV v u → ∃ as, Reads s.heap u d as ∧ sysModules ∉ as
  | _, _, _, .non, r => by
    cases r
    exact ⟨_, Reads.none, by simp⟩
  | _, _, _, .bl b, r => by
    cases r
    exact ⟨_, Reads.bool b, by simp⟩
  | _, _, _, .int i, r => by
    obtain ⟨t, rfl⟩ := r
    exact ⟨_, Reads.int i t, by simp⟩
  | _, _, _, .str x, r => by
    obtain ⟨t, rfl⟩ := r
    exact ⟨_, Reads.str x t, by simp⟩
  | _, _, _, .lst (a := a) h ha, r => by
    cases r
    obtain ⟨_, its, n, rv, ho⟩ := (show ObjOk X.prog X.w H s.heap a (.lst _) from I.hok a _ h)
    obtain ⟨as, hr, hn⟩ := DqAll.reads I SM ha rv
    exact ⟨_, Reads.list ho rfl rfl hr, by
      intro z
      rcases List.mem_cons.mp z with z | z
      · exact not_sys I SM h z.symm
      · exact hn z⟩
  | _, _, _, .tup (a := a) h ha, r => by
    cases r
    obtain ⟨_, its, rv, o, ho, hc, n, hd⟩ := (show ObjOk X.prog X.w H s.heap a (.tup _) from I.hok a _ h)
    obtain ⟨as, hr, hn⟩ := DqAll.reads I SM ha rv
    exact ⟨_, Reads.tuple ho hc hd hr, hn⟩
  | _, _, _, .dct (a := a) (kvs := kvs) (ds := ds) h ha, r => by
    cases r
    obtain ⟨_, _, vs, rel, o, es, ep, ho, ex, hd, _, pr, _⟩ := (show ObjOk X.prog X.w H s.heap a (.dK kvs) from I.hok a _ h)
    obtain ⟨bs, hr, hn⟩ := DqAll.reads I SM ha (vals_read pr rel)
    have le : (kvs.map fun p => kD p.1).length = ds.length := by
      have := ha.length
      rw [List.length_map] at this ⊢
      exact this
    refine ⟨_, Reads.dict ho ex.1 hd (as := []) (bs := bs) ?_ ?_, ?_⟩
    · rw [List.map_fst_zip (by omega)]
      exact keys_read pr rel
    · rw [List.map_snd_zip (by omega)]
      exact hr
    · intro z
      rcases List.mem_cons.mp z with z | z
      · exact not_sys I SM h z.symm
      · exact hn z
theorem DqAll.reads (I : Inv X pins σ H s) (SM : (X.base.get? sysModules).isSome = true) : ∀ {vs : List V} {ds : List PyData} {us : List Value}, DqAll X.K H vs ds → Vals vs us → ∃ as, ReadsAll s.heap us ds as ∧ sysModules ∉ as
  | _, _, _, .nil, r => by
    cases r
    exact ⟨_, ReadsAll.nil, by simp⟩
  | _, _, _, .cons h t, r => by
    cases r with
    | cons r1 r2 =>
      obtain ⟨as, q1, n1⟩ := Dq.reads I SM h r1
      obtain ⟨bs, q2, n2⟩ := DqAll.reads I SM t r2
      exact ⟨_, ReadsAll.cons q1 q2, by
        intro z
        rcases List.mem_append.mp z with z | z
        · exact n1 z
        · exact n2 z⟩
end
/-- repr(x) -/
def rRep (K : PySem.W.Frag) : List V → Hp → VK → Prop := fun xs H Q => ∃ (v : V) (d : PyData), xs = [v] ∧ Dq K H v d ∧ d.showable = true ∧ d.depth ≤ 20 ∧ d.shown.length ≤ sizeLine ∧ Q (.str d.shown) H
theorem call_repr (SM : (X.base.get? sysModules).isSome = true) (hg : X.A.guards = some []) (hu : X.A.units + 64 < cLine) : CallR X (.builtin "repr") (rRep X.K) := by
  intro pins s σ H xs us Q I r h
  obtain ⟨v, d, rfl, hd, sh, dp, sz, q⟩ := h
  cases r with
  | cons rx rr =>
    cases rr
    obtain ⟨as, hr, hn⟩ := hd.reads I SM rx
    have fin : ∀ h' u tk, (∀ b o, s.heap.get? b = some o → h'.get? b = some o) → EP X pins σ Q (.str d.shown u) { s with heap := h', toks := tk } := fun h' u tk k => ⟨.str d.shown, H, I.kept (t' := tk) k, ⟨u, rfl⟩, q⟩
    cases hd with
    | non =>
      cases rx
      exact PySem.P.repr_of_none (fin s.heap _ _ fun _ _ e => e)
    | bl b =>
      cases rx
      exact PySem.P.repr_of_bool (fin s.heap _ _ fun _ _ e => e)
    | int i =>
      obtain ⟨t, rfl⟩ := rx
      exact PySem.P.repr_of_int (of_decide_eq_true sh) (fin s.heap _ _ fun _ _ e => e)
    | str x =>
      obtain ⟨t, rfl⟩ := rx
      exact PySem.P.repr_of_str (fin s.heap _ _ fun _ _ e => e) sz
    | lst h1 h2 =>
      cases rx
      exact PySem.repr_of_reads' hr sh (fun _ => hn) hg (by omega) (fun _ _ e => e) fin sz
    | tup h1 h2 =>
      cases rx
      exact PySem.repr_of_reads' hr sh (fun _ => hn) hg (by omega) (fun _ _ e => e) fin sz
    | dct h1 h2 =>
      cases rx
      exact PySem.repr_of_reads' hr sh (fun _ => hn) hg (by omega) (fun _ _ e => e) fin sz
end
/-! ### defs that are called where no repr is under way -/
structure FnG (P : Program) (w : World) (K : PySem.W.Frag) (mg : Str → Option Value) (base : Heap) (CX : CXT) (k : Nat) (f : Addr) (fd : FuncData) (ps : List Str) (sp : Sp) : Prop where
  len : ∀ vs H Q E, sp vs H Q E → vs.length = ps.length
  run : ∀ (A : Around) (outer : List Env) (s : Shared) (H : Hp) (args : Args) (us : List Value) (vs : List V) (Q : VK) (E : XK), A.guards = some [] → Room k A → Env0 P w K mg base A outer s H → BindsTo s fd args (ps.zip us) → Vals vs us → sp vs H Q E →
    codeAny (model P w) A (.call (.ref f) args) (CR CX outer P w H s Q E) s
theorem FnG.of {P : Program} {w : World} {K : PySem.W.Frag} {mg : Str → Option Value} {base : Heap} {CX : CXT} {k : Nat} {f : Addr} {fd : FuncData} {ps : List Str} {sp : Sp} (F : FnOk P w K mg base CX k f fd ps sp) : FnG P w K mg base CX k f fd ps sp :=
  ⟨F.len, fun A outer s H args us vs Q E _ hr e0 hb rv q => F.run A outer s H args us vs Q E hr e0 hb rv q⟩
theorem okG {P : Program} {w : World} {K : PySem.W.Frag} {mg : Str → Option Value} {base : Heap} {x qual : Str} {st : Stmt} {f : Addr} {fd : FuncData} {N ps : List Str} {k : Nat} {sp : Sp} (F : Fun K x qual st f fd) (S : FnScope N ps (defScope st))
    (len : ∀ vs H Q E, sp vs H Q E → vs.length = ps.length)
    (body : ∀ (cdv : Value) (A : Around) (outer : List Env) (s : Shared) (H : Hp) (vs : List V) (Q : VK) (E : XK), A.guards = some [] → Room k (A.deeper (envOfC qual (defScope st) s.heap.objs.size f cdv)) → sp vs H Q E →
      ∃ t, PSs (cxOf CX0 P w K mg base N qual (defScope st) f cdv A outer s H E).nox (defBody st) t ∧ t { nx := fun _ H' => Q .non H', rt := Q } (start N vs) H) : FnG P w K mg base CX0 (k + 1) f fd ps sp := by
  obtain ⟨oc, od, kV, doc, pm, an, cdv, ct, osl, rfl, lk, hcd⟩ := F.ex
  refine ⟨len, fun A outer s H args us vs Q E hg hr e0 hb rv q => ?_⟩
  refine LamX.run_ofS lk hcd S hr e0 hb rv (len _ _ _ _ q) fun hr' => ?_
  obtain ⟨t, h1, h2⟩ := body cdv A outer s H vs Q E hg hr' q
  exact ⟨t, h1.nox, h2⟩
section
variable {X : Cx} {CX : CXT} {k : Nat} {f : Addr} {fd : FuncData} {ps : List Str} {sp : Sp} {E : XK} {x : Str} {p pos : Pos} {e : Expr} {es : List Expr} {t : TA}
theorem pe_callG (F : FnG X.prog X.w X.K X.mg X.base CX k f fd ps sp) (hG : X.A.guards = some []) (hr : Room k X.A) (hg : Gl X x) (hm : X.mg x = some (.ref f)) (hk : PySem.W.keepIn X.K (.ref f) = true) (hb : Binds X.K fd ps []) (hx : Passes CX X E)
    (ha : PA X (e :: es) t) (hdb : (x == ("__debug__" : Str)) = false := by decide) (he : starEach (e :: es) X.env = (false, eval e X.env) :: starEach es X.env := by rfl) (hpl : (backTo pos (starEach es X.env)).any (·.1) = false := by rfl) :
    PE X (.Call (.Name x p) (e :: es) [] pos) (tCall sp [] E t) := by
  refine ⟨fun pins s σ H Q I h => ?_⟩
  refine wpAny_Call_Name_kw (ld_glob I hg hm ?_ hdb)
  refine PySem.W.callWith_K (h₀ := X.base) I.ok.mod.kin hk (thn (ha.run pos pins s σ H _ I h) fun us s1 ⟨vs, H1, I1, r, q⟩ => ⟨I1.kIn, ?_⟩) he hpl
  have q : sp vs H1 Q E := by
    have z : sp (vs ++ []) H1 Q E := q
    rw [List.append_nil] at z
    exact z
  have hl : us.length = ps.length := r.length.symm.trans (F.len _ _ _ _ q)
  have hbt := hb s1 us I1.kIn (by rw [List.append_nil]; exact hl)
  rw [List.append_nil] at hbt
  refine wpAny_call (codeAny_mono (F.run X.A X.stack s1 H1 ⟨us, []⟩ us vs Q E hG hr I1.env0 hbt r q) fun r s' hq => ?_)
  cases r with
  | error e => exact hx pins σ H1 s1 e s' I1 hq
  | ok fl =>
    cases fl with
    | ret u => exact I1.after hq
    | next => exact False.elim hq
    | brk => exact False.elim hq
    | cont => exact False.elim hq
end
end RP

set_option maxHeartbeats 3900000
namespace N4
open PySem PySem.Spec PyProof.Rows L2 TL RP
open C8 (pss_cut tCut pe_gc)
open CB
structure Fine (d : PyData) (dep n : Nat) : Prop where
  sh : d.showable = true
  dp : d.depth ≤ dep
  sz : d.shown.length ≤ n
theorem piled_le : ∀ (ts : List Str) (n : Nat), (∀ t ∈ ts, t.length ≤ n) → piled ts ≤ ts.length * (n + 2)
  | [], n, _ => by
    rw [piled_nil]
    omega
  | t :: r, n, h => by
    have ih := piled_le r n fun u hu => h u (List.mem_cons_of_mem _ hu)
    have h1 := h t List.mem_cons_self
    rw [piled_cons, List.length_cons, Nat.succ_mul]
    omega
theorem listText_le (ts : List Str) (n : Nat) (h : ∀ t ∈ ts, t.length ≤ n) : (listText ts).length ≤ 2 + ts.length * (n + 2) := by
  have pl := piled_le ts n h
  cases ts with
  | nil =>
    show 2 ≤ 2 + 0 * (n + 2)
    omega
  | cons t r =>
    have e : (listText (t :: r)).length = (textFrom 1 (("[" : Str) ++ (if 0 > 0 then ", " else "" : String) ++ t) r).length + 1 := by
      show ((textFrom 0 "[" (t :: r)) ++ ("]" : String)).length = _
      rw [strLen_append]
      rfl
    rw [e, textFrom_length_pos r 1 _ (by decide), strLen_append, strLen_append]
    rw [piled_cons] at pl
    have e1 : (("[" : String) : Str).length = 1 := rfl
    have e2 : (((if 0 > 0 then ", " else "" : String)) : Str).length = 0 := rfl
    rw [e1, e2]
    omega
theorem tupText_le (a b : Str) (n : Nat) (ha : a.length ≤ n) (hb : b.length ≤ n) : (tupleText [a, b]).length ≤ 2 * n + 6 := by
  unfold tupleText
  rw [strLen_append, strLen_append]
  have h := join_length_add [a, b] (by simp)
  rw [piled_cons, piled_cons, piled_nil] at h
  have e1 : ((("(" : String) : Str)).length = 1 := rfl
  have e3 : (((if [a, b].length == 1 then ",)" else ")" : String) : Str)).length = 1 := rfl
  rw [e1, e3]
  omega
theorem shown_mem : ∀ {ds : List PyData} {t : Str}, t ∈ PyData.shownAll ds → ∃ d ∈ ds, t = d.shown
  | [], t, h => by simp [PyData.shownAll] at h
  | d :: r, t, h => by
    simp only [PyData.shownAll] at h
    rcases List.mem_cons.mp h with rfl | h
    · exact ⟨d, List.mem_cons_self, rfl⟩
    · obtain ⟨e, he, q⟩ := shown_mem h
      exact ⟨e, List.mem_cons_of_mem _ he, q⟩
theorem shownAll_len : ∀ ds : List PyData, (PyData.shownAll ds).length = ds.length
  | [] => by simp [PyData.shownAll]
  | d :: r => by simp [PyData.shownAll, shownAll_len r]
theorem showAll : ∀ ds : List PyData, (∀ d ∈ ds, d.showable = true) → PyData.showableAll ds = true
  | [], _ => by simp [PyData.showableAll]
  | d :: r, h => by simp [PyData.showableAll, h d List.mem_cons_self, showAll r fun u hu => h u (List.mem_cons_of_mem _ hu)]
theorem depAll (n : Nat) : ∀ ds : List PyData, (∀ d ∈ ds, d.depth ≤ n) → PyData.depthAll ds ≤ n
  | [], _ => by simp [PyData.depthAll]
  | d :: r, h => by
    have h1 := h d List.mem_cons_self
    have h2 := depAll n r fun u hu => h u (List.mem_cons_of_mem _ hu)
    simp only [PyData.depthAll]
    omega
theorem Fine.lst {ds : List PyData} {dep n m : Nat} (h : ∀ d ∈ ds, Fine d dep n) (hm : 2 + ds.length * (n + 2) ≤ m) : Fine (.list ds) (dep + 1) m := by
  refine ⟨?_, ?_, ?_⟩
  · simp only [PyData.showable]
    exact showAll ds fun d hd => (h d hd).sh
  · simp only [PyData.depth]
    exact Nat.succ_le_succ (depAll dep ds fun d hd => (h d hd).dp)
  · simp only [PyData.shown]
    have q := listText_le (PyData.shownAll ds) n fun t ht => by
      obtain ⟨d, hd, rfl⟩ := shown_mem ht
      exact (h d hd).sz
    rw [shownAll_len] at q
    exact Nat.le_trans q hm
theorem Fine.pair {a b : PyData} {dep n : Nat} (ha : Fine a dep n) (hb : Fine b dep n) : Fine (.tuple [a, b]) (dep + 1) (2 * n + 6) := by
  refine ⟨?_, ?_, ?_⟩
  · simp only [PyData.showable]
    exact showAll [a, b] fun d hd => by
      rcases List.mem_cons.mp hd with rfl | hd
      · exact ha.sh
      · rw [List.mem_singleton.mp hd]; exact hb.sh
  · simp only [PyData.depth]
    exact Nat.succ_le_succ (depAll dep [a, b] fun d hd => by
      rcases List.mem_cons.mp hd with rfl | hd
      · exact ha.dp
      · rw [List.mem_singleton.mp hd]; exact hb.dp)
  · simp only [PyData.shown, PyData.shownAll]
    exact tupText_le _ _ n ha.sz hb.sz
theorem fine_bool (b : Bool) : Fine (.bool b) 0 10 := ⟨by simp [PyData.showable], by simp [PyData.depth], by cases b <;> (simp only [PyData.shown]; decide)⟩
def strL (l : List Str) : PyData := .list (l.map .str)
theorem dq_strs {K : PySem.W.Frag} {H : Hp} : ∀ l : List Str, DqAll K H (l.map V.str) (l.map PyData.str)
  | [] => .nil
  | z :: r => .cons (.str z) (dq_strs r)
theorem dq_strL {K : PySem.W.Frag} {H : Hp} {a : Addr} {l : List Str} (h : H a = some (.lst (l.map V.str))) : Dq K H (.ref a) (strL l) := .lst h (dq_strs l)
theorem Fine.up {d : PyData} {a n b m : Nat} (h : Fine d a n) (h1 : a ≤ b) (h2 : n ≤ m) : Fine d b m := ⟨h.sh, Nat.le_trans h.dp h1, Nat.le_trans h.sz h2⟩
theorem tupTextN_le (ts : List Str) (n : Nat) (h : ∀ t ∈ ts, t.length ≤ n) : (tupleText ts).length ≤ 3 + ts.length * (n + 2) := by
  have pl := piled_le ts n h
  unfold tupleText
  rw [strLen_append, strLen_append]
  have e1 : ((("(" : String) : Str)).length = 1 := rfl
  have e3 : (((if ts.length == 1 then ",)" else ")" : String) : Str)).length ≤ 2 := by
    by_cases q : (ts.length == 1) = true
    · rw [if_pos q]
      exact Nat.le_refl _
    · rw [if_neg q]
      exact Nat.le_succ _
  by_cases e : ts = []
  · subst e
    have e4 : ((Str.ofString ", ").join ([] : List Str)).length = 0 := by decide +kernel
    rw [e1, e4]
    omega
  · have j := join_length_add ts e
    rw [e1]
    omega
theorem Fine.tup {ds : List PyData} {dep n m : Nat} (h : ∀ d ∈ ds, Fine d dep n) (hm : 3 + ds.length * (n + 2) ≤ m) : Fine (.tuple ds) (dep + 1) m := by
  refine ⟨?_, ?_, ?_⟩
  · simp only [PyData.showable]
    exact showAll ds fun d hd => (h d hd).sh
  · simp only [PyData.depth]
    exact Nat.succ_le_succ (depAll dep ds fun d hd => (h d hd).dp)
  · simp only [PyData.shown]
    have q := tupTextN_le (PyData.shownAll ds) n fun t ht => by
      obtain ⟨d, hd, rfl⟩ := shown_mem ht
      exact (h d hd).sz
    rw [shownAll_len] at q
    exact Nat.le_trans q hm
theorem fine_str {z : Str} {n : Nat} (hc : ∀ c ∈ tl z, c < 16 ^ 8) (hn : z.length ≤ n) : Fine (.str z) 0 (10 * n + 2) := by
  refine ⟨by simp [PyData.showable], by simp [PyData.depth], ?_⟩
  have q := PySem.StrLaws.reprText_len z hc
  simp only [PyData.shown]
  omega
theorem fine_non : Fine .none 0 10 := ⟨by simp [PyData.showable], by simp [PyData.depth], by simp only [PyData.shown]; decide⟩
end N4

set_option maxHeartbeats 3900000
namespace N4
open PySem PySem.Spec PyProof.Rows L2 TL RP
open C8 (pss_cut tCut pe_gc)
open CB
abbrev sSame : Stmt := top 36
def spSame (K : PySem.W.Frag) : Sp := fun vs H Q _ => ∃ (v u : V) (d : PyData), vs = [v, u] ∧ Dq K H v d ∧ Dq K H u d ∧ Fine d 20 100000 ∧ Q (.bl true) H
section
variable {P : Program} {w : World} {K : PySem.W.Frag} {mg : Str → Option Value} {base : Heap} {C CB fB fAn : Addr} {fdAn : FuncData}
theorem scSame : FnScope ["_law_found", "_law_due"] ["_law_found", "_law_due"] (defScope sSame) := ⟨rfl, rfl, rfl, by decide +kernel, rfl, by decide +kernel, by decide +kernel⟩
theorem ok_same {f : Addr} {fd : FuncData} (F : Fun K "_law_same" "_law_same" sSame f fd) (mRepr : mg "repr" = none) (SM : (base.get? sysModules).isSome = true) : FnG P w K mg base CX0 1 f fd ["_law_found", "_law_due"] (spSame K) := by
  refine okG F scSame (fun vs H Q E h => ?_) (fun cdv A outer s H vs Q E hg hr h => ?_)
  · obtain ⟨v, u, d, rfl, _⟩ := h
    rfl
  · obtain ⟨v, u, d, rfl, h1, h2, fi, k⟩ := h
    have hu := hr.units
    have sz' : d.shown.length ≤ sizeLine := Nat.le_trans fi.sz (by decide)
    refine ⟨_, pss_one (ps_ret (pe_cmpR op_eq (pe_callB (call_repr SM hg hu) (by rfl) mRepr (by decide +kernel) (pa_cons (pv 0) pa_nil)) (pe_callB (call_repr SM hg hu) (by rfl) mRepr (by decide +kernel) (pa_cons (pv 1) pa_nil)) (nomark _))), ?_⟩
    refine ⟨_, rfl, v, d, rfl, h1, fi.sh, fi.dp, sz', _, rfl, u, d, rfl, h2, fi.sh, fi.dp, sz', rfl, ?_⟩
    show Q (.bl (decide (V.str d.shown = V.str d.shown))) H
    rw [decide_eq_true rfl]
    exact k
theorem lk_an (u v t : V) : List.lookup ("answer" : Str) [(("contents" : Str), u), ("chosen", v), ("tool", t)] = none := by
  have h1 : (("answer" : Str) == ("contents" : Str)) = false := by decide +kernel
  have h2 : (("answer" : Str) == ("chosen" : Str)) = false := by decide +kernel
  have h3 : (("answer" : Str) == ("tool" : Str)) = false := by decide +kernel
  simp only [List.lookup, h1, h2, h3]
end
end N4

set_option maxHeartbeats 3900000
namespace N4
open PySem PySem.Spec PyProof.Rows L2 TL RP
open C8 (pss_cut tCut pe_gc)
open CB
theorem lt_tri : ∀ a b : List Nat, a < b ∨ a = b ∨ b < a
  | [], [] => .inr (.inl rfl)
  | [], y :: b => .inl (List.nil_lt_cons y b)
  | x :: a, [] => .inr (.inr (List.nil_lt_cons x a))
  | x :: a, y :: b => by
    rcases Nat.lt_trichotomy x y with h | h | h
    · exact .inl (List.cons_lt_cons_iff.mpr (.inl h))
    · subst h
      rcases lt_tri a b with g | g | g
      · exact .inl (List.cons_lt_cons_iff.mpr (.inr ⟨rfl, g⟩))
      · exact .inr (.inl (by rw [g]))
      · exact .inr (.inr (List.cons_lt_cons_iff.mpr (.inr ⟨rfl, g⟩)))
    · exact .inr (.inr (List.cons_lt_cons_iff.mpr (.inl h)))
theorem lt_tr : ∀ a b c : List Nat, a < b → b < c → a < c := fun _ _ _ h g => List.lt_trans h g
theorem rising_pw : ∀ (p : Str) (l : List Str), risingS p l = true → (p :: l).Nodup → (p :: l).Pairwise (fun a b : Str => a.cps.toList < b.cps.toList)
  | p, [], _, _ => List.pairwise_singleton _ _
  | p, x :: r, h, nd => by
    have h : (!ltCps x.cps.toList p.cps.toList && risingS x r) = true := h
    rw [Bool.and_eq_true] at h
    obtain ⟨h1, h2⟩ := h
    rw [ltCps_eq] at h1
    have nd2 := List.nodup_cons.mp nd
    have ih := rising_pw x r h2 nd2.2
    have px : p.cps.toList < x.cps.toList := by
      rcases lt_tri p.cps.toList x.cps.toList with g | g | g
      · exact g
      · exact absurd (by rw [ext_tl g]; exact List.mem_cons_self) nd2.1
      · rw [decide_eq_true g] at h1
        cases h1
    refine List.pairwise_cons.mpr ⟨fun y hy => ?_, ih⟩
    rcases List.mem_cons.mp hy with e | e
    · rw [e]
      exact px
    · exact lt_tr _ _ _ px ((List.pairwise_cons.mp ih).1 y e)
theorem sorted_pw {l : List Str} (h : sortedS l = true) (nd : l.Nodup) : l.Pairwise (fun a b : Str => a.cps.toList < b.cps.toList) := by
  cases l with
  | nil => exact .nil
  | cons p r => exact rising_pw p r h nd
theorem strict_ext {α : Type} (R : α → α → Prop) (irr : ∀ a, ¬ R a a) (asym : ∀ a b, R a b → R b a → False) : ∀ l l' : List α, l.Pairwise R → l'.Pairwise R → (∀ x, x ∈ l ↔ x ∈ l') → l = l'
  | [], [], _, _, _ => rfl
  | [], b :: r, _, _, h => absurd ((h b).mpr List.mem_cons_self) (by simp)
  | a :: r, [], _, _, h => absurd ((h a).mp List.mem_cons_self) (by simp)
  | a :: r, b :: t, p, q, h => by
    obtain ⟨pa, pr⟩ := List.pairwise_cons.mp p
    obtain ⟨qb, qt⟩ := List.pairwise_cons.mp q
    have e : a = b := by
      rcases List.mem_cons.mp ((h a).mp List.mem_cons_self) with e | ha
      · exact e
      · rcases List.mem_cons.mp ((h b).mpr List.mem_cons_self) with e | hb
        · exact e.symm
        · exact (asym a b (pa b hb) (qb a ha)).elim
    subst e
    rw [strict_ext R irr asym r t pr qt fun x => ⟨fun hx => ?_, fun hx => ?_⟩]
    · rcases List.mem_cons.mp ((h x).mp (List.mem_cons_of_mem _ hx)) with e | g
      · exact (irr a (e ▸ pa x hx)).elim
      · exact g
    · rcases List.mem_cons.mp ((h x).mpr (List.mem_cons_of_mem _ hx)) with e | g
      · exact (irr a (e ▸ qb x hx)).elim
      · exact g
theorem nd_len {α : Type} [DecidableEq α] : ∀ (l m : List α), l.Nodup → (∀ x ∈ l, x ∈ m) → l.length ≤ m.length
  | [], m, _, _ => Nat.zero_le _
  | a :: r, m, nd, h => by
    have ha := h a List.mem_cons_self
    have n1 := List.nodup_cons.mp nd
    have ih := nd_len r (m.erase a) n1.2 fun x hx => (List.mem_erase_of_ne fun (e : x = a) => n1.1 (by rw [← e]; exact hx)).mpr (h x (List.mem_cons_of_mem _ hx))
    rw [List.length_erase_of_mem ha] at ih
    have pos := List.length_pos_of_mem ha
    rw [List.length_cons]
    omega
/-! what a look shows of two worlds that hold the same is shown alike -/
theorem fOf_some {fs : Fs} {p : List Str} {t : Str} (h : fOf fs p = some t) : ∃ e ∈ fs, e.1 = p ∧ e.2 = t := by
  unfold fOf at h
  obtain ⟨e, he, rfl⟩ := Option.map_eq_some_iff.mp h
  exact ⟨e, List.mem_of_find?_eq_some he, of_decide_eq_true (List.find?_some (p := fun e : List Str × Str => decide (e.1 = p)) he), rfl⟩
theorem sOf_some {ss : Ss} {p : Str} {t : Str} (h : sOf ss p = some t) : ∃ e ∈ ss, e.1 = p ∧ e.2 = t := by
  unfold sOf at h
  obtain ⟨e, he, rfl⟩ := Option.map_eq_some_iff.mp h
  exact ⟨e, List.mem_of_find?_eq_some he, of_decide_eq_true (List.find?_some (p := fun e : Str × Str => decide (e.1 = p)) he), rfl⟩
theorem fOf_perm {fs fs' : Fs} {p : List Str} (h : ∀ e ∈ fs, Nms e.1) (pf : fs'.Perm fs) (nd : (fs.map (·.1)).Nodup) : fOf fs' p = fOf fs p := by
  have nd' : (fs'.map (·.1)).Nodup := (pf.map _).nodup_iff.mpr nd
  have h' : ∀ e ∈ fs', Nms e.1 := fun e he => h e (pf.mem_iff.mp he)
  cases e : fOf fs' p with
  | some t =>
    obtain ⟨x, hx, rfl, rfl⟩ := fOf_some e
    exact (fs_get h nd x (pf.mem_iff.mp hx)).symm
  | none =>
    cases g : fOf fs p with
    | none => rfl
    | some t =>
      obtain ⟨x, hx, rfl, rfl⟩ := fOf_some g
      rw [fs_get h' nd' x (pf.mem_iff.mpr hx)] at e
      cases e
theorem sOf_perm {ss ss' : Ss} {p : Str} (pf : ss'.Perm ss) (nd : (ss.map (·.1)).Nodup) : sOf ss' p = sOf ss p := by
  have nd' : (ss'.map (·.1)).Nodup := (pf.map _).nodup_iff.mpr nd
  cases e : sOf ss' p with
  | some t =>
    obtain ⟨x, hx, rfl, rfl⟩ := sOf_some e
    exact (ss_get nd x (pf.mem_iff.mp hx)).symm
  | none =>
    cases g : sOf ss p with
    | none => rfl
    | some t =>
      obtain ⟨x, hx, rfl, rfl⟩ := sOf_some g
      rw [ss_get nd' x (pf.mem_iff.mpr hx)] at e
      cases e
theorem has_perm {fs fs' : Fs} {q : List Str} {n : Str} {b : Bool} (pf : fs'.Perm fs) : Has fs' q n b ↔ Has fs q n b :=
  ⟨fun ⟨e, he, h⟩ => ⟨e, pf.mem_iff.mp he, h⟩, fun ⟨e, he, h⟩ => ⟨e, pf.mem_iff.mpr he, h⟩⟩
theorem fm_len {fs : Fs} {q : List Str} {fm : Nm} (h : Fm fs q fm) : fm.length ≤ fs.length := by
  have l := nd_len (fm.map (·.1)) (fs.map fun e => e.1.getD q.length "") h.nd fun x hx => by
    obtain ⟨⟨n, b⟩, hn, rfl⟩ := List.mem_map.mp hx
    obtain ⟨e, he, r, h1, h2⟩ := (h.has n b).mp hn
    refine List.mem_map.mpr ⟨e, he, ?_⟩
    rw [h1]
    simp
  rw [List.length_map, List.length_map] at l
  exact l
theorem fm_nm {zs : List Str} {fs : Fs} {q : List Str} {fm : Nm} (h : Fm fs q fm) (g : GoodF zs fs) (nm : ∀ z ∈ zs, IsNm z) : ∀ e ∈ fm, IsNm e.1 := fun e he => by
  obtain ⟨x, hx, r, h1, h2⟩ := (h.has e.1 e.2).mp he
  exact nm _ ((g.path x hx).2.2 _ (by rw [h1]; simp))
theorem texts_fine : ∀ t ∈ texts, (PyData.str t).showable = true ∧ (PyData.str t).depth ≤ 0 ∧ (PyData.str t).shown.length ≤ 100 := by decide +kernel
theorem tools_fine : ∀ t ∈ tools, (PyData.str t).showable = true ∧ (PyData.str t).depth ≤ 0 ∧ (PyData.str t).shown.length ≤ 100 := by decide +kernel
theorem nd_of_map {ys : Nm} (h : (ys.map (·.1)).Nodup) (s : sortedS (ys.map (·.1)) = true) : ys.Pairwise (fun a b : Str × Bool => a.1.cps.toList < b.1.cps.toList) := by
  have p := sorted_pw s h
  rw [List.pairwise_map] at p
  exact p
theorem dq_ents {K : PySem.W.Frag} {H : Hp} : ∀ ys : Nm, DqAll K H (ys.map fun e => .str (ent e.1 e.2)) (ys.map fun e => .str (ent e.1 e.2))
  | [] => .nil
  | e :: r => .cons (.str _) (dq_ents r)
theorem ans_eq {K : PySem.W.Frag} {H1 H2 : Hp} {zs : List Str} {fs fs' : Fs} {ss ss' : Ss} {z : Str} {v u : V} {k : Lk} (a1 : Ans H1 fs' ss' z v k) (a2 : Ans H2 fs ss z u k) (g : GoodF zs fs) (gs : GoodS zs ss) (nm : ∀ z ∈ zs, IsNm z) (pf : fs'.Perm fs) (ps : ss'.Perm ss) (fl : fs.length ≤ 50) (hz : z ∈ tools) :
    ∃ d, Dq K H1 v d ∧ Dq K H2 u d ∧ Fine d 20 100000 := by
  have nf : ∀ x ∈ fs, Nms x.1 := fun x hx y hy => nm y ((g.path x hx).2.2 y hy)
  have fx : ∀ t ∈ texts, Fine (.str t) 20 100000 := fun t ht => by
    obtain ⟨q1, q2, q3⟩ := texts_fine t ht
    exact (Fine.mk q1 q2 q3).up (by decide) (by decide)
  cases k with
  | rd p =>
    have a1 : v = oV (fOf fs' p) := a1
    have a2 : u = oV (fOf fs p) := a2
    rw [fOf_perm nf pf g.nd] at a1
    subst a1
    subst a2
    cases e : fOf fs p with
    | none => exact ⟨.none, .non, .non, fine_non.up (by decide) (by decide)⟩
    | some t =>
      obtain ⟨x, hx, _, rfl⟩ := fOf_some e
      exact ⟨.str x.2, .str _, .str _, fx _ (g.text x hx)⟩
  | se n =>
    have a1 : v = oV (sOf ss' n) := a1
    have a2 : u = oV (sOf ss n) := a2
    rw [sOf_perm ps gs.nd] at a1
    subst a1
    subst a2
    cases e : sOf ss n with
    | none => exact ⟨.none, .non, .non, fine_non.up (by decide) (by decide)⟩
    | some t =>
      obtain ⟨x, hx, _, rfl⟩ := sOf_some e
      exact ⟨.str x.2, .str _, .str _, fx _ (gs.text x hx)⟩
  | tl =>
    have a1 : v = .str z := a1
    have a2 : u = .str z := a2
    subst a1
    subst a2
    obtain ⟨q1, q2, q3⟩ := tools_fine z hz
    exact ⟨.str z, .str _, .str _, (Fine.mk q1 q2 q3).up (by decide) (by decide)⟩
  | ls q =>
    obtain ⟨fm1, m1, c1⟩ := a1
    obtain ⟨fm2, m2, c2⟩ := a2
    have mem : ∀ x, x ∈ fm1 ↔ x ∈ fm2 := fun x => (m1.has x.1 x.2).trans ((has_perm pf).trans (m2.has x.1 x.2).symm)
    have emp : fm1 = [] ↔ fm2 = [] := by
      constructor
      · intro e
        cases h : fm2 with
        | nil => rfl
        | cons y r => exact absurd ((mem y).mpr (by rw [h]; exact List.mem_cons_self)) (by rw [e]; simp)
      · intro e
        cases h : fm1 with
        | nil => rfl
        | cons y r => exact absurd ((mem y).mp (by rw [h]; exact List.mem_cons_self)) (by rw [e]; simp)
    rcases c1 with ⟨e1, nq, rfl⟩ | ⟨w1, t1, ys1, rfl, p1, s1, h1⟩
    · rcases c2 with ⟨e2, _, rfl⟩ | ⟨w2, _⟩
      · exact ⟨.none, .non, .non, fine_non.up (by decide) (by decide)⟩
      · exact (w2.elim (fun h => h (emp.mp e1)) fun h => nq h).elim
    · rcases c2 with ⟨e2, nq, rfl⟩ | ⟨w2, t2, ys2, rfl, p2, s2, h2⟩
      · exact (w1.elim (fun h => h (emp.mpr e2)) fun h => nq h).elim
      · have n1 : (ys1.map (·.1)).Nodup := (p1.map _).nodup_iff.mpr m1.nd
        have n2 : (ys2.map (·.1)).Nodup := (p2.map _).nodup_iff.mpr m2.nd
        have e : ys1 = ys2 := strict_ext (fun a b : Str × Bool => a.1.cps.toList < b.1.cps.toList) (fun a h => List.lt_irrefl _ h) (fun a b h g => List.lt_irrefl _ (lt_tr _ _ _ h g)) ys1 ys2 (nd_of_map n1 s1) (nd_of_map n2 s2) fun x => p1.mem_iff.trans ((mem x).trans p2.mem_iff.symm)
        subst e
        refine ⟨.tuple (ys1.map fun e => .str (ent e.1 e.2)), .tup h1 (dq_ents ys1), .tup h2 (dq_ents ys1), ?_⟩
        have l : ys1.length ≤ 50 := by
          rw [p2.length_eq]
          exact Nat.le_trans (fm_len m2) fl
        refine (Fine.tup (dep := 0) (n := 102) (m := 100000) (fun d hd => ?_) (by rw [List.length_map]; omega)).up (by decide) (by decide)
        obtain ⟨e, he, rfl⟩ := List.mem_map.mp hd
        have hn := fm_nm m2 g nm e (p2.mem_iff.mp he)
        refine fine_str (n := 10) (fun c hc => ?_) ?_
        · rw [tl_ent] at hc
          rcases List.mem_append.mp hc with q | q
          · have := hn.2.2 c q; omega
          · by_cases eb : e.2 = true
            · rw [if_pos eb] at q
              rw [List.mem_singleton.mp q]
              decide
            · rw [if_neg eb] at q
              cases q
        · rw [len_tl, tl_ent, List.length_append, ← len_tl]
          have := hn.2.1
          cases e.2
          · show e.1.length + 0 ≤ 10
            omega
          · show e.1.length + 1 ≤ 10
            omega
end N4

set_option maxHeartbeats 3900000
/-! set(xs), xs a list of texts -/
namespace SX
open PySem PySem.Spec PyProof.Rows L2 PpSet
theorem texts_at : ∀ {xs : List Str} {vs : List Value}, Vals (xs.map V.str) vs → ∀ (i : Nat) (v : Value), vs[i]? = some v → ∃ x t, xs[i]? = some x ∧ v = .str x t
  | [], [], _, i, v, h => by simp at h
  | x :: xs, u :: vs, .cons h r, 0, v, e => by
    obtain ⟨t, ht⟩ : ∃ t, u = Value.str x t := h
    rw [List.getElem?_cons_zero] at e
    cases e
    exact ⟨x, t, rfl, ht⟩
  | x :: xs, u :: vs, .cons h r, i + 1, v, e => by
    rw [List.getElem?_cons_succ] at e
    rw [List.getElem?_cons_succ]
    exact texts_at r i v e
section
variable {P : Program} {w : World} {A : Around} {E : Value → Shared → Prop} {s : Shared}
theorem grow {w : World} {S I : Addr} {fp wr : List Addr} {G : Array GenState → Array GenState → Prop} {n : Nat} {Pv : Nat → Value → Prop} {St : Nat → Shared → Prop} {R : Result → Shared → Prop}
    (W : WalksS P w A.in1 I fp wr G n Pv St) (hSf : S ∉ fp) (xs : List Str) (hn : n = xs.length) (hfew : xs.length + 1 < scanBound) (hval : ∀ i v, Pv i v → ∃ x t, xs[i]? = some x ∧ v = .str x t)
    (h0 : Heap) (hS0 : h0.get? S = none) (hw0 : ∀ b ∈ wr, h0.get? b = none) :
    ∀ (k i : Nat) (s : Shared), n - i = k → i ≤ n → St i s → (∀ b o, h0.get? b = some o → s.heap.get? b = some o) → (∃ Sf m, SetT w s.heap S Sf m ∧ m ≤ i ∧ ∀ x, Sf x = true ↔ x ∈ xs.take i) →
      (∀ s' Sf m, Moved (S :: wr) G s s' → SetT w s'.heap S Sf m → m ≤ n → (∀ x, Sf x = true ↔ x ∈ xs) → (∀ b o, h0.get? b = some o → s'.heap.get? b = some o) → R (.ok (.ret .none)) s') →
      codeAny (model P w) A (.builtin "set.update.loop" ⟨[.ref S, .ref I], []⟩) R s := by
  have hSw : S ∉ wr := fun h => hSf (W.sub _ h)
  have hsub : ∀ b ∈ wr, b ∈ S :: wr := fun b hb => List.mem_cons_of_mem _ hb
  have keepM : ∀ {s s' : Shared}, Moved wr G s s' → (∀ b o, h0.get? b = some o → s.heap.get? b = some o) → ∀ b o, h0.get? b = some o → s'.heap.get? b = some o := fun hm hkp b o e =>
    hm.heap b o (fun hb => by rw [hw0 b hb] at e; cases e) (hkp b o e)
  intro k
  induction k with
  | zero =>
    intro i s hk' hi hst hkp ⟨Sf, m, hS, hm0, hx⟩ hR
    have hin : i = n := by omega
    subst hin
    refine codeAny_builtin F.entry_set_update_loop ?_
    rw [Around.under_plainId F.plain_set_update_loop _]
    show wpAny _ A.in1 (pyNext (.ref I) >>= _) _ _ s
    refine wpAny_bind (W.done s _ _ hst fun s' hm => ?_)
    show wpAny _ A.in1 (ret Value.none) _ _ s'
    refine wpAny_pure (hR s' Sf m (hm.mono hsub) (hS.at fun o e => hm.heap S o hSw e) hm0 (fun x => ?_) (keepM hm hkp))
    rw [hx x, hn, List.take_length]
  | succ k ih =>
    intro i s hk' hi hst hkp ⟨Sf, m, hS, hm0, hx⟩ hR
    have hlt : i < n := by omega
    refine codeAny_builtin F.entry_set_update_loop ?_
    rw [Around.under_plainId F.plain_set_update_loop _]
    show wpAny _ A.in1 (pyNext (.ref I) >>= _) _ _ s
    refine wpAny_bind (W.item i s _ _ hlt hst fun v s' hP hst' hm => ?_)
    obtain ⟨y, t, hy, rfl⟩ := hval i v hP
    have hkp' := keepM hm hkp
    have hS' : SetT w s'.heap S Sf m := hS.at fun o e => hm.heap S o hSw e
    show wpAny _ A.in1 (holding [Value.str y t] (setAdd S (.str y t)) >>= _) _ _ s'
    refine wpAny_bind (wpAny_holding ?_)
    unfold setAdd
    refine wpAny_holding ?_
    refine wpAny_bind ((mixKind P w).pyHash (kV_is (k := .inr y) (u := Value.str y t) ⟨t, rfl⟩) ?_)
    refine add_hashed (s := { s' with toks := s'.toks + 1 }) hS' (by omega) fun h' hsb hS2 => ?_
    have hkp2 : ∀ b o, h0.get? b = some o → h'.get? b = some o := fun b o e => (hsb.2 b (fun z => by rw [z, hS0] at e; cases e)).trans (hkp' b o e)
    have tk : xs.take (i + 1) = xs.take i ++ [y] := by
      rw [List.take_succ, hy]
      rfl
    refine wpAny_pure ⟨plainId_quiet F.plain_set_update_loop _, ih (i + 1) _ (by omega) hlt (W.frame _ s' _ _ hst' (Nat.le_add_right _ _) fun b hb o e => ?_) hkp2 ⟨_, _, hS2, by split <;> omega, fun x => ?_⟩ fun s'' S2 m2 hm'' hS'' g1 g2 hkp'' => ?_⟩
    · rw [hsb.2 b (fun h : b = S => hSf (by rw [← h]; exact hb))]; exact e
    · show (Sf x || decide (x = y)) = true ↔ _
      rw [Bool.or_eq_true, decide_eq_true_eq, hx x, tk, List.mem_append, List.mem_singleton]
    · refine hR s'' S2 m2 (Moved.trans W.gtrans ((hm.mono hsub).then_heap (Nat.le_add_right _ _) fun b o hb e => ?_) hm'') hS'' g1 g2 hkp''
      rw [hsb.2 b (fun h : b = S => hb (by rw [h]; exact List.mem_cons_self))]; exact e
set_option maxHeartbeats 3900000 in
theorem call_texts {l : Addr} {items : Array Value} (xs : List Str) {Q : Value → Shared → Prop} (hh : A.handled = none) (hl : s.heap.IsList l items) (hit : Vals (xs.map V.str) items.toList)
    (hfew : xs.length + 1 < scanBound)
    (h : ∀ (h' : Heap) (tk : Nat) Sf m, SetT w h' s.heap.objs.size Sf m → m ≤ xs.length → (∀ x, Sf x = true ↔ x ∈ xs) → (∀ b o, s.heap.get? b = some o → h'.get? b = some o) → Q (.ref s.heap.objs.size) { s with heap := h', toks := tk }) :
    wpAny (model P w) A (call (.type "set") [.ref l]) Q E s := by
  have hisz : items.size = xs.length := by
    have q := hit.length
    rw [List.length_map, Array.length_toList] at q
    exact q.symm
  obtain ⟨c, tl, hmro⟩ := F.called_set.mro
  have hmade := F.called_set.made
  have hsub := F.called_set.sub
  refine wpAny_call (codeAny_of_tree ?_)
  show wpAny _ _ (callAny (.type "set") _) _ _ _
  refine wpAny_pure ⟨Code.quiet_builtin _ (by decide +kernel), codeAny_builtin F.entry_type_call ?_⟩
  rw [Around.under_plain (weight_type_call_type "set" [.ref l] []) rfl]
  have h1 := F.called_set.notType
  have h2 := F.called_set.canCreate
  have hct := F.typeCall_set_1 (.ref l)
  repeat (any_goals (first | assumption | wp_step))
  refine codeAny_mono (code_set_led1 (.ref l) (E := E) (Q₁ := fun obj s₁ => obj = .ref s.heap.objs.size ∧ s₁ = { s with heap := s.heap.push { cls := .type "set", dict := none, data := .set #[] 0 (.fresh 0 0 (!w.params.followText "set-order")) } }) ⟨rfl, rfl⟩) fun r s₁ hr => ?_
  cases r with
  | error e => exact hr
  | ok fl =>
    cases fl with
    | ret obj =>
      obtain ⟨rfl, rfl⟩ := hr
      have hS : (s.heap.push { cls := .type "set", dict := none, data := .set #[] 0 (.fresh 0 0 (!w.params.followText "set-order")) }).get? s.heap.objs.size = some { cls := .type "set", dict := none, data := .set #[] 0 (.fresh 0 0 (!w.params.followText "set-order")) } := Heap.get?_push_size _ rfl
      have hT : Shared.TypeIs { s with heap := s.heap.push { cls := .type "set", dict := none, data := .set #[] 0 (.fresh 0 0 (!w.params.followText "set-order")) } } (.ref s.heap.objs.size) "set" := ⟨_, hS, rfl⟩
      have hli := F.called_set.init.lookup
      have hbi := F.called_set.init.bind (.ref s.heap.objs.size)
      repeat (any_goals (first | assumption | wp_step))
      refine codeAny_mono (codeAny_call_builtin (R := wants (fun r s₂ => r = .none ∧ ∃ h' tk Sf m, s₂ = { s with heap := h', toks := tk } ∧ SetT w h' s.heap.objs.size Sf m ∧ m ≤ xs.length ∧ (∀ x, Sf x = true ↔ x ∈ xs) ∧
          (∀ b o, s.heap.get? b = some o → h'.get? b = some o)) E) F.called_set.init.plain F.entry_set_init (check_set_init_1 hT ?_)) fun r₂ s₂ hr₂ => ?_
      · obtain ⟨ol, hol, hcl, nl, hdl⟩ := hl
        obtain ⟨ocls, odict, odata, oslots⟩ := ol
        simp only at hcl hdl
        subst hcl; subst hdl
        have hol' : (s.heap.push { cls := .type "set", dict := none, data := .set #[] 0 (.fresh 0 0 (!w.params.followText "set-order")) }).get? l = some { cls := .type "list", dict := odict, data := .seq items nl, slots := oslots } := Heap.get?_push_of_some _ hol
        have hsls := F.sub_list_set
        have hslf := F.sub_list_frozenset
        have hne : (Value.type "list" == Value.type "dict") = false := by decide
        have hl1 : (s.heap.push { cls := .type "set", dict := none, data := .set #[] 0 (.fresh 0 0 (!w.params.followText "set-order")) }).IsList l items := ⟨_, hol', rfl, nl, rfl⟩
        unfold Builtin.«set.__init__» noKeywords Builtin.Frozenset.updateFrom
        generalize hPI : pyIter = PI
        wp_walk
        subst hPI
        refine wpAny_pyIter_list hl1 ?_
        refine wpAny_bind (wpAny_runValue ?_)
        have hlS : l < s.heap.objs.size := Heap.lt_size hol
        have hh3 : A.in1.in1.in1.handled = none := by simp [hh]
        have hneI : l ≠ (s.heap.push { cls := .type "set", dict := none, data := .set #[] 0 (.fresh 0 0 (!w.params.followText "set-order")) }).objs.size := by
          rw [Heap.size_push]; exact Nat.ne_of_lt (Nat.lt_succ_of_lt hlS)
        have hSf : s.heap.objs.size ∉ [(s.heap.push { cls := .type "set", dict := none, data := .set #[] 0 (.fresh 0 0 (!w.params.followText "set-order")) }).objs.size, l] := by
          rw [Heap.size_push]; simp only [List.mem_cons, List.mem_singleton, List.not_mem_nil, or_false, not_or]
          exact ⟨Nat.ne_of_lt (Nat.lt_succ_self _), Nat.ne_of_gt hlS⟩
        have hval : ∀ (i : Nat) (v : Value), items[i]? = some v → ∃ x t, xs[i]? = some x ∧ v = .str x t := fun i v hv => by
          have q : items.toList[i]? = some v := by rw [Array.getElem?_toList]; exact hv
          exact texts_at hit i v q
        have none_of : ∀ b, s.heap.objs.size ≤ b → s.heap.get? b = none := fun b hb => by
          cases q : s.heap.get? b with
          | none => rfl
          | some o => exact absurd (Nat.lt_of_lt_of_le (Heap.lt_size q) hb) (Nat.lt_irrefl _)
        refine grow ((Walks.list hh3 _ l hneI items).toS)
          hSf xs hisz hfew hval s.heap (none_of _ (Nat.le_refl _)) (fun b hb => none_of b (by
            rw [List.mem_singleton.mp hb, Heap.size_push]
            exact Nat.le_succ _)) (items.size - 0) 0 _ (by omega) (Nat.zero_le _)
          ⟨⟨_, Heap.get?_push_size _ rfl, rfl, rfl⟩, (hl1.push _)⟩ (fun b o e => Heap.get?_push_of_some _ (Heap.get?_push_of_some _ e)) ?hS0 ?hR
        case hS0 =>
          refine ⟨fun _ => false, 0, (fresh w).at fun o e => Heap.get?_push_of_some _ e, Nat.le_refl _, fun x => by simp⟩
        case hR =>
          intro s' Sf m hm hS' g1 g2 hkp
          obtain ⟨h', gg, d', tk', os'⟩ := s'
          have eg : gg = s.gens := hm.gens
          have ed : d' = s.drawn := hm.drawn
          have eo : os' = s.os := hm.os
          subst eg; subst ed; subst eo
          show wpAny _ _ _ _ _ _
          refine wpAny_pure ?_
          show wpAny _ _ (ret Value.none) _ _ _
          exact wpAny_pure ⟨rfl, h', tk', Sf, m, rfl, hS', by omega, g2, hkp⟩
      · cases r₂ with
        | error e => exact hr₂
        | ok fl₂ =>
          cases fl₂ with
          | ret r =>
            obtain ⟨rfl, h', tk, Sf, m, rfl, hS', g1, g2, hk'⟩ := hr₂
            repeat (any_goals (first | assumption | wp_step))
            exact h _ _ _ _ hS' g1 g2 hk'
          | _ => exact hr₂.elim
    | _ => exact hr.elim
end
/-- set(xs), texts -/
def rSetTx (K : PySem.W.Frag) (w : World) : List V → Hp → VK → Prop := fun vs H Q => ∃ (l : Addr) (xs : List Str), vs = [V.ref l] ∧ SqL K H l (xs.map V.str) ∧ xs.length < 100 ∧
  ∀ (p : Addr) (Sf : Str → Bool) (n : Nat), H p = none → (∀ x, Sf x = true ↔ x ∈ xs) → n ≤ xs.length → Q (.ref p) (upd H p (SetTO w p Sf n))
theorem cr_setTx {X : Cx} (hc : X.calm = true) : CallR X (.type "set") (rSetTx X.K X.w) := by
  intro pins s σ H vs us Q I r h
  obtain ⟨l, xs, rfl, hl, hf, q⟩ := h
  rw [Vals.ref1 r]
  obtain ⟨its, rv, pl, hz⟩ := I.list hl
  have hn : H s.heap.objs.size = none := I.hok.fresh (Nat.le_refl _)
  refine call_texts (P := X.prog) (w := X.w) xs (I.ok.hd hc) pl.isList (by simpa using rv) (Nat.lt_of_lt_of_le (show xs.length + 1 < 101 by omega) (by decide)) fun h' tk Sf m R g1 g2 k => ?_
  exact ⟨.ref s.heap.objs.size, upd H s.heap.objs.size (SetTO X.w s.heap.objs.size Sf m), I.laid (t' := tk) k (Nat.le_refl _) (new_ok R), rfl, q _ Sf m hn g2 g1⟩
end SX

set_option maxHeartbeats 3900000
namespace N4
open PySem PySem.Spec PyProof.Rows L2 TL RP
open CB
/-! files and settings by what they tell of each key -/
theorem fOf_cons (e : List Str × Str) (r : Fs) (q : List Str) : fOf (e :: r) q = if e.1 = q then some e.2 else fOf r q := by
  unfold fOf
  rw [List.find?_cons]
  by_cases h : e.1 = q
  · rw [decide_eq_true h, if_pos h]
    rfl
  · rw [decide_eq_false h, if_neg h]
theorem sOf_cons (e : Str × Str) (r : Ss) (q : Str) : sOf (e :: r) q = if e.1 = q then some e.2 else sOf r q := by
  unfold sOf
  rw [List.find?_cons]
  by_cases h : e.1 = q
  · rw [decide_eq_true h, if_pos h]
    rfl
  · rw [decide_eq_false h, if_neg h]
theorem fOf_nil (q : List Str) : fOf [] q = none := rfl
theorem sOf_nil (q : Str) : sOf [] q = none := rfl
theorem fOf_mem {fs : Fs} {q : List Str} : fOf fs q ≠ none ↔ q ∈ fs.map (·.1) := by
  induction fs with
  | nil => simp [fOf_nil]
  | cons e r ih =>
    rw [fOf_cons, List.map_cons, List.mem_cons]
    by_cases h : e.1 = q
    · rw [if_pos h]
      simp [h]
    · rw [if_neg h, ih]
      exact ⟨.inr, fun z => z.resolve_left fun e => h e.symm⟩
theorem sOf_mem {ss : Ss} {q : Str} : sOf ss q ≠ none ↔ q ∈ ss.map (·.1) := by
  induction ss with
  | nil => simp [sOf_nil]
  | cons e r ih =>
    rw [sOf_cons, List.map_cons, List.mem_cons]
    by_cases h : e.1 = q
    · rw [if_pos h]
      simp [h]
    · rw [if_neg h, ih]
      exact ⟨.inr, fun z => z.resolve_left fun e => h e.symm⟩
theorem fOf_app (a b : Fs) (q : List Str) : fOf (a ++ b) q = if q ∈ a.map (·.1) then fOf a q else fOf b q := by
  induction a with
  | nil => simp
  | cons e r ih =>
    rw [List.cons_append, fOf_cons, fOf_cons, ih, List.map_cons]
    by_cases h : e.1 = q
    · simp [h]
    · rw [if_neg h, if_neg h]
      by_cases g : q ∈ r.map (·.1)
      · rw [if_pos g, if_pos (List.mem_cons_of_mem _ g)]
      · rw [if_neg g, if_neg fun z => g ((List.mem_cons.mp z).resolve_left fun e => h e.symm)]
theorem sOf_app (a b : Ss) (q : Str) : sOf (a ++ b) q = if q ∈ a.map (·.1) then sOf a q else sOf b q := by
  induction a with
  | nil => simp
  | cons e r ih =>
    rw [List.cons_append, sOf_cons, sOf_cons, ih, List.map_cons]
    by_cases h : e.1 = q
    · simp [h]
    · rw [if_neg h, if_neg h]
      by_cases g : q ∈ r.map (·.1)
      · rw [if_pos g, if_pos (List.mem_cons_of_mem _ g)]
      · rw [if_neg g, if_neg fun z => g ((List.mem_cons.mp z).resolve_left fun e => h e.symm)]
theorem fOf_put (fs : Fs) (p : List Str) (t : Str) (q : List Str) : fOf (putF fs p t) q = if q = p then some t else fOf fs q := by
  unfold putF
  by_cases h : p ∈ fs.map (·.1)
  · rw [if_pos h]
    induction fs with
    | nil => simp at h
    | cons e r ih =>
      rw [List.map_cons, fOf_cons, fOf_cons]
      by_cases ep : e.1 = p
      · rw [if_pos ep]
        show (if e.1 = q then some t else _) = _
        by_cases eq : e.1 = q
        · rw [if_pos eq, if_pos (eq.symm.trans ep)]
        · rw [if_neg eq, if_neg eq, if_neg fun z => eq (by rw [z, ep])]
          by_cases g : p ∈ r.map (·.1)
          · rw [ih g, if_neg fun z => eq (by rw [z, ep])]
          · have same : r.map (fun e => if e.1 = p then (e.1, t) else e) = r := by
              conv => rhs; rw [← List.map_id r]
              refine List.map_congr_left fun x hx => ?_
              rw [if_neg fun (z : x.1 = _) => g (by rw [← z]; exact List.mem_map_of_mem hx)]
              rfl
            rw [same]
      · rw [if_neg ep]
        show (if e.1 = q then some e.2 else _) = _
        have g : p ∈ r.map (·.1) := (List.mem_cons.mp h).resolve_left fun z => ep z.symm
        by_cases eq : e.1 = q
        · rw [if_pos eq, if_pos eq, if_neg fun z => ep (eq.trans z)]
        · rw [if_neg eq, if_neg eq, ih g]
  · rw [if_neg h, fOf_app]
    by_cases eq : q = p
    · rw [if_pos eq, if_neg (by rw [eq]; exact h), fOf_cons, if_pos eq.symm]
    · rw [if_neg eq]
      by_cases g : q ∈ fs.map (·.1)
      · rw [if_pos g]
      · rw [if_neg g, fOf_cons, if_neg fun z => eq z.symm, fOf_nil]
        cases e : fOf fs q with
        | none => rfl
        | some t => exact absurd (fOf_mem.mp (by rw [e]; simp)) g
/-- the settings with one more, or another one in its place -/
def putS (ss : Ss) (n : Str) (t : Str) : Ss := if n ∈ ss.map (·.1) then ss.map (fun e => if e.1 = n then (e.1, t) else e) else ss ++ [(n, t)]
theorem putS_keys (ss : Ss) (n t : Str) : (putS ss n t).map (·.1) = if n ∈ ss.map (·.1) then ss.map (·.1) else ss.map (·.1) ++ [n] := by
  unfold putS
  by_cases h : n ∈ ss.map (·.1)
  · rw [if_pos h, if_pos h, List.map_map]
    refine List.map_congr_left fun e _ => ?_
    show (if e.1 = n then (e.1, t) else e).1 = e.1
    split <;> rfl
  · rw [if_neg h, if_neg h, List.map_append]
    rfl
theorem putS_len (ss : Ss) (n t : Str) : (putS ss n t).length ≤ ss.length + 1 := by
  unfold putS
  split
  · rw [List.length_map]; omega
  · rw [List.length_append]; exact Nat.le_refl _
theorem sOf_put (ss : Ss) (n t q : Str) : sOf (putS ss n t) q = if q = n then some t else sOf ss q := by
  unfold putS
  by_cases h : n ∈ ss.map (·.1)
  · rw [if_pos h]
    induction ss with
    | nil => simp at h
    | cons e r ih =>
      rw [List.map_cons, sOf_cons, sOf_cons]
      by_cases ep : e.1 = n
      · rw [if_pos ep]
        show (if e.1 = q then some t else _) = _
        by_cases eq : e.1 = q
        · rw [if_pos eq, if_pos (eq.symm.trans ep)]
        · rw [if_neg eq, if_neg eq, if_neg fun z => eq (by rw [z, ep])]
          by_cases g : n ∈ r.map (·.1)
          · rw [ih g, if_neg fun z => eq (by rw [z, ep])]
          · have same : r.map (fun e => if e.1 = n then (e.1, t) else e) = r := by
              conv => rhs; rw [← List.map_id r]
              refine List.map_congr_left fun x hx => ?_
              rw [if_neg fun (z : x.1 = _) => g (by rw [← z]; exact List.mem_map_of_mem hx)]
              rfl
            rw [same]
      · rw [if_neg ep]
        show (if e.1 = q then some e.2 else _) = _
        have g : n ∈ r.map (·.1) := (List.mem_cons.mp h).resolve_left fun z => ep z.symm
        by_cases eq : e.1 = q
        · rw [if_pos eq, if_pos eq, if_neg fun z => ep (eq.trans z)]
        · rw [if_neg eq, if_neg eq, ih g]
  · rw [if_neg h, sOf_app]
    by_cases eq : q = n
    · rw [if_pos eq, if_neg (by rw [eq]; exact h), sOf_cons, if_pos eq.symm]
    · rw [if_neg eq]
      by_cases g : q ∈ ss.map (·.1)
      · rw [if_pos g]
      · rw [if_neg g, sOf_cons, if_neg fun z => eq z.symm, sOf_nil]
        cases e : sOf ss q with
        | none => rfl
        | some t => exact absurd (sOf_mem.mp (by rw [e]; simp)) g
theorem ssK_putS (ss : Ss) (n t : Str) : putK (ssK ss) (.inr n) (.str t) = ssK (putS ss n t) := by
  have key : ∀ e : Str × Str, decide ((Sum.inr e.1 : L2.Key) = .inr n) = decide (e.1 = n) := fun e => decide_eq_decide.mpr ⟨fun q => Sum.inr.inj q, fun q => by rw [q]⟩
  have an : ((ssK ss).any fun kv => decide (kv.1 = (.inr n : L2.Key))) = decide (n ∈ ss.map (·.1)) := by
    unfold ssK
    rw [List.any_map, Bool.eq_iff_iff, List.any_eq_true, decide_eq_true_iff, List.mem_map]
    constructor
    · rintro ⟨e, he, q⟩
      exact ⟨e, he, of_decide_eq_true ((key e).symm.trans q)⟩
    · rintro ⟨e, he, q⟩
      exact ⟨e, he, (key e).trans (decide_eq_true q)⟩
  unfold putK putS
  rw [an]
  by_cases h : n ∈ ss.map (·.1)
  · rw [if_pos (decide_eq_true h), if_pos h]
    unfold ssK
    rw [List.map_map, List.map_map]
    refine List.map_congr_left fun e he => ?_
    show (if (Sum.inr e.1 : L2.Key) = .inr n then ((Sum.inr e.1 : L2.Key), V.str t) else (Sum.inr e.1, V.str e.2)) = (Sum.inr (if e.1 = n then (e.1, t) else e).1, V.str (if e.1 = n then (e.1, t) else e).2)
    by_cases q : e.1 = n
    · rw [if_pos q, if_pos (by rw [q])]
    · rw [if_neg q, if_neg fun z => q (Sum.inr.inj z)]
  · rw [if_neg (fun z => h (of_decide_eq_true z)), if_neg h]
    unfold ssK
    rw [List.map_append]
    rfl
theorem GoodS.putS {zs : List Str} {ss : Ss} {n t : Str} (g : GoodS zs ss) (hn : n ∈ zs) (ht : t ∈ texts) : GoodS zs (N4.putS ss n t) := by
  have keys : ∀ q ∈ (N4.putS ss n t).map (·.1), q ∈ ss.map (·.1) ∨ q = n := fun q hq => by
    rw [putS_keys] at hq
    split at hq
    · exact .inl hq
    · exact (List.mem_append.mp hq).imp id List.mem_singleton.mp
  refine ⟨fun e he => ?_, fun e he => ?_, ?_⟩
  · rcases keys e.1 (List.mem_map_of_mem he) with q | q
    · obtain ⟨e', he', q⟩ := List.mem_map.mp q
      rw [← q]
      exact g.name e' he'
    · rw [q]; exact hn
  · unfold N4.putS at he
    split at he
    · obtain ⟨e', he', rfl⟩ := List.mem_map.mp he
      split
      · exact ht
      · exact g.text e' he'
    · rcases List.mem_append.mp he with he | he
      · exact g.text e he
      · rw [List.mem_singleton.mp he]; exact ht
  · rw [putS_keys]
    split
    · exact g.nd
    · rename_i h
      rw [List.nodup_append]
      refine ⟨g.nd, by simp, fun a ha b hb => ?_⟩
      rw [List.mem_singleton.mp hb]
      rintro rfl
      exact h ha
/-! one key less -/
def dropF (fs : Fs) (p : List Str) : Fs := fs.filter fun e => decide (e.1 ≠ p)
def dropS (ss : Ss) (n : Str) : Ss := ss.filter fun e => decide (e.1 ≠ n)
theorem fOf_drop (fs : Fs) (p q : List Str) : fOf (dropF fs p) q = if q = p then none else fOf fs q := by
  induction fs with
  | nil =>
    show fOf [] q = if q = p then none else fOf [] q
    rw [fOf_nil]
    split <;> rfl
  | cons e r ih =>
    unfold dropF at ih ⊢
    rw [List.filter_cons]
    by_cases h : e.1 = p
    · rw [if_neg (by simp [h]), ih, fOf_cons]
      by_cases eq : q = p
      · rw [if_pos eq, if_pos eq]
      · rw [if_neg eq, if_neg eq, if_neg fun z => eq (by rw [← z, h])]
    · rw [if_pos (by simp [h]), fOf_cons, fOf_cons, ih]
      by_cases eq : e.1 = q
      · rw [if_pos eq, if_pos eq, if_neg fun z => h (eq.trans z)]
      · rw [if_neg eq, if_neg eq]
theorem sOf_drop (ss : Ss) (p q : Str) : sOf (dropS ss p) q = if q = p then none else sOf ss q := by
  induction ss with
  | nil =>
    show sOf [] q = if q = p then none else sOf [] q
    rw [sOf_nil]
    split <;> rfl
  | cons e r ih =>
    unfold dropS at ih ⊢
    rw [List.filter_cons]
    by_cases h : e.1 = p
    · rw [if_neg (by simp [h]), ih, sOf_cons]
      by_cases eq : q = p
      · rw [if_pos eq, if_pos eq]
      · rw [if_neg eq, if_neg eq, if_neg fun z => eq (by rw [← z, h])]
    · rw [if_pos (by simp [h]), sOf_cons, sOf_cons, ih]
      by_cases eq : e.1 = q
      · rw [if_pos eq, if_pos eq, if_neg fun z => h (eq.trans z)]
      · rw [if_neg eq, if_neg eq]
theorem fsK_drop {fs : Fs} {p : List Str} (hf : ∀ e ∈ fs, Nms e.1) (hp : Nms p) : dropK (fsK fs) (.inr (js p)) = fsK (dropF fs p) := by
  unfold dropK fsK dropF
  rw [List.filter_map]
  congr 1
  refine List.filter_congr fun e he => ?_
  show decide ((Sum.inr (js e.1) : L2.Key) ≠ .inr (js p)) = decide (e.1 ≠ p)
  refine decide_eq_decide.mpr (not_congr ⟨fun q => js_inj (hf e he) hp (Sum.inr.inj q), fun q => by rw [q]⟩)
theorem ssK_drop (ss : Ss) (n : Str) : dropK (ssK ss) (.inr n) = ssK (dropS ss n) := by
  unfold dropK ssK dropS
  rw [List.filter_map]
  congr 1
  refine List.filter_congr fun e he => ?_
  show decide ((Sum.inr e.1 : L2.Key) ≠ .inr n) = decide (e.1 ≠ n)
  exact decide_eq_decide.mpr (not_congr ⟨fun q => Sum.inr.inj q, fun q => by rw [q]⟩)
theorem dropF_sub (fs : Fs) (p : List Str) : (dropF fs p).Sublist fs := List.filter_sublist
theorem dropS_sub (ss : Ss) (n : Str) : (dropS ss n).Sublist ss := List.filter_sublist
theorem GoodF.sub {zs : List Str} {fs fs' : Fs} (g : GoodF zs fs) (s : fs'.Sublist fs) : GoodF zs fs' :=
  ⟨fun e he => g.path e (s.mem he), fun e he => g.text e (s.mem he), (s.map _).nodup g.nd, fun a ha b hb => g.free a ((s.map _).mem ha) b ((s.map _).mem hb)⟩
theorem GoodS.sub {zs : List Str} {ss ss' : Ss} (g : GoodS zs ss) (s : ss'.Sublist ss) : GoodS zs ss' :=
  ⟨fun e he => g.name e (s.mem he), fun e he => g.text e (s.mem he), (s.map _).nodup g.nd⟩
/-! the same of each key: the same in any order -/
theorem perm_nd2 {α : Type} [DecidableEq α] : ∀ (l m : List α), l.Nodup → m.Nodup → (∀ x, x ∈ l ↔ x ∈ m) → l.Perm m
  | [], m, _, _, h => by
    cases m with
    | nil => exact .nil
    | cons a r => exact absurd ((h a).mpr List.mem_cons_self) (by simp)
  | a :: r, m, nl, nm, h => by
    have ha := (h a).mp List.mem_cons_self
    have n1 := List.nodup_cons.mp nl
    have p := List.perm_cons_erase ha
    have nm2 := (p.nodup_iff.mp nm)
    have n2 := List.nodup_cons.mp nm2
    refine (List.Perm.cons a (perm_nd2 r (m.erase a) n1.2 n2.2 fun x => ?_)).trans p.symm
    constructor
    · intro hx
      exact (List.mem_erase_of_ne fun (e : x = a) => n1.1 (by rw [← e]; exact hx)).mpr ((h x).mp (List.mem_cons_of_mem _ hx))
    · intro hx
      have hm := List.mem_of_mem_erase hx
      rcases List.mem_cons.mp ((h x).mpr hm) with e | g
      · exact absurd (e ▸ hx) n2.1
      · exact g
theorem nd_pairs {α β : Type} {l : List (α × β)} (h : (l.map (·.1)).Nodup) : l.Nodup := by
  rw [List.nodup_iff_pairwise_ne, List.pairwise_map] at h
  rw [List.nodup_iff_pairwise_ne]
  exact h.imp fun {a b} ne e => ne (by rw [e])
theorem fs_mem {fs : Fs} (nf : ∀ e ∈ fs, Nms e.1) (nd : (fs.map (·.1)).Nodup) (x : List Str × Str) : x ∈ fs ↔ fOf fs x.1 = some x.2 :=
  ⟨fun h => fs_get nf nd x h, fun h => by
    obtain ⟨e, he, e1, e2⟩ := fOf_some h
    have : e = x := Prod.ext e1 e2
    exact this ▸ he⟩
theorem ss_mem {ss : Ss} (nd : (ss.map (·.1)).Nodup) (x : Str × Str) : x ∈ ss ↔ sOf ss x.1 = some x.2 :=
  ⟨fun h => ss_get nd x h, fun h => by
    obtain ⟨e, he, e1, e2⟩ := sOf_some h
    have : e = x := Prod.ext e1 e2
    exact this ▸ he⟩
theorem fs_perm {fs fs' : Fs} (nf : ∀ e ∈ fs, Nms e.1) (nf' : ∀ e ∈ fs', Nms e.1) (nd : (fs.map (·.1)).Nodup) (nd' : (fs'.map (·.1)).Nodup) (h : ∀ p, fOf fs p = fOf fs' p) : fs.Perm fs' :=
  perm_nd2 _ _ (nd_pairs nd) (nd_pairs nd') fun x => by rw [fs_mem nf nd, fs_mem nf' nd', h]
theorem ss_perm {ss ss' : Ss} (nd : (ss.map (·.1)).Nodup) (nd' : (ss'.map (·.1)).Nodup) (h : ∀ p, sOf ss p = sOf ss' p) : ss.Perm ss' :=
  perm_nd2 _ _ (nd_pairs nd) (nd_pairs nd') fun x => by rw [ss_mem nd, ss_mem nd', h]
/-! changes -/
inductive Ch
  | put (p : List Str) (t : Str)
  | drop (p : List Str)
  | set (n : Str) (t : Option Str)
  | tool (t : Str)
def chV : Ch → List V
  | .put p t => [.str "put", .str (js p), .str t]
  | .drop p => [.str "drop", .str (js p)]
  | .set n t => [.str "set", .str n, oV t]
  | .tool t => [.str "tool", .str t]
def oD : Option Str → PyData
  | some t => .str t
  | none => .none
def chD : Ch → PyData
  | .put p t => .tuple [.str "put", .str (js p), .str t]
  | .drop p => .tuple [.str "drop", .str (js p)]
  | .set n t => .tuple [.str "set", .str n, oD t]
  | .tool t => .tuple [.str "tool", .str t]
structure St0 where
  f : List Str → Option Str
  s : Str → Option Str
  z : Str
def St0.do (a : St0) : Ch → St0
  | .put p t => ⟨fun q => if q = p then some t else a.f q, a.s, a.z⟩
  | .drop p => ⟨fun q => if q = p then none else a.f q, a.s, a.z⟩
  | .set n t => ⟨a.f, fun q => if q = n then t else a.s q, a.z⟩
  | .tool t => ⟨a.f, a.s, t⟩
def PathOn (zs : List Str) (p : List Str) : Prop := p ≠ [] ∧ p.length ≤ 3 ∧ ∀ y ∈ p, y ∈ zs
def Can (zs : List Str) (a : St0) : Ch → Prop
  | .put p t => PathOn zs p ∧ t ∈ texts ∧ ∀ q, a.f q ≠ none → ben p q = false ∧ ben q p = false
  | .drop p => PathOn zs p ∧ a.f p ≠ none
  | .set n t => n ∈ zs ∧ ∀ x, t = some x → x ∈ texts
  | .tool t => t ∈ tools
def Runs (zs : List Str) : List Ch → St0 → St0 → Prop
  | [], a, b => a = b
  | c :: r, a, b => Can zs a c ∧ Runs zs r (a.do c) b
theorem Runs.app {zs : List Str} : ∀ {r r' : List Ch} {a b c : St0}, Runs zs r a b → Runs zs r' b c → Runs zs (r ++ r') a c
  | [], r', a, b, c, h, g => by
    have h : a = b := h
    rw [h]
    exact g
  | x :: r, r', a, b, c, h, g => ⟨h.1, Runs.app h.2 g⟩
end N4

set_option maxHeartbeats 3900000
/-! operators by the text's own methods: rules for ~o, o | u, o & u, x in o, len(o), o == u -/
namespace OW
open PySem PySem.Spec PyProof.Rows L2 PySem.F
section
variable {X : Cx} {k : Nat} {C f : Addr} {fd : FuncData} {ps : List Str} {sp : Sp} {CX : CXT} {E : XK}
/-- what stands where an instance is tracked -/
theorem inst_at {pins : List (Addr × Obj)} {σ : L2.St} {H : Hp} {s : Shared} {a dx : Addr} {fs : List (Str × V)} (I : Inv X pins σ H s) (ha : H a = some (.ins C dx fs)) : ∃ ox od, PySem.W.InstAt s.heap a ox C od := by
  obtain ⟨mA, J, _⟩ := ins_get I.hok ha
  obtain ⟨od, J, _⟩ := J.look
  exact ⟨_, _, J⟩
theorem cmp_back {pins : List (Addr × Obj)} {σ : L2.St} {Q : VK} {A : Around} {m : Sem Value} {Es : Value → Shared → Prop} {s : Shared} (h : wpAny (model X.prog X.w) A m (EP X pins σ Q) Es s) : wpAny (model X.prog X.w) A m (PySem.W.CmpBack (EP X pins σ Q)) Es s :=
  wpAny_mono h (fun u s' hq => by
    obtain ⟨v, H', I', rv, q⟩ := hq
    have e : EP X pins σ Q u s' := ⟨v, H', I', rv, q⟩
    cases v with
    | non => cases rv; exact e
    | bl b => cases rv; exact e
    | int i => obtain ⟨t, rfl⟩ := rv; exact e
    | str z => obtain ⟨t, rfl⟩ := rv; exact e
    | byt z => obtain ⟨t, rfl⟩ := rv; exact e
    | flt z => obtain ⟨t, rfl⟩ := rv; exact e
    | ref z => cases rv; exact e
    | ty z => cases rv; exact e) fun _ _ e => e
/-- a call of a def from within an operation -/
theorem run_in {A : Around} {pins : List (Addr × Obj)} {σ : L2.St} {H : Hp} {s : Shared} {Q : VK} {us : List Value} {vs : List V} (F : FnOk X.prog X.w X.K X.mg X.base CX k f fd ps sp) (sb : Sub X k A) (hb : Binds X.K fd ps []) (hx : Passes CX X E)
    (I : Inv X pins σ H s) (r : Vals vs us) (h : sp vs H Q E) : wpAny (model X.prog X.w) A (call (.ref f) us) (EP X pins σ Q) X.xe s := by
  have e0 : Env0 X.prog X.w X.K X.mg X.base A X.stack s H := by
    have e := I.env0
    exact ⟨by rw [sb.fr]; exact e.frames, e.mod, e.bs, e.bsz, e.funs, e.frf, e.hok, e.bare⟩
  have hl : us.length = ps.length := by rw [← r.length]; exact F.len _ _ _ _ h
  refine wpAny_call (codeAny_mono (F.run A X.stack s H ⟨us, []⟩ us vs Q E sb.room e0 (by
    have := hb s us I.kIn (by simpa using hl)
    simpa using this) r h) fun r s' hq => ?_)
  cases r with
  | error e => exact hx pins σ H s e s' I hq
  | ok fl =>
    cases fl with
    | ret w =>
      obtain ⟨z, H', I', rz, q⟩ := I.after hq
      exact ⟨z, H', I', rz, q⟩
    | next => exact False.elim hq
    | brk => exact False.elim hq
    | cont => exact False.elim hq
/-- ~o -/
def rInv (C : Addr) (sp : Sp) (E : XK) : V → Hp → VK → Prop := fun x H Q => ∃ a dx fs, x = .ref a ∧ H a = some (.ins C dx fs) ∧ sp [.ref a] H Q E
theorem un_inv (F : FnOk X.prog X.w X.K X.mg X.base CX k f fd ps sp) (hr : Room k X.A) (hb : Binds X.K fd ps []) (hx : Passes CX X E) (M : Meth X.K C "__invert__" f) : UnR X (unaryOp .Invert) (rInv C sp E) := by
  intro pins s σ H x v Q I rx h
  obtain ⟨a, dx, fs, rfl, ha, q⟩ := h
  cases rx
  obtain ⟨ox, od, J⟩ := inst_at I ha
  obtain ⟨m, hF⟩ := I.fr
  exact PySem.W.ksp_inv hF I.ok.mod.kin J M.at_ M.fn (run_fn F hr hb .nil hx I (vs := [.ref a]) (.cons rfl .nil) q)
/-- x in o -/
def rInO (C : Addr) (sp : Sp) (E : XK) : R2 := fun x y H Q => ∃ a dx fs, y = .ref a ∧ H a = some (.ins C dx fs) ∧ sp [.ref a, x] H (fun v H' => ∃ b, v = .bl b ∧ Q (.bl b) H') E
theorem op_inO (F : FnOk X.prog X.w X.K X.mg X.base CX k f fd ps sp) (hr : Room k X.A) (hb : Binds X.K fd ps []) (hx : Passes CX X E) (M : Meth X.K C "__contains__" f) : OpR X (compareOp .In) (rInO C sp E) := by
  intro pins s σ H x y v u Q I rx ry h
  obtain ⟨a, dx, fs, rfl, ha, q⟩ := h
  cases ry
  obtain ⟨ox, od, J⟩ := inst_at I ha
  have K0 := I.kIn
  show wpAny (model X.prog X.w) X.A (do return .bool (← contains (.ref a) v)) (EP X pins σ Q) X.xe s
  refine wpAny_bind ?_
  unfold contains
  refine wpAny_holding ?_
  have e0 : stdlibNamesSay? (.ref a) v = none := rfl
  rw [e0]
  refine wpAny_bind (wpAny_bind (J.type.here ((PySem.W.looks_findIn K0 M.at_).here ?_)))
  show wpAny _ _ (if (some (Value.ref f) == some Value.none) = true then _ else _) _ _ s
  rw [if_neg (by simp)]
  have run := run_fn F hr hb .nil hx I (vs := [.ref a, x]) (us := [.ref a, v]) (.cons rfl (.cons rx .nil)) q
  unfold callSpecialUnlessNone?
  refine wpAny_bind (wpAny_bind (wpAny_bind (J.type.here ((PySem.W.looks_findIn K0 M.at_).here ?_))))
  refine wpAny_holding (wpAny_bind ((PySem.W.bind_fn K0 _ (beq_iff_eq.mp M.fn)).here ?_))
  show wpAny _ _ (if (Value.ref f == Value.none) = true then _ else _) _ _ s
  rw [if_neg (by simp)]
  refine wpAny_bind (wpAny_mono run (fun r s' hq => ?_) fun _ _ e => e)
  obtain ⟨w, H', I', rw', b, rfl, q'⟩ := hq
  cases rw'
  refine wpAny_pure ?_
  refine wpAny_truthy_bool (wpAny_pure ⟨.bl b, H', I', rfl, q'⟩)
/-- len(o) -/
def rLenO (C : Addr) (sp : Sp) (E : XK) : List V → Hp → VK → Prop := fun vs H Q => ∃ a dx fs, vs = [.ref a] ∧ H a = some (.ins C dx fs) ∧ sp [.ref a] H (fun v H' => ∃ n : Nat, v = .int (n : Int) ∧ n < 2 ^ 62 ∧ Q (.int (n : Int)) H') E
theorem call_lenO (F : FnOk X.prog X.w X.K X.mg X.base CX k f fd ps sp) (hr : Room (k + 1) X.A) (hb : Binds X.K fd ps []) (hx : Passes CX X E) (M : Meth X.K C "__len__" f) : CallR X (.builtin "len") (rLenO C sp E) := by
  intro pins s σ H xs us Q I r h
  obtain ⟨a, dx, fs, rfl, ha, q⟩ := h
  obtain ⟨ox, od, J⟩ := inst_at I ha
  obtain ⟨u, rfl, ru⟩ := vals1 r
  cases ru
  have K0 := I.kIn
  refine Calls.call_function_entry kind_len plain_len entry_len (args_len1 _) ?_
  unfold Builtin.«len»
  refine wpAny_bind (m := oneArg "len" _) (wpAny_pure ?_)
  have run := run_in F (A := X.A.in1) ⟨hr.in1, rfl⟩ hb hx I (vs := [.ref a]) (us := [.ref a]) (.cons rfl .nil) q
  refine wpAny_bind (m := callSpecial? (.ref a) (Str.ofString "__len__")) (PySem.W.special_fn K0 J M.at_ (beq_iff_eq.mp M.fn) (wpAny_mono run (fun rv s' hq => ?_) fun _ _ e => e))
  obtain ⟨w, H', I', rw', n, rfl, hn, q'⟩ := hq
  obtain ⟨t, rfl⟩ := rw'
  show wpAny _ _ _ _ _ s'
  refine wpAny_bind (wpAny_holding (wpAny_pure ?_))
  refine wpAny_bind (wpAny_letGo ?_)
  show wpAny _ _ (if (n : Int) < 0 then _ else _) _ _ _
  rw [if_neg (by omega)]
  show wpAny _ _ (if (n : Int) ≥ 2 ^ 63 then _ else _) _ _ _
  rw [if_neg (by omega)]
  exact wpAny_bind (wpAny_mkInt (wpAny_pure ⟨_, rfl, ⟨.int n, H', I'.tok _, ⟨_, rfl⟩, q'⟩⟩))
/-- a op b of two instances of one class, by its own method -/
theorem bin_own {op : Operator} {A : Around} {Es : Value → Shared → Prop} {s : Shared} {K : PySem.W.Frag} {x y : Addr} {ox oy : Obj} {od od' : Option Obj} {R : Value → Shared → Prop} (K0 : K.In s.heap) (J : PySem.W.InstAt s.heap x ox C od) (J' : PySem.W.InstAt s.heap y oy C od') (hc : PySem.W.selfFirst K C = true)
    (hs : PySem.W.findIn K (.ref C) (PySem.dunder op.info.2) = some (some (.ref f))) (hf : PySem.W.isFn K (.ref f) = true)
    (h : wpAny (model X.prog X.w) A (call (.ref f) [.ref x, .ref y]) (PySem.W.CmpBack R) Es s) : wpAny (model X.prog X.w) A (binaryOp op (.ref x) (.ref y)) R Es s := by
  obtain ⟨cd, rest, hcd, hm⟩ := PySem.W.ksp_first hc
  rcases hi : op.info with ⟨sym, nm'⟩
  rw [hi] at hs
  dsimp only at hs
  have one := PySem.W.ksp_try K0 J hs hf h
  have L1 : PySem.W.Looks (model X.prog X.w) s.heap (typeOf (.ref x)) (.ref C) := J.type
  have L2' : PySem.W.Looks (model X.prog X.w) s.heap (typeOf (.ref y)) (.ref C) := J'.type
  have L3 : PySem.W.Looks (model X.prog X.w) s.heap (fillsNumberSlot (.ref C) nm') true := PySem.W.fills_K K0 hcd hm hs
  simp only [binaryOp, hi]
  refine wpAny_holding (wpAny_bind ?_)
  unfold binaryOp1
  refine wpAny_bind (L1.here (wpAny_bind (L2'.here (wpAny_bind (L3.here ?_)))))
  have hne : (Value.ref C == Value.ref C) = true := by simp
  simp only [hne, if_true, pure_bind, Bool.and_false, Bool.false_and, Bool.false_eq_true, if_false]
  refine wpAny_bind (wpAny_mono one (fun r s' hr' => ?_) fun _ _ e => e)
  obtain ⟨v, rfl, hq⟩ := hr'
  exact wpAny_pure (wpAny_pure hq)
def rBinO (C : Addr) (sp : Sp) (E : XK) : R2 := fun x y H Q => ∃ a b dx dy fs gs, x = .ref a ∧ y = .ref b ∧ H a = some (.ins C dx fs) ∧ H b = some (.ins C dy gs) ∧ sp [.ref a, .ref b] H Q E
theorem op_binO {op : Operator} (F : FnOk X.prog X.w X.K X.mg X.base CX k f fd ps sp) (hr : Room k X.A) (hb : Binds X.K fd ps []) (hx : Passes CX X E) (hc : PySem.W.selfFirst X.K C = true)
    (hs : PySem.W.findIn X.K (.ref C) (PySem.dunder op.info.2) = some (some (.ref f))) (hf : PySem.W.isFn X.K (.ref f) = true) : OpR X (binaryOp op) (rBinO C sp E) := by
  intro pins s σ H x y v u Q I rx ry h
  obtain ⟨a, b, dx, dy, fs, gs, rfl, rfl, ha, hb', q⟩ := h
  cases rx
  cases ry
  obtain ⟨ox, od, J⟩ := inst_at I ha
  obtain ⟨oy, od', J'⟩ := inst_at I hb'
  exact bin_own I.kIn J J' hc hs hf (cmp_back (run_fn F hr hb .nil hx I (vs := [.ref a, .ref b]) (.cons rfl (.cons rfl .nil)) q))
/-- o == y: y of any kind -/
def rEqO (K : PySem.W.Frag) (C : Addr) (sp : Sp) (E : XK) : R2 := fun x y H Q => ∃ a dx fs t, x = .ref a ∧ H a = some (.ins C dx fs) ∧ TyX K H y t ∧ PySem.W.notFirst K C t = true ∧ sp [.ref a, y] H Q E
theorem op_eqO (F : FnOk X.prog X.w X.K X.mg X.base CX k f fd ps sp) (hr : Room k X.A) (hu : X.A.units < cLine) (hb : Binds X.K fd ps []) (hx : Passes CX X E) (M : Meth X.K C "__eq__" f) : OpR X (compareOp .Eq) (rEqO X.K C sp E) := by
  intro pins s σ H x y v u Q I rx ry h
  obtain ⟨a, dx, fs, t, rfl, ha, ht, hn, q⟩ := h
  cases rx
  obtain ⟨ox, od, J⟩ := inst_at I ha
  obtain ⟨m, hF⟩ := I.fr
  show wpAny (model X.prog X.w) X.A (richCompare .Eq (.ref a) u) (EP X pins σ Q) X.xe s
  exact PySem.W.cmp_K (op := .Eq) (tb := t) hu hF I.ok.mod.kin J (by obtain ⟨P, Z, p, _⟩ := kit_of I ry ht; exact Z.ty _ _ I.kIn p) hn M.at_ M.fn (cmp_back (run_fn F hr hb .nil hx I (vs := [.ref a, y]) (.cons rfl (.cons ry .nil)) q))
theorem ne_slot : PySem.Slot "object" "__ne__" "object.__ne__" := .of (T := "object") (name := "__ne__") (owner := "object") (n := "__ne__") (by rw [typeLookup_type, builtinLookup_eq_fast]; kernel_rfl) (by decide +kernel) (by decide +kernel) (by decide +kernel) (.inl (by decide +kernel)) (by rw [isSubtype_type]; kernel_rfl)
/-- a slot of object's, found in an own class -/
theorem ifBound_B {M : Model} {A : Around} {Es : Value → Shared → Prop} {s : Shared} {K : PySem.W.Frag} {x : Addr} {ox : Obj} {od : Option Obj} {name : Str} {id : String} {args : List Value} {R : Option Value → Shared → Prop} (S : PySem.Slot "object" name id) (K0 : K.In s.heap) (J : PySem.W.InstAt s.heap x ox C od)
    (hs : PySem.W.findIn K (.ref C) name = some (some (.builtin id))) (h : wpAny M A (call (.builtin id) (.ref x :: args)) (fun v => R (some v)) Es s) : wpAny M A (callSpecialIfBound? (.ref x) name args) R Es s := by
  simp only [callSpecialIfBound?, bindSpecialIfBound?]
  refine wpAny_holding (wpAny_bind (wpAny_bind (wpAny_bind (J.type.here ((PySem.W.looks_findIn K0 hs).here ?_)))))
  refine wpAny_bind (wpAny_askSetting (wpAny_ite ?_))
  have fin : wpAny M A (call (.builtin id) ([.ref x] ++ args) >>= fun v => pure (some v)) R Es s := wpAny_bind (wpAny_mono h (fun v s' h' => wpAny_pure h') fun _ _ h' => h')
  split
  · rw [S.bind]
    exact wpAny_bind (wpAny_pure (wpAny_pure (by exact fin)))
  · rw [S.bind]
    exact wpAny_tryCatch (wpAny_bind (wpAny_pure (wpAny_pure (by exact fin))))
/-- o != u of two instances of one class whose == is its own -/
def rNeO (C : Addr) (sp : Sp) (E : XK) : R2 := fun x y H Q => ∃ a b dx dy fs gs, x = .ref a ∧ y = .ref b ∧ H a = some (.ins C dx fs) ∧ H b = some (.ins C dy gs) ∧ sp [.ref a, .ref b] H (fun v H' => ∃ r, v = .bl r ∧ Q (.bl (!r)) H') E
theorem op_neO (F : FnOk X.prog X.w X.K X.mg X.base CX k f fd ps sp) (hr : Room (k + 1) X.A) (hu : X.A.units + 1 < cLine) (hb : Binds X.K fd ps []) (hx : Passes CX X E) (M : Meth X.K C "__eq__" f)
    (hn : PySem.W.findIn X.K (.ref C) "__ne__" = some (some (.builtin "object.__ne__"))) (hO : PySem.W.subIn X.K (.ref C) (.type "object") = some true) : OpR X (compareOp .NotEq) (rNeO C sp E) := by
  intro pins s σ H x y v u Q I rx ry h
  obtain ⟨a, b, dx, dy, fs, gs, rfl, rfl, ha, hb', q⟩ := h
  cases rx
  cases ry
  obtain ⟨ox, od, J⟩ := inst_at I ha
  obtain ⟨oy, od', J'⟩ := inst_at I hb'
  have K0 := I.kIn
  have hu0 : X.A.units < cLine := by omega
  show wpAny (model X.prog X.w) X.A (richCompare .NotEq (.ref a) (.ref b)) (EP X pins σ Q) X.xe s
  unfold richCompare
  simp only [oneThing_ref]
  refine wpAny_holding (wpAny_bind (wpAny_cRoomFor hu0 ?_))
  rw [cmpInfo_NotEq]
  dsimp only
  refine wpAny_bind (J.type.here (wpAny_bind (J'.type.here ?_)))
  rw [show (Value.ref C != Value.ref C) = false from by simp]
  simp only [Bool.false_eq_true, if_false]
  refine wpAny_bind (wpAny_pure ?_)
  simp only [Bool.false_eq_true, if_false]
  have run := run_in F (A := X.A.in1) ⟨hr.in1, rfl⟩ hb hx I (vs := [.ref a, .ref b]) (us := [.ref a, .ref b]) (.cons rfl (.cons rfl .nil)) q
  have isO : PySem.W.Looks (model X.prog X.w) s.heap (isInstance (.ref a) (.type "object")) true := J.type.andThen (PySem.W.looks_subIn K0 hO)
  have one : wpAny (model X.prog X.w) X.A (tryCompare (.ref a) "__ne__" (.ref b)) (fun r s' => ∃ v, r = some v ∧ EP X pins σ Q v s') X.xe s := by
    simp only [tryCompare]
    refine wpAny_bind (ifBound_B ne_slot K0 J hn (wpAny_call (codeAny_call_builtin (by decide +kernel) PySem.F.cmpEntry_ne (PySem.W.check_slot PySem.F.cmpKind_ne PySem.F.cmpSplit_ne isO (PySem.F.cmpArgs_ne _ _) ?_))))
    unfold Builtin.«object.__ne__»
    have hu1 : X.A.in1.units < cLine := by
      have : X.A.in1.units = X.A.units + 1 := rfl
      omega
    repeat (first
      | with_reducible refine wpAny_cRoomFor hu1 ?_
      | (refine wpAny_bind (m := callSpecialIfBound? (.ref a) (Str.ofString "__eq__") [.ref b])
          (PySem.W.ifBound_K K0 J M.at_ M.fn (wpAny_mono run (fun r s' hq => by
            obtain ⟨w, H', I', rw', b', rfl, q'⟩ := hq
            cases rw'
            have fin : EP X pins σ Q (.bool (!b')) s' := ⟨.bl (!b'), H', I', rfl, q'⟩
            repeat (first | exact ⟨_, rfl, fin⟩ | exact wpAny_pure ⟨_, rfl, fin⟩ | (refine wpAny_bind (m := truthy (.bool _)) (wpAny_truthy_bool ?_)) | wp_step)) fun _ _ e => e)))
      | wp_step)
  refine wpAny_bind (wpAny_mono one (fun r s' hr' => ?_) fun _ _ e => e)
  obtain ⟨v, rfl, hq⟩ := hr'
  exact wpAny_pure hq
end
end OW

set_option maxHeartbeats 3900000
namespace N4
open PySem PySem.Spec PyProof.Rows L2 TL RP
open C8 (pss_cut tCut pe_gc)
open CB
abbrev sWFiles : Stmt := inClass (top 23) 1
abbrev sWSet : Stmt := inClass (top 23) 2
abbrev sWCon : Stmt := inClass (top 23) 6
abbrev sIsCh : Stmt := top 28
abbrev sShort : Stmt := top 29
abbrev sLong : Stmt := top 30
abbrev sCan : Stmt := top 31
theorem iteNY {c A B : Prop} [Decidable c] (h : ¬ c) (a : A) : if (!decide c) = true then A else B := by
  rw [decide_eq_false h]
  exact a
theorem iteNN {c A B : Prop} [Decidable c] (h : c) (b : B) : if (!decide c) = true then A else B := by
  rw [decide_eq_true h]
  exact b
def ChOk : Ch → Prop
  | .put p _ => p ≠ [] ∧ Nms p ∧ p.length ≤ 90
  | .drop p => p ≠ [] ∧ Nms p ∧ p.length ≤ 90
  | .set n _ => IsNm n
  | .tool _ => True
theorem Can.ok {zs : List Str} {a : St0} {c : Ch} (h : Can zs a c) (nm : ∀ y ∈ zs, IsNm y) : ChOk c := by
  cases c with
  | put p t => exact ⟨h.1.1, fun y hy => nm y (h.1.2.2 y hy), by have := h.1.2.1; omega⟩
  | drop p => exact ⟨h.1.1, fun y hy => nm y (h.1.2.2 y hy), by have := h.1.2.1; omega⟩
  | set n t => exact nm n h.1
  | tool t => trivial
def spWFiles (C : Addr) : Sp := fun vs H Q _ => ∃ o fs ss z, vs = [.ref o] ∧ WoAt C H o fs ss z ∧ ∀ d, H d = none → Q (.ref d) (upd H d (.dK (fsK fs)))
def spWSet (C : Addr) : Sp := fun vs H Q _ => ∃ o fs ss z, vs = [.ref o] ∧ WoAt C H o fs ss z ∧ ∀ d, H d = none → Q (.ref d) (upd H d (.dK (ssK ss)))
def spWCon (C : Addr) : Sp := fun vs H Q _ => ∃ o fs ss z q, vs = [.ref o, .str (js q)] ∧ WoAt C H o fs ss z ∧ (∀ e ∈ fs, Nms e.1) ∧ Nms q ∧ Q (.bl (decide (q ∈ fs.map (·.1)))) H
def spShort : Sp := fun vs H Q _ => ∃ c, vs = chV c ∧ vs.length = 2 ∧ ChOk c ∧ ∀ H', Same H H' → Q (.bl true) H'
def spLong : Sp := fun vs H Q _ => ∃ c, vs = chV c ∧ vs.length = 3 ∧ ChOk c ∧ ∀ H', Same H H' → Q (.bl true) H'
def spIsCh : Sp := fun vs H Q _ => ∃ v c, vs = [v] ∧ RowAt H v (chV c) ∧ ChOk c ∧ ∀ H', Same H H' → Q (.bl true) H'
def spCan (C : Addr) : Sp := fun vs H Q _ => ∃ o v zs fs ss z c, vs = [.ref o, v] ∧ WoAt C H o fs ss z ∧ RowAt H v (chV c) ∧ GoodF zs fs ∧ (∀ y ∈ zs, IsNm y) ∧ fs.length ≤ 50 ∧ Can zs ⟨fOf fs, sOf ss, z⟩ c ∧ ∀ H', Same H H' → Q (.bl true) H'
section
variable {P : Program} {w : World} {K : PySem.W.Frag} {mg : Str → Option Value} {base : Heap} {C : Addr}
theorem scWFiles : FnScope ["self"] ["self"] (defScope sWFiles) := ⟨rfl, rfl, rfl, by decide +kernel, rfl, by decide +kernel, by decide +kernel⟩
theorem ok_wfiles {f : Addr} {fd : FuncData} (F : Fun K "files" "World.files" sWFiles f fd) (mDict : mg "dict" = none) (R : WCl K mg C) : FnOk P w K mg base CX0 1 f fd ["self"] (spWFiles C) := by
  refine F.ok scWFiles (fun vs H Q E h => ?_) (fun cdv A outer s H vs Q E hr h => ?_)
  · obtain ⟨o, fs, ss, z, rfl, _⟩ := h
    rfl
  · obtain ⟨o, fs, ss, z, rfl, ⟨dx, d, e, ho, hd, he⟩, k⟩ := h
    refine ⟨_, pss_one (ps_ret (pe_callTy call_dictD (by rfl) mDict (by decide +kernel) (pa_cons (pe_fld (pv 0) rfl) pa_nil))), ?_⟩
    exact ⟨_, rfl, o, C, dx, _, _, rfl, ho, R.cl, R.n1, lk_1, d, _, rfl, .inl hd, fun d' hd' => k d' hd'⟩
theorem scWSet : FnScope ["self"] ["self"] (defScope sWSet) := ⟨rfl, rfl, rfl, by decide +kernel, rfl, by decide +kernel, by decide +kernel⟩
theorem ok_wset {f : Addr} {fd : FuncData} (F : Fun K "settings" "World.settings" sWSet f fd) (mDict : mg "dict" = none) (R : WCl K mg C) : FnOk P w K mg base CX0 1 f fd ["self"] (spWSet C) := by
  refine F.ok scWSet (fun vs H Q E h => ?_) (fun cdv A outer s H vs Q E hr h => ?_)
  · obtain ⟨o, fs, ss, z, rfl, _⟩ := h
    rfl
  · obtain ⟨o, fs, ss, z, rfl, ⟨dx, d, e, ho, hd, he⟩, k⟩ := h
    refine ⟨_, pss_one (ps_ret (pe_callTy call_dictD (by rfl) mDict (by decide +kernel) (pa_cons (pe_fld (pv 0) rfl) pa_nil))), ?_⟩
    exact ⟨_, rfl, o, C, dx, _, _, rfl, ho, R.cl, R.n2, lk_2, e, _, rfl, .inl he, fun d' hd' => k d' hd'⟩
theorem scWCon : FnScope ["self", "x"] ["self", "x"] (defScope sWCon) := ⟨rfl, rfl, rfl, by decide +kernel, rfl, by decide +kernel, by decide +kernel⟩
theorem ok_wcon {f : Addr} {fd : FuncData} (F : Fun K "__contains__" "World.__contains__" sWCon f fd) (T : TB mg) (R : WCl K mg C) : FnOk P w K mg base CX0 1 f fd ["self", "x"] (spWCon C) := by
  refine F.ok scWCon (fun vs H Q E h => ?_) (fun cdv A outer s H vs Q E hr h => ?_)
  · obtain ⟨o, fs, ss, z, q, rfl, _⟩ := h
    rfl
  · have hu1 := Nat.lt_of_le_of_lt (Nat.add_le_add_left (show 1 ≤ 64 by decide) _) hr.units
    obtain ⟨o, fs, ss, z, q, rfl, ⟨dx, d, e, ho, hd, he⟩, nf, hq, k⟩ := h
    refine ⟨_, pss_one (ps_ret (pe_and (pe_callB call_isi (by rfl) T.isinstance (by decide +kernel) (pa_cons (pv 1) (pa_cons (pe_bltn (v := .ty "str") (by rfl) T.str (by decide +kernel) rfl) pa_nil))) (pe_one (pe_cmp (pc_din hu1 (pv 1) (pe_fld (pv 0) rfl)) rfl)))), ?_⟩
    refine ⟨_, rfl, _, _, .type "str", .type "str", true, rfl, .ty "str", .base (.str _), kit_ty (by decide +kernel), _, rfl, iteT ?_⟩
    have e0 : (valV (fsK fs) (.inr (js q))).isSome = decide (q ∈ fs.map (·.1)) := by
      rw [fs_val nf hq, Option.isSome_map]
      cases h : fOf fs q with
      | none =>
        have := mt fOf_mem.mpr (by rw [h]; simp)
        rw [decide_eq_false this]
        rfl
      | some t =>
        have := fOf_mem.mp (show fOf fs q ≠ none by rw [h]; simp)
        rw [decide_eq_true this]
        rfl
    refine ⟨_, rfl, _, rfl, o, C, dx, _, _, rfl, ho, R.cl, R.n1, lk_1, ?_⟩
    rw [← e0] at k
    exact ⟨d, _, rfl, DGet.k (k := .inr (js q)) hd, k⟩
theorem scShort : FnScope ["word", "thing"] ["word", "thing"] (defScope sShort) := ⟨rfl, rfl, rfl, by decide +kernel, rfl, by decide +kernel, by decide +kernel⟩
theorem ok_short {f fPh : Addr} {fd fdPh : FuncData} (F : Fun K "is_short_change" "is_short_change" sShort f fd) (T : TB mg) (aIsPath : At K mg "is_path" fPh fdPh ["thing"]) (GIsPath : FnOk P w K mg base CX0 2 fPh fdPh ["thing"] spIsPath) : FnOk P w K mg base CX0 3 f fd ["word", "thing"] spShort := by
  refine F.ok scShort (fun vs H Q E h => ?_) (fun cdv A outer s H vs Q E hr h => ?_)
  · obtain ⟨c, _, h2, _⟩ := h
    exact h2
  · obtain ⟨c, rfl, h2, hk, q⟩ := h
    refine ⟨_, pss_cons (ps_if (pt_cmpR op_eq (pv 0) pe_str (nomark _)) (pss_one (ps_ret (pe_call GIsPath (hr.mono (by decide)) rfl aIsPath.m aIsPath.k aIsPath.b .nil pass0 (pa_cons (pv 1) pa_nil)))) (pss_nil))
            (pss_one (ps_ret (pe_and (pe_cmpR op_eq (pv 0) pe_str (nomark _)) (pe_one (pe_callB call_isi (by rfl) T.isinstance (by decide +kernel) (pa_cons (pv 1) (pa_cons (pe_bltn (v := .ty "str") (by rfl) T.str (by decide +kernel) rfl) pa_nil))))))), ?_⟩
    cases c with
    | drop p =>
      refine ⟨_, rfl, rfl, _, rfl, iteY rfl ⟨_, rfl, p, rfl, hk.2.1, Nat.le_trans hk.2.2 (by decide), fun H1 s1 => ?_⟩⟩
      rw [decide_eq_true hk.1]
      exact q H1 s1
    | tool t => exact ⟨_, rfl, rfl, _, rfl, iteN (by decide +kernel) ⟨_, rfl, rfl, _, rfl, iteY rfl ⟨_, rfl, _, _, .type "str", .type "str", true, rfl, .ty "str", .base (.str _), kit_ty (by decide +kernel), q H (Same.refl H)⟩⟩⟩
    | put p t => exact absurd h2 (by show ¬ (3 : Nat) = 2; decide)
    | set n t => exact absurd h2 (by show ¬ (3 : Nat) = 2; decide)
theorem scLong : FnScope ["word", "where", "text"] ["word", "where", "text"] (defScope sLong) := ⟨rfl, rfl, rfl, by decide +kernel, rfl, by decide +kernel, by decide +kernel⟩
theorem ok_long {f fPh fN : Addr} {fd fdPh fdN : FuncData} (F : Fun K "is_long_change" "is_long_change" sLong f fd) (T : TB mg) (aIsPath : At K mg "is_path" fPh fdPh ["thing"]) (GIsPath : FnOk P w K mg base CX0 2 fPh fdPh ["thing"] spIsPath)
    (aIsName : At K mg "is_name" fN fdN ["thing"]) (GIsName : FnOk P w K mg base CX0 1 fN fdN ["thing"] spIsName) : FnOk P w K mg base CX0 3 f fd ["word", "where", "text"] spLong := by
  refine F.ok scLong (fun vs H Q E h => ?_) (fun cdv A outer s H vs Q E hr h => ?_)
  · obtain ⟨c, _, h2, _⟩ := h
    exact h2
  · obtain ⟨c, rfl, h2, hk, q⟩ := h
    refine ⟨_, pss_cons (ps_if (pt_cmpR op_eq (pv 0) pe_str (nomark _)) (pss_one (ps_ret (pe_and (pe_call GIsPath (hr.mono (by decide)) rfl aIsPath.m aIsPath.k aIsPath.b .nil pass0 (pa_cons (pv 1) pa_nil)) (pe_one (pe_callB call_isi (by rfl) T.isinstance (by decide +kernel) (pa_cons (pv 2) (pa_cons (pe_bltn (v := .ty "str") (by rfl) T.str (by decide +kernel) rfl) pa_nil))))))) (pss_nil))
            (pss_one (ps_ret (pe_and (pe_cmpR op_eq (pv 0) pe_str (nomark _)) (pe_and (pe_call GIsName (hr.mono (by decide)) rfl aIsName.m aIsName.k aIsName.b .nil pass0 (pa_cons (pv 1) pa_nil)) (pe_one (pe_or (pe_cmp (pc_isN (pv 2)) rfl) (pe_one (pe_callB call_isi (by rfl) T.isinstance (by decide +kernel) (pa_cons (pv 2) (pa_cons (pe_bltn (v := .ty "str") (by rfl) T.str (by decide +kernel) rfl) pa_nil)))))))))), ?_⟩
    cases c with
    | put p t =>
      refine ⟨_, rfl, rfl, _, rfl, iteY rfl ⟨_, rfl, p, rfl, hk.2.1, Nat.le_trans hk.2.2 (by decide), fun H1 s1 => ⟨_, rfl, ?_⟩⟩⟩
      rw [decide_eq_true hk.1]
      exact iteT ⟨_, rfl, _, _, .type "str", .type "str", true, rfl, .ty "str", .base (.str _), kit_ty (by decide +kernel), q H1 s1⟩
    | set n t =>
      refine ⟨_, rfl, rfl, _, rfl, iteN (by decide +kernel) ⟨_, rfl, rfl, _, rfl, iteY rfl ⟨_, rfl, n, rfl, nm_sh hk, fun H1 s1 => ⟨decide (IsNm n), rfl, ?_⟩⟩⟩⟩
      rw [decide_eq_true (show IsNm n from hk)]
      refine iteT ?_
      cases t with
      | none => exact ⟨_, rfl, _, rfl, iteT (q H1 s1)⟩
      | some t => exact ⟨_, rfl, _, rfl, iteF ⟨_, rfl, _, _, .type "str", .type "str", true, rfl, .ty "str", .base (.str _), kit_ty (by decide +kernel), q H1 s1⟩⟩
    | drop p => exact absurd h2 (by show ¬ (2 : Nat) = 3; decide)
    | tool t => exact absurd h2 (by show ¬ (2 : Nat) = 3; decide)
theorem scIsCh : FnScope ["thing"] ["thing"] (defScope sIsCh) := ⟨rfl, rfl, rfl, by decide +kernel, rfl, by decide +kernel, by decide +kernel⟩
theorem ok_isCh {f fR fS fL : Addr} {fd fdR fdS fdL : FuncData} (F : Fun K "is_change" "is_change" sIsCh f fd) (T : TB mg) (aRow : At K mg "is_row" fR fdR ["thing", "size"]) (GRow : FnOk P w K mg base CX0 1 fR fdR ["thing", "size"] spRow)
    (aShort : At K mg "is_short_change" fS fdS ["word", "thing"]) (GShort : FnOk P w K mg base CX0 3 fS fdS ["word", "thing"] spShort) (aLong : At K mg "is_long_change" fL fdL ["word", "where", "text"]) (GLong : FnOk P w K mg base CX0 3 fL fdL ["word", "where", "text"] spLong) : FnOk P w K mg base CX0 4 f fd ["thing"] spIsCh := by
  refine F.ok scIsCh (fun vs H Q E h => ?_) (fun cdv A outer s H vs Q E hr h => ?_)
  · obtain ⟨v, c, rfl, _⟩ := h
    rfl
  · obtain ⟨v, c, rfl, hv, hk, q⟩ := h
    refine ⟨_, pss_cons (ps_if (PW.pt (pw_and (pt_not (pt_val (pe_call GRow (hr.mono (by decide)) rfl aRow.m aRow.k aRow.b .nil pass0 (pa_cons (pv 0) (pa_cons pe_int pa_nil))))) (pw_and1 (pt_not (pt_val (pe_call GRow (hr.mono (by decide)) rfl aRow.m aRow.k aRow.b .nil pass0 (pa_cons (pv 0) (pa_cons pe_int pa_nil)))))))) (pss_one (ps_ret pe_bl)) (pss_nil))
            (pss_cons (ps_if (pt_not (pt_val (pe_callB call_isi (by rfl) T.isinstance (by decide +kernel) (pa_cons (pe_ix ix_row (pv 0) pe_int (fun _ _ => rfl)) (pa_cons (pe_bltn (v := .ty "str") (by rfl) T.str (by decide +kernel) rfl) pa_nil))))) (pss_one (ps_ret pe_bl)) (pss_nil))
            (pss_cons (ps_if (pt_cmpR op_eq (pe_callB call_len_row (by rfl) T.len PySem.boot_len (pa_cons (pv 0) pa_nil)) pe_int (nomark _)) (pss_one (ps_ret (pe_call GShort (hr.mono (by decide)) rfl aShort.m aShort.k aShort.b .nil pass0 (pa_cons (pe_ix ix_row (pv 0) pe_int (fun _ _ => rfl)) (pa_cons (pe_ix ix_row (pv 0) pe_int (fun _ _ => rfl)) pa_nil))))) (pss_nil))
            (pss_one (ps_ret (pe_call GLong (hr.mono (by decide)) rfl aLong.m aLong.k aLong.b .nil pass0 (pa_cons (pe_ix ix_row (pv 0) pe_int (fun _ _ => rfl)) (pa_cons (pe_ix ix_row (pv 0) pe_int (fun _ _ => rfl)) (pa_cons (pe_ix ix_row (pv 0) pe_int (fun _ _ => rfl)) pa_nil)))))))), ?_⟩
    have two : ∀ (a b : Str), chV c = [.str a, .str b] → spShort [.str a, .str b] = spShort (chV c) → ∀ H1, Same H H1 → True := fun _ _ _ _ _ _ => trivial
    by_cases h2 : (chV c).length = 2
    · obtain ⟨a, b, e⟩ : ∃ a b, chV c = [.str a, .str b] := by
        cases c with
        | drop p => exact ⟨_, _, rfl⟩
        | tool t => exact ⟨_, _, rfl⟩
        | put p t => exact absurd h2 (by show ¬ (3 : Nat) = 2; decide)
        | set n t => exact absurd h2 (by show ¬ (3 : Nat) = 2; decide)
      have hv := hv
      rw [e] at hv
      refine ⟨_, rfl, v, _, 2, rfl, hv, fun H1 s1 => ⟨_, rfl, iteF (A := _) ?_⟩⟩
      have v1 := hv.up s1
      refine ⟨_, rfl, _, 0, _, v1, rfl, atI_nat (j := 0) rfl, _, _, .type "str", .type "str", true, rfl, .ty "str", .base (.str _), kit_ty (by decide +kernel), _, rfl, iteF ⟨_, rfl, _, _, rfl, v1, rfl, _, rfl, iteY rfl ?_⟩⟩
      exact ⟨_, rfl, _, 0, _, v1, rfl, atI_nat (j := 0) rfl, _, rfl, _, 1, _, v1, rfl, atI_nat (j := 1) rfl, c, e.symm, rfl, hk, fun H2 s2 => q H2 (s1.trans s2)⟩
    · obtain ⟨a, b, x, e⟩ : ∃ a b x, chV c = [.str a, .str b, x] := by
        cases c with
        | drop p => exact absurd rfl h2
        | tool t => exact absurd rfl h2
        | put p t => exact ⟨_, _, _, rfl⟩
        | set n t => exact ⟨_, _, _, rfl⟩
      have hv := hv
      rw [e] at hv
      refine ⟨_, rfl, v, _, 2, rfl, hv, fun H1 s1 => ⟨_, rfl, iteT ⟨_, rfl, v, _, 3, rfl, hv.up s1, fun H2 s2 => ⟨_, rfl, iteF ?_⟩⟩⟩⟩
      have v1 := (hv.up s1).up s2
      have s12 := s1.trans s2
      refine ⟨_, rfl, _, 0, _, v1, rfl, atI_nat (j := 0) rfl, _, _, .type "str", .type "str", true, rfl, .ty "str", .base (.str _), kit_ty (by decide +kernel), _, rfl, iteF ⟨_, rfl, _, _, rfl, v1, rfl, _, rfl, iteN (by intro q; have q2 : (((3 : Nat) : Int)) = 2 := V.int.inj q; exact absurd q2 (by decide)) ?_⟩⟩
      exact ⟨_, rfl, _, 0, _, v1, rfl, atI_nat (j := 0) rfl, _, rfl, _, 1, _, v1, rfl, atI_nat (j := 1) rfl, _, rfl, _, 2, _, v1, rfl, atI_nat (j := 2) rfl, c, e.symm, rfl, hk, fun H2 s2 => q H2 (s12.trans s2)⟩
/-- nothing of a path that may be put stands above or beneath it -/
theorem fm_none {fs : Fs} {p : List Str} {fm : Nm} (h : Fm fs p fm) (fr : ∀ q, fOf fs q ≠ none → ben p q = false ∧ ben q p = false) : fm = [] := by
  cases fm with
  | nil => rfl
  | cons e r =>
    obtain ⟨x, hx, t, h1, h2⟩ := (h.has e.1 e.2).mp List.mem_cons_self
    have b := (fr x.1 (fOf_mem.mpr (List.mem_map_of_mem hx))).2
    have b2 : ben x.1 p = true := ben_iff.mpr ⟨e.1 :: t, by simp, h1⟩
    rw [b2] at b
    cases b
theorem aboves_none {fs : Fs} {p q : List Str} (hq : q ∈ aboves p) (fr : ∀ q, fOf fs q ≠ none → ben p q = false ∧ ben q p = false) : q ∉ fs.map (·.1) := fun hm => by
  have b := (fr q (fOf_mem.mpr hm)).1
  have b2 : ben p q = true := by
    obtain ⟨r, hr, e⟩ := aboves_is hq
    exact ben_iff.mpr ⟨r, hr, e⟩
  rw [b2] at b
  cases b
theorem scCan : FnScope ["world", "change", "blocked", "top"] ["world", "change"] (defScope sCan) := ⟨rfl, rfl, rfl, by decide +kernel, rfl, by decide +kernel, by decide +kernel⟩
theorem ok_can {f fAb fAn fCo : Addr} {fd fdAb fdAn fdCo : FuncData} (F : Fun K "can_be_done" "can_be_done" sCan f fd) (T : TB mg) (R : WCl K mg C) (aAbove : At K mg "paths_above" fAb fdAb ["path"]) (GAbove : FnOk P w K mg base CX0 1 fAb fdAb ["path"] spAbove)
    (mAn : Meth K C "answer" fAn) (bAn : L2.Binds K fdAn ["self", "look"] []) (GAn : FnOk P w K mg base CX0 6 fAn fdAn ["self", "look"] (spWAns C)) (mCon : Meth K C "__contains__" fCo) (bCon : L2.Binds K fdCo ["self", "x"] []) (GCon : FnOk P w K mg base CX0 1 fCo fdCo ["self", "x"] (spWCon C)) :
    FnOk P w K mg base CX0 7 f fd ["world", "change"] (spCan C) := by
  refine F.ok scCan (fun vs H Q E h => ?_) (fun cdv A outer s H vs Q E hr h => ?_)
  · obtain ⟨o, v, zs, fs, ss, z, c, rfl, _⟩ := h
    rfl
  · have hu := hr.units
    obtain ⟨o, v, zs, fs, ss, z, c, rfl, wo, hv, g, nm, fl, cn, q⟩ := h
    refine ⟨_, pss_cons (ps_if (pt_cmpR op_eq (pe_ix ix_row (pv 1) pe_int (fun _ _ => rfl)) pe_str (nomark _)) (pss_cons (ps_set (i := 2) scCan.nd rfl (Or.inl rfl) (pe_callB (cr_any rfl) (by rfl) T.any boot_any (pa_cons (pe_lc (own := [("top", 3)]) (g := gName 3) (tt := tYes) rfl scCan.nd (pi_list (pe_call GAbove (hr.mono (by decide)) rfl aAbove.m aAbove.k aAbove.b .nil pass0 (pa_cons (pe_ix ix_row (pv 1) pe_int (fun _ _ => rfl)) pa_nil))) (blkOk_by (own := [("top", 3)]) (N := ["world", "change", "blocked", "top"]) (sc := defScope sCan) (by decide +kernel)) (fun _ _ _ _ _ => (pg_name (i := 3) scCan.nd rfl (Or.inl rfl))) (fun _ _ _ _ _ => pts_nil) (fun _ _ _ _ _ => (by exact (pe_cmpR (OW.op_inO GCon (hr.mono (by decide)) bCon pass0 mCon) (pv 3) (pv 0) (by rfl))))) pa_nil)))
            (pss_one (ps_ret (pe_and (pe_not (pv 2)) (pe_one (pe_cmp (pc_isN (pe_meth (pv 0) R.cl mAn GAn (hr.mono (by decide)) bAn .nil pass0 (pa_cons (pe_tup (pa_cons pe_str (pa_cons (pe_ix ix_row (pv 1) pe_int (fun _ _ => rfl)) pa_nil))) pa_nil))) rfl)))))) (pss_nil))
            (pss_one (ps_ret (pe_or (pe_cmpR op_ne (pe_ix ix_row (pv 1) pe_int (fun _ _ => rfl)) pe_str (nomark _)) (pe_one (pe_cmpR (OW.op_inO GCon (hr.mono (by decide)) bCon pass0 mCon) (pe_ix ix_row (pv 1) pe_int (fun _ _ => rfl)) (pv 0) (by rfl)))))), ?_⟩
    have nf : ∀ e ∈ fs, Nms e.1 := fun e he y hy => nm y ((g.path e he).2.2 y hy)
    have e1 : ∀ a b : Str, decide (V.str a = V.str b) = decide (a = b) := fun a b => decide_eq_decide.mpr ⟨V.str.inj, fun q => by rw [q]⟩
    cases c with
    | put p t =>
      obtain ⟨⟨pne, pl, pz⟩, ht, fr⟩ := cn
      have np : Nms p := fun y hy => nm y (pz y hy)
      have al := aboves_len p
      refine ⟨_, rfl, _, 0, _, hv, rfl, atI_nat (j := 0) rfl, rfl, _, rfl, iteY rfl ?_⟩
      refine ⟨_, rfl, _, 1, _, hv, rfl, atI_nat (j := 1) rfl, p, rfl, np, by omega, fun D0 H1 hD0 s1 hD1 => ⟨D0, rfl, ⟨_, SqL.of hD1⟩, fun D hD => ?_⟩⟩
      refine lc_mapL (aboves p) (fun q => .str (js q)) (fun _ => .bl false) (by omega) hD (SqL.of hD1) (fun t ht H2 s2 Q1 k1 => ?_) (fun H2 s2 hD2 => ?_)
      · obtain ⟨r, hr, er⟩ := aboves_is ht
        have wo2 := wo.same (s1.trans s2)
        obtain ⟨dx, d, e, h1, h2, h3⟩ := id wo2
        refine ⟨_, rfl, _, rfl, o, dx, _, rfl, h1, o, fs, ss, z, t, rfl, wo2, nf, fun y hy => np y (by rw [er]; exact List.mem_append_left _ hy), _, rfl, ?_⟩
        rw [decide_eq_false (aboves_none ht fr)]
        exact k1 H2 (Same.refl H2)
      · refine ⟨D, (aboves p).map fun _ => false, rfl, SqL.of (by rw [hD2, List.map_map]; rfl), ?_⟩
        have anyF : ((aboves p).map fun _ => false).any id = false := by
          rw [List.any_map, List.any_eq_false]
          intro t _ h
          cases h
        rw [anyF]
        have s12 := s1.trans s2
        have wo2 := wo.same s12
        obtain ⟨dx, d, e, h1, h2, h3⟩ := id wo2
        refine ⟨_, rfl, _, rfl, _, rfl, iteT ⟨_, rfl, o, dx, _, rfl, h1, lk_an _ _ _, _, rfl, _, 1, _, hv.up s12, rfl, atI_nat (j := 1) rfl, by show 2 ≤ sizeLine; decide, fun tp htp => ?_⟩⟩
        have s3 := same_mk (o := .tup [.str "list", .str (js p)]) htp
        refine ⟨o, .ref tp, zs, fs, ss, z, .ls p, rfl, wo2.same s3, ⟨tp, rfl, .inl upd_same⟩, ⟨np, by omega⟩, g, nm, fl, fun v H4 s4 an => ?_⟩
        obtain ⟨fm, hfm, ⟨_, _, rfl⟩ | ⟨why, _⟩⟩ := an
        · rw [decide_eq_true rfl]
          exact q H4 (s12.trans (s3.trans s4))
        · exact (why.elim (fun h => h (fm_none hfm fr)) fun h => pne h).elim
    | drop p =>
      obtain ⟨⟨pne, pl, pz⟩, hp⟩ := cn
      have np : Nms p := fun y hy => nm y (pz y hy)
      refine ⟨_, rfl, _, 0, _, hv, rfl, atI_nat (j := 0) rfl, rfl, _, rfl, iteN (by decide +kernel) ?_⟩
      obtain ⟨dx, d, e, h1, h2, h3⟩ := id wo
      refine ⟨_, rfl, _, 0, _, hv, rfl, atI_nat (j := 0) rfl, rfl, _, rfl, iteNN rfl ⟨_, rfl, _, 1, _, hv, rfl, atI_nat (j := 1) rfl, _, rfl, o, dx, _, rfl, h1, o, fs, ss, z, p, rfl, wo, nf, np, _, rfl, ?_⟩⟩
      rw [decide_eq_true (fOf_mem.mp hp)]
      exact q H (Same.refl H)
    | set n t =>
      refine ⟨_, rfl, _, 0, _, hv, rfl, atI_nat (j := 0) rfl, rfl, _, rfl, iteN (by decide +kernel) ?_⟩
      exact ⟨_, rfl, _, 0, _, hv, rfl, atI_nat (j := 0) rfl, rfl, _, rfl, iteNY (by decide +kernel) (q H (Same.refl H))⟩
    | tool t =>
      refine ⟨_, rfl, _, 0, _, hv, rfl, atI_nat (j := 0) rfl, rfl, _, rfl, iteN (by decide +kernel) ?_⟩
      exact ⟨_, rfl, _, 0, _, hv, rfl, atI_nat (j := 0) rfl, rfl, _, rfl, iteNY (by decide +kernel) (q H (Same.refl H))⟩
end
end N4

set_option maxHeartbeats 3900000
namespace N4
open PySem PySem.Spec PyProof.Rows L2 TL RP
open C8 (pss_cut tCut pe_gc)
open CB
abbrev sChd : Stmt := top 32
abbrev sWAf : Stmt := inClass (top 23) 4
/-- a world, as it stands at o, that tells what a tells; at most n files and settings -/
structure Wd (C : Addr) (H : Hp) (o : Addr) (zs : List Str) (a : St0) (n : Nat) (fs : Fs) (ss : Ss) : Prop where
  wo : WoAt C H o fs ss a.z
  g : GoodF zs fs
  gs : GoodS zs ss
  fl : fs.length ≤ n
  sl : ss.length ≤ n
  f : ∀ p, fOf fs p = a.f p
  s : ∀ q, sOf ss q = a.s q
  srtF : sortedS (fs.map fun x => js x.1) = true
  srtS : sortedS (ss.map (·.1)) = true
theorem Wd.same {C : Addr} {H H' : Hp} {o : Addr} {zs : List Str} {a : St0} {n : Nat} {fs : Fs} {ss : Ss} (h : Wd C H o zs a n fs ss) (s : Same H H') : Wd C H' o zs a n fs ss := ⟨h.wo.same s, h.g, h.gs, h.fl, h.sl, h.f, h.s, h.srtF, h.srtS⟩
def spChd (C : Addr) : Sp := fun vs H Q _ => ∃ o v zs a n fs ss c, vs = [.ref o, v] ∧ Wd C H o zs a n fs ss ∧ RowAt H v (chV c) ∧ (∀ y ∈ zs, IsNm y) ∧ n ≤ 49 ∧ Can zs a c ∧
  ∀ (o' : Addr) (H' : Hp) (fs' : Fs) (ss' : Ss), Same H H' → Wd C H' o' zs (a.do c) (n + 1) fs' ss' → Q (.ref o') H'
theorem lk_fi (u v t : V) : List.lookup ("files" : Str) [(("contents" : Str), u), ("chosen", v), ("tool", t)] = none := by
  have h1 : (("files" : Str) == ("contents" : Str)) = false := by decide +kernel
  have h2 : (("files" : Str) == ("chosen" : Str)) = false := by decide +kernel
  have h3 : (("files" : Str) == ("tool" : Str)) = false := by decide +kernel
  simp only [List.lookup, h1, h2, h3]
theorem lk_se (u v t : V) : List.lookup ("settings" : Str) [(("contents" : Str), u), ("chosen", v), ("tool", t)] = none := by
  have h1 : (("settings" : Str) == ("contents" : Str)) = false := by decide +kernel
  have h2 : (("settings" : Str) == ("chosen" : Str)) = false := by decide +kernel
  have h3 : (("settings" : Str) == ("tool" : Str)) = false := by decide +kernel
  simp only [List.lookup, h1, h2, h3]
theorem fOf_perm2 {fs fs' : Fs} (p : List Str) (nf : ∀ e ∈ fs, Nms e.1) (pf : fs'.Perm fs) (nd : (fs.map (·.1)).Nodup) : fOf fs' p = fOf fs p := fOf_perm nf pf nd
section
variable {P : Program} {w : World} {K : PySem.W.Frag} {mg : Str → Option Value} {base : Heap} {C : Addr}
theorem scChd : FnScope ["world", "change", "files", "settings", "tool"] ["world", "change"] (defScope sChd) := ⟨rfl, rfl, rfl, by decide +kernel, rfl, by decide +kernel, by decide +kernel⟩
theorem ok_chd {f fI fFi fSe : Addr} {fd fdI fdFi fdSe : FuncData} (F : Fun K "changed" "changed" sChd f fd) (R : WCl K mg C) (mk : Mk K C fI) (bWIni : L2.Binds K fdI ["self", "files", "settings", "tool"] []) (GWIni : FnOk P w K mg base CX0 4 fI fdI ["self", "files", "settings", "tool"] (spWIni C))
    (mFi : Meth K C "files" fFi) (bWF : L2.Binds K fdFi ["self"] []) (GWF : FnOk P w K mg base CX0 1 fFi fdFi ["self"] (spWFiles C)) (mSe : Meth K C "settings" fSe) (bWS : L2.Binds K fdSe ["self"] []) (GWS : FnOk P w K mg base CX0 1 fSe fdSe ["self"] (spWSet C)) :
    FnOk P w K mg base CX0 6 f fd ["world", "change"] (spChd C) := by
  refine F.ok scChd (fun vs H Q E h => ?_) (fun cdv A outer s H vs Q E hr h => ?_)
  · obtain ⟨o, v, zs, a, n, fs, ss, c, rfl, _⟩ := h
    rfl
  · have hu := hr.units
    have hu1 := Nat.lt_of_le_of_lt (Nat.add_le_add_left (show 1 ≤ 64 by decide) _) hr.units
    obtain ⟨o, v, zs, a, n, fs, ss, c, rfl, W, hv, nm, hn, cn, k⟩ := h
    refine ⟨_, pss_cons (ps_par3 (i := 2) (j := 3) (l := 4) (by rfl) scChd.nd rfl rfl rfl (by decide) (by decide) (by decide) rfl rfl rfl (pa_cons (pe_meth0 (pv 0) R.cl mFi GWF (hr.mono (by decide)) bWF .nil pass0) (pa_cons (pe_meth0 (pv 0) R.cl mSe GWS (hr.mono (by decide)) bWS .nil pass0) (pa_cons (pe_fld (pv 0) rfl) pa_nil))) (by rfl))
            (pss_cut (ps_if (pt_cmpR op_eq (pe_ix ix_row (pv 1) pe_int (fun _ _ => rfl)) pe_str (nomark _)) (pss_one (ps_dput hu1 (pv 2) (pe_ix ix_row (pv 1) pe_int (fun _ _ => rfl)) (pe_ix ix_row (pv 1) pe_int (fun _ _ => rfl)) rfl)) (pss_one (ps_if (pt_cmpR op_eq (pe_ix ix_row (pv 1) pe_int (fun _ _ => rfl)) pe_str (nomark _)) (pss_one (ps_ddel (pv 2) (pe_ix ix_row (pv 1) pe_int (fun _ _ => rfl)))) (pss_one (ps_if (pt_cmpR op_eq (pe_ix ix_row (pv 1) pe_int (fun _ _ => rfl)) pe_str (nomark _)) (pss_one (ps_set (i := 4) scChd.nd rfl (Or.inl rfl) (pe_ix ix_row (pv 1) pe_int (fun _ _ => rfl)))) (pss_one (ps_if (pt_cmp (pc_isN (pe_ix ix_row (pv 1) pe_int (fun _ _ => rfl)))) (pss_one (ps_expr (pe_dpop2 (pv 3) (pe_ix ix_row (pv 1) pe_int (fun _ _ => rfl)) pe_non ⟨rfl, rfl, rfl, rfl⟩))) (pss_one (ps_dput hu1 (pv 3) (pe_ix ix_row (pv 1) pe_int (fun _ _ => rfl)) (pe_ix ix_row (pv 1) pe_int (fun _ _ => rfl)) rfl)))))))))
            (pss_one (ps_ret (pe_make mk GWIni (hr.mono (by decide)) rfl R.mg bWIni .nil pass0 (pa_cons (pv 2) (pa_cons (pv 3) (pa_cons (pv 4) pa_nil))))))), ?_⟩
    have W0 := W
    obtain ⟨⟨dx, d, e, h1, h2, h3⟩, g, gs, fl, sl, hf, hs⟩ := W
    have nf : ∀ e ∈ fs, Nms e.1 := fun e he y hy => nm y ((g.path e he).2.2 y hy)
    refine ⟨_, rfl, o, dx, _, rfl, h1, lk_fi _ _ _, o, fs, ss, a.z, rfl, W0.wo, fun d1 n1 => ?_⟩
    have s1 := same_mk (o := .dK (fsK fs)) n1
    have g1 := upd_same (H := H) (a := d1) (o := .dK (fsK fs))
    generalize upd H d1 (.dK (fsK fs)) = H1 at s1 g1 ⊢
    refine ⟨_, rfl, o, dx, _, rfl, s1 _ _ h1, lk_se _ _ _, o, fs, ss, a.z, rfl, W0.wo.same s1, fun d2 n2 => ?_⟩
    have d12 : d1 ≠ d2 := fun z => by rw [← z, g1] at n2; cases n2
    have s2 := same_mk (o := .dK (ssK ss)) n2
    have g2 := upd_same (H := H1) (a := d2) (o := .dK (ssK ss))
    have g1 := s2 _ _ g1
    have s12 := s1.trans s2
    have n2' := s1.free n2
    generalize upd H1 d2 (.dK (ssK ss)) = H2 at s2 g1 g2 s12 ⊢
    refine ⟨_, rfl, o, C, dx, _, _, rfl, s12 _ _ h1, R.cl, R.n3, lk_3, _, _, _, rfl, ?_⟩
    have hv2 := hv.up s12
    refine ⟨fun σ H' => ∃ fs1 ss1 z1, σ = [some (.ref o), some v, some (.ref d1), some (.ref d2), some (.str z1)] ∧ Same H H' ∧ H' d1 = some (.dK (fsK fs1)) ∧ H' d2 = some (.dK (ssK ss1)) ∧ GoodF zs fs1 ∧ GoodS zs ss1 ∧ fs1.length ≤ n + 1 ∧ ss1.length ≤ n + 1 ∧ z1 = (a.do c).z ∧ (∀ p, fOf fs1 p = (a.do c).f p) ∧ ∀ q, sOf ss1 q = (a.do c).s q, ?_, ?_⟩
    · cases c with
      | put p t =>
        obtain ⟨⟨pne, pl, pz⟩, ht, fr⟩ := cn
        have np : Nms p := fun y hy => nm y (pz y hy)
        refine ⟨_, rfl, _, 0, _, hv2, rfl, atI_nat (j := 0) rfl, rfl, _, rfl, iteY rfl ?_⟩
        refine ⟨_, rfl, _, 2, _, hv2, rfl, atI_nat (j := 2) rfl, _, rfl, _, rfl, _, 1, _, hv2, rfl, atI_nat (j := 1) rfl, d1, _, rfl, DPut.k (k := .inr (js p)) g1 (Nat.lt_of_le_of_lt (show (fsK fs).length ≤ 50 by unfold fsK; rw [List.length_map]; omega) (by decide)), ?_⟩
        rw [fsK_put nf np]
        have rm : room fs p = true := by
          unfold room
          rw [Bool.not_eq_true', List.any_eq_false]
          intro e he
          have := fr e.1 (by rw [← hf e.1]; exact fOf_mem.mpr (List.mem_map_of_mem he))
          simp [this.1, this.2]
        refine ⟨_, _, _, rfl, same_ch s12 n1, upd_same, by rw [upd_ne d12.symm]; exact g2, g.put pne pl pz ht rm, gs, Nat.le_trans (putF_len fs p t) (by omega), by omega, rfl, fun q => ?_, hs⟩
        rw [fOf_put]
        show _ = if q = p then some t else a.f q
        rw [hf]
      | drop p =>
        obtain ⟨⟨pne, pl, pz⟩, hp⟩ := cn
        have np : Nms p := fun y hy => nm y (pz y hy)
        refine ⟨_, rfl, _, 0, _, hv2, rfl, atI_nat (j := 0) rfl, rfl, _, rfl, iteN (by decide +kernel) ⟨_, rfl, _, 0, _, hv2, rfl, atI_nat (j := 0) rfl, rfl, _, rfl, iteY rfl ?_⟩⟩
        have so : (valV (fsK fs) (.inr (js p))).isSome = true := by
          rw [fs_val nf np, Option.isSome_map, hf p]
          exact Option.isSome_iff_ne_none.mpr hp
        refine ⟨_, rfl, _, rfl, _, 1, _, hv2, rfl, atI_nat (j := 1) rfl, d1, _, .inr (js p), rfl, g1, rfl, so, ?_⟩
        rw [fsK_drop nf np]
        refine ⟨_, _, _, rfl, same_ch s12 n1, upd_same, by rw [upd_ne d12.symm]; exact g2, g.sub (dropF_sub fs p), gs, Nat.le_trans (dropF_sub fs p).length_le (by omega), by omega, rfl, fun q => ?_, hs⟩
        rw [fOf_drop]
        show _ = if q = p then none else a.f q
        rw [hf]
      | tool t =>
        refine ⟨_, rfl, _, 0, _, hv2, rfl, atI_nat (j := 0) rfl, rfl, _, rfl, iteN (by decide +kernel) ⟨_, rfl, _, 0, _, hv2, rfl, atI_nat (j := 0) rfl, rfl, _, rfl, iteN (by decide +kernel) ⟨_, rfl, _, 0, _, hv2, rfl, atI_nat (j := 0) rfl, rfl, _, rfl, iteY rfl ?_⟩⟩⟩
        exact ⟨_, rfl, _, 1, _, hv2, rfl, atI_nat (j := 1) rfl, _, _, _, rfl, s12, g1, g2, g, gs, by omega, by omega, rfl, hf, hs⟩
      | set n' t =>
        refine ⟨_, rfl, _, 0, _, hv2, rfl, atI_nat (j := 0) rfl, rfl, _, rfl, iteN (by decide +kernel) ⟨_, rfl, _, 0, _, hv2, rfl, atI_nat (j := 0) rfl, rfl, _, rfl, iteN (by decide +kernel) ⟨_, rfl, _, 0, _, hv2, rfl, atI_nat (j := 0) rfl, rfl, _, rfl, iteN (by decide +kernel) ⟨_, rfl, _, 2, _, hv2, rfl, atI_nat (j := 2) rfl, _, rfl, ?_⟩⟩⟩⟩
        cases t with
        | none =>
          refine iteT ⟨_, rfl, d2, rfl, .inl ⟨_, .inl g2⟩, _, rfl, _, 1, _, hv2, rfl, atI_nat (j := 1) rfl, ssK ss, .inr n', g2, rfl, fun v0 hv0 => ?_, fun hv0 => ?_⟩
          · rw [ssK_drop]
            refine ⟨_, _, _, rfl, same_ch s12 n2', by rw [upd_ne d12]; exact g1, upd_same, g, gs.sub (dropS_sub ss n'), by omega, Nat.le_trans (dropS_sub ss n').length_le (by omega), rfl, hf, fun q => ?_⟩
            rw [sOf_drop]
            show _ = if q = n' then none else a.s q
            rw [hs]
          · refine ⟨_, _, _, rfl, s12, g1, g2, g, gs, by omega, by omega, rfl, hf, fun q => ?_⟩
            show _ = if q = n' then none else a.s q
            by_cases eq : q = n'
            · rw [if_pos eq, eq]
              rw [ss_val] at hv0
              cases ho : sOf ss n' with
              | none => rfl
              | some y => rw [ho] at hv0; cases hv0
            · rw [if_neg eq, hs]
        | some t =>
          refine iteF ⟨_, rfl, _, 2, _, hv2, rfl, atI_nat (j := 2) rfl, _, rfl, _, rfl, _, 1, _, hv2, rfl, atI_nat (j := 1) rfl, d2, _, rfl, DPut.k (k := .inr n') g2 (Nat.lt_of_le_of_lt (show (ssK ss).length ≤ 50 by unfold ssK; rw [List.length_map]; omega) (by decide)), ?_⟩
          rw [show oV (some t) = V.str t from rfl, ssK_putS]
          refine ⟨_, _, _, rfl, same_ch s12 n2', by rw [upd_ne d12]; exact g1, upd_same, g, gs.putS cn.1 (cn.2 t rfl), by omega, Nat.le_trans (putS_len ss n' t) (by omega), rfl, hf, fun q => ?_⟩
          rw [sOf_put]
          show _ = if q = n' then some t else a.s q
          rw [hs]
    · rintro _ H3 ⟨fs1, ss1, z1, rfl, s3, g1, g2, gf, gss, fl1, sl1, rfl, hf1, hs1⟩
      have sm : ∀ x dx, H3 x = none → H3 dx = none → dx ≠ x → Same H3 (upd (upd H3 dx (.own x)) x (.ins C dx [])) := fun x dx hx hdx hne b u hb => by
        have n1 : b ≠ x := fun e => by rw [e, hx] at hb; cases hb
        have n2 : b ≠ dx := fun e => by rw [e, hdx] at hb; cases hb
        rw [upd_ne n1, upd_ne n2]
        exact hb
      refine ⟨_, rfl, _, rfl, _, rfl, ?_⟩
      intro o1 dx1 hx hdx hne
      refine ⟨o1, dx1, d1, d2, fs1, ss1, zs, _, rfl, upd_same, sm _ _ hx hdx hne _ _ g1, sm _ _ hx hdx hne _ _ g2, gf, gss, nm, by omega, by omega, fun H4 fs2 ss2 kp pf ps sr1 sr2 wo => ⟨rfl, ?_⟩⟩
      have nf1 : ∀ e ∈ fs1, Nms e.1 := fun e he y hy => nm y ((gf.path e he).2.2 y hy)
      refine k o1 H4 fs2 ss2 (fun b u hb => ?_) ⟨wo, gf.perm pf, gss.perm ps, by rw [pf.length_eq]; exact fl1, by rw [ps.length_eq]; exact sl1, fun p => by rw [fOf_perm nf1 pf gf.nd]; exact hf1 p, fun q => by rw [sOf_perm ps gss.nd]; exact hs1 q, sr1, sr2⟩
      exact kp b u (sm _ _ hx hdx hne _ _ (s3 _ _ hb)) fun e => by rw [e, s3.free hx] at hb; cases hb
end
end N4

set_option maxHeartbeats 3900000
namespace N4
open PySem PySem.Spec PyProof.Rows L2 TL RP
open C8 (pss_cut tCut pe_gc)
open CB
/-- a row of changes: a list of tuples or lists -/
def RowCh (H : Hp) (v : V) (cs : List Ch) : Prop := ∃ L vs, v = .ref L ∧ H L = some (.lst vs) ∧ vs.length = cs.length ∧ ∀ (i : Nat) (x : V) (c : Ch), vs[i]? = some x → cs[i]? = some c → RowAt H x (chV c)
def spWAf (C : Addr) : Sp := fun vs H Q _ => ∃ o v zs a b n fs ss cs, vs = [.ref o, v] ∧ Wd C H o zs a n fs ss ∧ RowCh H v cs ∧ (∀ y ∈ zs, IsNm y) ∧ n + cs.length ≤ 49 ∧ a.z ∈ tools ∧ Runs zs cs a b ∧
  ∀ (o' : Addr) (H' : Hp) (fs' : Fs) (ss' : Ss), Same H H' → Wd C H' o' zs b (n + cs.length) fs' ss' → Q (.ref o') H'
def runTo (a : St0) : List Ch → St0
  | [] => a
  | c :: r => runTo (a.do c) r
theorem Runs.to {zs : List Str} : ∀ {r : List Ch} {a b : St0}, Runs zs r a b → b = runTo a r
  | [], _, _, h => (show _ = _ from h).symm
  | c :: r, a, b, h => Runs.to (zs := zs) (r := r) (a := a.do c) (b := b) h.2
theorem runTo_snoc : ∀ (r : List Ch) (a : St0) (c : Ch), runTo a (r ++ [c]) = (runTo a r).do c
  | [], a, c => rfl
  | x :: r, a, c => runTo_snoc r (a.do x) c
theorem Runs.can {zs : List Str} : ∀ {r : List Ch} {a b : St0}, Runs zs r a b → ∀ (i : Nat) (c : Ch), r[i]? = some c → Can zs (runTo a (r.take i)) c
  | [], _, _, _, i, c, h => by simp at h
  | x :: r, a, b, h, 0, c, e => by
    rw [List.getElem?_cons_zero] at e
    cases e
    exact h.1
  | x :: r, a, b, h, i + 1, c, e => by
    rw [List.getElem?_cons_succ] at e
    exact Runs.can (zs := zs) (r := r) (a := a.do x) (b := b) h.2 i c e
section
variable {P : Program} {w : World} {K : PySem.W.Frag} {mg : Str → Option Value} {base : Heap} {C : Addr}
theorem scWAf : FnScope ["self", "changes", "world", "index", "change"] ["self", "changes"] (defScope sWAf) := ⟨rfl, rfl, rfl, by decide +kernel, rfl, by decide +kernel, by decide +kernel⟩
theorem ok_waf {f fI fIc fCa fCh : Addr} {fd fdI fdIc fdCa fdCh : FuncData} (F : Fun K "after" "World.after" sWAf f fd) (T : TB mg) (R : WCl K mg C) (mk : Mk K C fI) (bWIni : L2.Binds K fdI ["self", "files", "settings", "tool"] []) (GWIni : FnOk P w K mg base CX0 4 fI fdI ["self", "files", "settings", "tool"] (spWIni C))
    (aIsCh : At K mg "is_change" fIc fdIc ["thing"]) (GIsCh : FnOk P w K mg base CX0 4 fIc fdIc ["thing"] spIsCh) (aCan : At K mg "can_be_done" fCa fdCa ["world", "change"]) (GCan : FnOk P w K mg base CX0 7 fCa fdCa ["world", "change"] (spCan C))
    (aChd : At K mg "changed" fCh fdCh ["world", "change"]) (GChd : FnOk P w K mg base CX0 6 fCh fdCh ["world", "change"] (spChd C)) : FnOk P w K mg base CX0 8 f fd ["self", "changes"] (spWAf C) := by
  refine F.ok scWAf (fun vs H Q E h => ?_) (fun cdv A outer s H vs Q E hr h => ?_)
  · obtain ⟨o, v, zs, a, b, n, fs, ss, cs, rfl, _⟩ := h
    rfl
  · obtain ⟨o, v, zs, a, b, n, fs, ss, cs, rfl, W, ⟨L, xs, rfl, hL, lx, hx⟩, nm, hn, tz, rn, k⟩ := h
    refine ⟨_, pss_cons (ps_set (i := 2) scWAf.nd rfl (Or.inl rfl) (pe_make mk GWIni (hr.mono (by decide)) rfl R.mg bWIni .nil pass0 (pa_cons (pe_fld (pv 0) rfl) (pa_cons (pe_fld (pv 0) rfl) (pa_cons (pe_fld (pv 0) rfl) pa_nil)))))
            (pss_cons (ps_for PassesOwn.never rfl (pi_enum rfl T.enumerate (pa_cons (pv 1) pa_nil)) (pg_tup rfl (pgs_cons (pg_name (i := 3) scWAf.nd rfl (Or.inl rfl)) (pgs_cons (pg_name (i := 4) scWAf.nd rfl (Or.inl rfl)) pgs_nil))) (pss_cons (ps_if (PW.pt (pw_or (pt_not (pt_val (pe_call GIsCh (hr.mono (by decide)) rfl aIsCh.m aIsCh.k aIsCh.b .nil pass0 (pa_cons (pv 4) pa_nil)))) (pw_or1 (pt_not (pt_val (pe_call GCan (hr.mono (by decide)) rfl aCan.m aCan.k aCan.b .nil pass0 (pa_cons (pv 2) (pa_cons (pv 4) pa_nil)))))))) (pss_one (ps_never)) (pss_nil))
            (pss_one (ps_set (i := 2) scWAf.nd rfl (Or.inl rfl) (pe_call GChd (hr.mono (by decide)) rfl aChd.m aChd.k aChd.b .nil pass0 (pa_cons (pv 2) (pa_cons (pv 4) pa_nil)))))))
            (pss_one (ps_ret (pv 2)))), ?_⟩
    have W0 := W
    obtain ⟨⟨dx, d, e, h1, h2, h3⟩, g, gs, fl, sl, hf, hs⟩ := W
    have nf : ∀ e ∈ fs, Nms e.1 := fun e he y hy => nm y ((g.path e he).2.2 y hy)
    have sm : ∀ x dx, H x = none → H dx = none → dx ≠ x → Same H (upd (upd H dx (.own x)) x (.ins C dx [])) := fun x dx hx hdx hne b u hb => by
      have n1 : b ≠ x := fun e => by rw [e, hx] at hb; cases hb
      have n2 : b ≠ dx := fun e => by rw [e, hdx] at hb; cases hb
      rw [upd_ne n1, upd_ne n2]
      exact hb
    refine ⟨_, rfl, o, C, dx, _, _, rfl, h1, R.cl, R.n1, lk_1, _, rfl, o, C, dx, _, _, rfl, h1, R.cl, R.n2, lk_2, _, rfl, o, C, dx, _, _, rfl, h1, R.cl, R.n3, lk_3, ?_⟩
    intro o1 dx1 hx1 hdx1 hne1
    refine ⟨o1, dx1, d, e, fs, ss, zs, _, rfl, upd_same, sm _ _ hx1 hdx1 hne1 _ _ h2, sm _ _ hx1 hdx1 hne1 _ _ h3, g, gs, nm, by omega, by omega, fun H1 fs1 ss1 kp pf ps sr1 sr2 wo => ⟨rfl, ?_⟩⟩
    have s1 : Same H H1 := fun b u hb => kp b u (sm _ _ hx1 hdx1 hne1 b u hb) fun e => by rw [e, hx1] at hb; cases hb
    have W1 : Wd C H1 o1 zs a n fs1 ss1 := ⟨wo, g.perm pf, gs.perm ps, by rw [pf.length_eq]; exact fl, by rw [ps.length_eq]; exact sl, fun p => by rw [fOf_perm nf pf g.nd]; exact hf p, fun q => by rw [sOf_perm ps gs.nd]; exact hs q, sr1, sr2⟩
    refine ⟨_, rfl, L, _, rfl, SqL.of (s1 _ _ hL), for_it (walk_enum (K := K) (a := L) (xs := xs)) (fun i σ H2 => ∃ o2 fs2 ss2 x3 x4, σ = [some (.ref o), some (.ref L), some (.ref o2), x3, x4] ∧ Same H H2 ∧ Wd C H2 o2 zs (runTo a (cs.take i)) (n + i) fs2 ss2)
      ⟨o1, fs1, ss1, none, none, rfl, s1, W1⟩ (fun i σ H2 _ q => by obtain ⟨_, _, _, _, _, _, s2, _⟩ := q; exact SqL.of (s2 _ _ hL)) ?_ ?_⟩
    · rintro i y _ H2 H3 hi ⟨o2, fs2, ss2, x3, x4, rfl, s2, W2⟩ ⟨T3, y0, y1, rfl, hT, rfl, hy0, hy1⟩
      cases hy0
      have hic : i < cs.length := by omega
      have hc : cs[i]? = some cs[i] := List.getElem?_eq_getElem hic
      have row := hx i y1 _ hy1 hc
      have cn := rn.can i _ hc
      have s3 := same_mk (o := .tup [.int (i : Nat), y1]) hT
      have s23 := s2.trans s3
      have W3 := W2.same s3
      refine ⟨T3, _, rfl, SqT.of upd_same, rfl, _, _, rfl, _, _, rfl, rfl, ?_⟩
      generalize upd H2 T3 (.tup [.int (i : Nat), y1]) = H4 at s3 s23 W3 ⊢
      refine ⟨_, rfl, y1, cs[i], rfl, row.up s23, cn.ok nm, fun H5 s5 => ⟨_, rfl, iteF ?_⟩⟩
      have W5 := W3.same s5
      have cn5 : Can zs ⟨fOf fs2, sOf ss2, (runTo a (cs.take i)).z⟩ cs[i] := by
        have e1 : (⟨fOf fs2, sOf ss2, (runTo a (cs.take i)).z⟩ : St0) = runTo a (cs.take i) := by
          have q1 : fOf fs2 = (runTo a (cs.take i)).f := funext W2.f
          have q2 : sOf ss2 = (runTo a (cs.take i)).s := funext W2.s
          rw [q1, q2]
        rw [e1]
        exact cn
      refine ⟨_, rfl, _, rfl, o2, y1, zs, fs2, ss2, _, cs[i], rfl, W5.wo, (row.up s23).up s5, W5.g, nm, by have := W5.fl; omega, cn5, fun H6 s6 => ⟨_, rfl, iteF ?_⟩⟩
      have W6 := W5.same s6
      have s56 := s23.trans (s5.trans s6)
      refine ⟨_, rfl, _, rfl, o2, y1, zs, _, n + i, fs2, ss2, cs[i], rfl, W6, row.up s56, nm, by omega, cn, fun o7 H7 fs7 ss7 s7 W7 => ?_⟩
      refine ⟨o7, fs7, ss7, _, _, rfl, s56.trans s7, ?_⟩
      have tk : cs.take (i + 1) = cs.take i ++ [cs[i]] := by
        rw [List.take_succ, hc]
        rfl
      rw [tk, runTo_snoc]
      exact W7
    · rintro _ H2 ⟨o2, fs2, ss2, x3, x4, rfl, s2, W2⟩
      refine ⟨_, rfl, k o2 H2 fs2 ss2 s2 ?_⟩
      rw [lx, List.take_length, ← rn.to] at W2
      exact W2
end
end N4

set_option maxHeartbeats 3900000
namespace N4
open PySem PySem.Spec PyProof.Rows L2 TL RP
open C8 (pss_cut tCut pe_gc)
open CB
/-! lists of tuples -/
def TupsAt (H : Hp) (ts : List Addr) (els : List (List V)) : Prop := ts.length = els.length ∧ ∀ (i : Nat) (t : Addr) (e : List V), ts[i]? = some t → els[i]? = some e → H t = some (.tup e)
theorem TupsAt.keep {H H' : Hp} {ts : List Addr} {els : List (List V)} (h : TupsAt H ts els) (k : ∀ t e, H t = some (.tup e) → H' t = some (.tup e)) : TupsAt H' ts els := ⟨h.1, fun i t e ht he => k _ _ (h.2 i t e ht he)⟩
theorem TupsAt.same {H H' : Hp} {ts : List Addr} {els : List (List V)} (h : TupsAt H ts els) (s : Same H H') : TupsAt H' ts els := h.keep fun t e q => s _ _ q
theorem TupsAt.put {H : Hp} {L : Addr} {xs : List V} {o : HO} {ts : List Addr} {els : List (List V)} (h : TupsAt H ts els) (hL : H L = some (.lst xs)) : TupsAt (upd H L o) ts els := h.keep fun t e q => by
  rw [upd_ne (ne_of q hL (by intro z; cases z))]
  exact q
theorem TupsAt.nil {H : Hp} : TupsAt H [] [] := ⟨rfl, fun i t e h => by simp at h⟩
theorem TupsAt.app {H : Hp} {ts us : List Addr} {es gs : List (List V)} (h : TupsAt H ts es) (g : TupsAt H us gs) : TupsAt H (ts ++ us) (es ++ gs) := by
  refine ⟨by rw [List.length_append, List.length_append, h.1, g.1], fun i t e ht he => ?_⟩
  by_cases hi : i < ts.length
  · rw [List.getElem?_append_left hi] at ht
    rw [List.getElem?_append_left (by rw [← h.1]; exact hi)] at he
    exact h.2 i t e ht he
  · rw [List.getElem?_append_right (by omega)] at ht
    rw [List.getElem?_append_right (by rw [← h.1]; omega), ← h.1] at he
    exact g.2 _ t e ht he
theorem TupsAt.one {H : Hp} {t : Addr} {e : List V} (h : H t = some (.tup e)) : TupsAt H [t] [e] := ⟨rfl, fun i t' e' ht he => by
  cases i with
  | zero => cases ht; cases he; exact h
  | succ i => simp at ht⟩
section
variable {α : Type} {J : It} {n : Nat} {G : Hp → Prop} {Y : Nat → Hp → V → Hp → Prop} {tt : TT} {te : TE} {σ : L2.St} {H1 : Hp} {D : Addr} {Qd : Hp → Prop} {j : Nat}
/-- [(.., z, ..) for z in zs if f z] -/
theorem lcTp (w : Walk J n G Y) (zs : List α) (u : α → V) (g : α → List V) (f : α → Bool) (hn : zs.length = n) (hs : n < 1000000) (hY : ∀ i H x H', Y i H x H' → H' = H ∧ (zs.map u)[i]? = some x) (hD : H1 D = none) (hG : ∀ H', Same H1 H' → G H')
    (test : ∀ z ∈ zs, ∀ (H2 : Hp), Same H1 H2 → ∀ Q1 : Bool → Hp → Prop, (∀ H3, Same H2 H3 → Q1 (f z) H3) → tt ((wipe σ [j]).set j (some (u z))) H2 Q1)
    (elt : ∀ z ∈ zs, f z = true → ∀ (H2 : Hp), Same H1 H2 → ∀ Q1 : VK, (∀ t H3, Same H2 H3 → H3 t = some (.tup (g z)) → Q1 (.ref t) H3) → te ((wipe σ [j]).set j (some (u z))) H2 Q1)
    (hd : ∀ H' ts, Same H1 H' → H' D = some (.lst (ts.map V.ref)) → TupsAt H' ts ((zs.filter f).map g) → Qd H') :
    ∃ W : Nat → Nat → Hp → Prop, (∃ m, W 0 m (upd H1 D (.lst []))) ∧ ∀ i m H, W i m H →
      (J.stop i H ∧ Qd H) ∨ (J.go i H ∧ ∃ Nx : Hp → Prop, (∀ H', Nx H' → ∃ m', m' < m ∧ W (i + 1) m' H') ∧ ∀ x H', J.yld i H x H' → gName j x (wipe σ [j]) H' fun σ2 H2 => wipe σ2 [j] = wipe σ [j] ∧ tt σ2 H2 fun b H3 =>
        if b = true then te σ2 H3 fun y H4 => ∃ acc, H4 D = some (.lst acc) ∧ acc.length < sizeLine ∧ Nx (upd H4 D (.lst (acc ++ [y]))) else Nx H3) := by
  subst hn
  refine lc_it w (fun i H' => Same H1 H' ∧ ∃ ts : List Addr, H' D = some (.lst (ts.map V.ref)) ∧ ts.length ≤ i ∧ TupsAt H' ts (((zs.take i).filter f).map g)) ⟨same_mk hD, [], upd_same, Nat.le_refl _, .nil⟩ (fun i H' _ q => hG H' q.1) ?_ ?_
  · rintro i x H2 H3 hi ⟨s2, ts, hd2, lt, ta⟩ y
    obtain ⟨rfl, hx⟩ := hY i H2 x H3 y
    rw [List.getElem?_map, List.getElem?_eq_getElem hi] at hx
    cases hx
    have hm : zs[i] ∈ zs := List.getElem_mem hi
    have tk : zs.take (i + 1) = zs.take i ++ [zs[i]] := by
      rw [List.take_succ, List.getElem?_eq_getElem hi]
      rfl
    refine ⟨wipe1 _, test zs[i] hm _ s2 _ fun H4 s4 => ?_⟩
    cases hf : f zs[i] with
    | true =>
      refine iteT (elt _ hm hf _ (s2.trans s4) _ fun t H5 s5 ht => ⟨_, s5 _ _ (s4 _ _ hd2), ?_, same_ch ((s2.trans s4).trans s5) hD, ts ++ [t], ?_, ?_, ?_⟩)
      · rw [List.length_map]
        exact Nat.lt_of_lt_of_le (show _ < 1000000 by omega) (by decide)
      · rw [upd_same, List.map_append]
        rfl
      · rw [List.length_append]
        show ts.length + 1 ≤ i + 1
        omega
      · rw [tk, List.filter_append, List.filter_cons_of_pos hf, List.filter_nil, List.map_append]
        exact ((ta.same (s4.trans s5)).app (.one ht)).put (s5 _ _ (s4 _ _ hd2))
    | false =>
      refine iteF ⟨s2.trans s4, ts, s4 _ _ hd2, by omega, ?_⟩
      rw [tk, List.filter_append, List.filter_cons_of_neg (by rw [hf]; decide), List.filter_nil, List.append_nil]
      exact ta.same s4
  · rintro H' ⟨s, ts, h, _, ta⟩
    rw [List.take_length] at ta
    exact hd H' ts s h ta
end
/-- the changes of settings, names ascending -/
def setChs (f g : Str → Option Str) (ys : List Str) : List Ch := (ys.filter fun n => decide (f n ≠ g n)).map fun n => .set n (g n)
/-- all names of both, ascending -/
structure NamesOf (ss1 ss2 : Ss) (ys : List Str) : Prop where
  mem : ∀ x, x ∈ ys ↔ x ∈ ss1.map (·.1) ∨ x ∈ ss2.map (·.1)
  nd : ys.Nodup
  srt : sortedS ys = true
/-- a new list of tuples, those of the changes -/
def RowT (H : Hp) (D : Addr) (cs : List Ch) : Prop := ∃ ts : List Addr, H D = some (.lst (ts.map V.ref)) ∧ TupsAt H ts (cs.map chV)
theorem RowT.same {H H' : Hp} {D : Addr} {cs : List Ch} (h : RowT H D cs) (s : Same H H') : RowT H' D cs := by
  obtain ⟨ts, h1, h2⟩ := h
  exact ⟨ts, s _ _ h1, h2.same s⟩
def spChS : Sp := fun vs H Q _ => ∃ d1 d2 ss1 ss2, vs = [.ref d1, .ref d2] ∧ H d1 = some (.dK (ssK ss1)) ∧ H d2 = some (.dK (ssK ss2)) ∧ ss1.length ≤ 20 ∧ ss2.length ≤ 20 ∧
  ∀ D ys H', H D = none → Same H H' → NamesOf ss1 ss2 ys → RowT H' D (setChs (sOf ss1) (sOf ss2) ys) → Q (.ref D) H'
section
variable {P : Program} {w : World} {K : PySem.W.Frag} {mg : Str → Option Value} {base : Heap}
theorem oV_ne (a b : Option Str) : (!decide (oV a = oV b)) = decide (a ≠ b) := by
  cases a <;> cases b <;> simp [oV]
theorem scal_oV (a b : Option Str) : scal (oV a) (oV b) = true := by
  cases a <;> cases b <;> rfl
theorem ssK_keys (ss : Ss) : (ssK ss).map (fun kv => kV kv.1) = (ss.map (·.1)).map V.str := by
  unfold ssK
  rw [List.map_map, List.map_map]
  rfl
end
end N4

set_option maxHeartbeats 3900000
namespace N4
open PySem PySem.Spec PyProof.Rows L2 TL RP
open C8 (pss_cut tCut pe_gc)
open CB
/-! what is no change -/
inductive NoRow (H : Hp) : V → Prop
  | non : NoRow H .non
  | str (z : Str) : NoRow H (.str z)
  | int (i : Int) : NoRow H (.int i)
  | dct {a : Addr} {kvs : List (L2.Key × V)} (h : H a = some (.dK kvs)) : NoRow H (.ref a)
theorem NoRow.up {H H' : Hp} {x : V} (h : NoRow H x) (s : Same H H') : NoRow H' x := by
  cases h with
  | non => exact .non
  | str z => exact .str z
  | int i => exact .int i
  | dct h => exact .dct (s _ _ h)
def rLT2 : List V → Hp → VK → Prop := fun vs H Q => ∃ v tp, vs = [v, .ref tp] ∧ H tp = some (.tup [.ty "list", .ty "tuple"]) ∧ NoRow H v ∧ Q (.bl false) H
theorem isi_LT2 {X : Cx} : CallR X (.builtin "isinstance") rLT2 := by
  intro pins s σ H xs us Q I r h
  obtain ⟨v, tp, rfl, ht, hl, q⟩ := h
  have go : ∀ (n : String), TyX X.K H v (.type n) → PySem.W.kitAny X.K (.type n) [.type "list", .type "tuple"] = some false → wpAny (model X.prog X.w) X.A (call (.builtin "isinstance") us) (EP X pins σ Q) X.xe s := fun n t k =>
    call_isiT (X := X) pins s σ H _ us Q I r ⟨v, tp, _, .type n, [.type "list", .type "tuple"], false, rfl, ht, .cons (.ty "list") (.cons (.ty "tuple") .nil), t, k, q⟩
  cases hl with
  | non => exact go "NoneType" (.base .non) (kitLT (b := false) (c := false) (by decide +kernel) (by decide +kernel))
  | str z => exact go "str" (.base (.str z)) (kitLT (b := false) (c := false) (by decide +kernel) (by decide +kernel))
  | int i => exact go "int" (.base (.int i)) (kitLT (b := false) (c := false) (by decide +kernel) (by decide +kernel))
  | dct h => exact go "dict" (.base (.dK h)) (kitLT (b := false) (c := false) (by decide +kernel) (by decide +kernel))
/-- a text that is no path -/
def PathNo (z : Str) : Prop := ∃ ys, Txt.split z "/" = ys ∧ Sh z ∧ (∀ y ∈ ys, Sh y) ∧ ys.length < 1000000 ∧ (ys.all fun y => decide (IsNm y)) = false
/-- the words that stand first -/
def heads : List Str := ["put", "drop", "set", "tool", "move"]
/-- two things that are no change -/
inductive BadS : Str → V → Prop
  | drop (i : Int) : BadS "drop" (.int i)
  | tool : BadS "tool" .non
  | oth {a : Str} {b : V} (h0 : a ∈ heads) (h1 : a ≠ "drop") (h2 : a ≠ "tool") : BadS a b
/-- three things that are no change -/
inductive BadLg : Str → Str → V → Prop
  | put0 : BadLg "put" "" (.str "x")
  | putA : BadLg "put" "a/" (.str "x")
  | putN {z : Str} (h : IsNm z) : BadLg "put" z .non
  | putI {z : Str} (h : IsNm z) (i : Int) : BadLg "put" z (.int i)
  | setB : BadLg "set" "a/b" (.str "x")
  | setI {z : Str} (h : IsNm z) (i : Int) : BadLg "set" z (.int i)
  | oth {a b : Str} {c : V} (h0 : a ∈ heads) (h1 : a ≠ "put") (h2 : a ≠ "set") : BadLg a b c
inductive OddR : List V → Prop
  | zero : OddR []
  | one (z : Str) (h0 : z ∈ heads) : OddR [.str z]
  | two {a : Str} {b : V} (h : BadS a b) : OddR [.str a, b]
  | three {a b : Str} {c : V} (h : BadLg a b c) : OddR [.str a, .str b, c]
inductive OddL (H : Hp) : V → Prop
  | no {x : V} (h : NoRow H x) : OddL H x
  | row {x : V} {xs : List V} (h : RowAt H x xs) (o : OddR xs) : OddL H x
theorem OddL.up {H H' : Hp} {x : V} (h : OddL H x) (s : Same H H') : OddL H' x := by
  cases h with
  | no h => exact .no (h.up s)
  | row h o => exact .row (h.up s) o
def spRowO : Sp := fun vs H Q _ => ∃ v n, vs = [v, .int n] ∧ NoRow H v ∧ ∀ H', Same H H' → Q (.bl false) H'
def spIsPathO : Sp := fun vs H Q _ => ∃ x, vs = [x] ∧ ((∃ i, x = .int i) ∨ ∃ z, x = .str z ∧ PathNo z) ∧ ∀ H', Same H H' → Q (.bl false) H'
def spShortO : Sp := fun vs H Q _ => ∃ a b, vs = [.str a, b] ∧ BadS a b ∧ ∀ H', Same H H' → Q (.bl false) H'
def spLongO : Sp := fun vs H Q _ => ∃ a b c, vs = [.str a, .str b, c] ∧ BadLg a b c ∧ ∀ H', Same H H' → Q (.bl false) H'
def spIsChO : Sp := fun vs H Q _ => ∃ x, vs = [x] ∧ OddL H x ∧ ∀ H', Same H H' → Q (.bl false) H'
theorem pathNo_nil : PathNo "" := ⟨[""], by decide +kernel, by unfold Sh; decide, fun y hy => by rw [List.mem_singleton.mp hy]; unfold Sh; decide, by decide, by decide +kernel⟩
theorem pathNo_a : PathNo "a/" := ⟨["a", ""], by decide +kernel, by unfold Sh; decide +kernel, fun y hy => by rcases List.mem_cons.mp hy with rfl | hy; (unfold Sh; decide +kernel); (rw [List.mem_singleton.mp hy]; unfold Sh; decide), by decide, by decide +kernel⟩
theorem iteT' {c : Bool} {A B : Prop} (h : c = true) (a : A) : if c = true then A else B := by rw [if_pos h]; exact a
theorem iteF' {c : Bool} {A B : Prop} (h : c = false) (b : B) : if c = true then A else B := by rw [if_neg (by rw [h]; decide)]; exact b
section
variable {P : Program} {w : World} {K : PySem.W.Frag} {mg : Str → Option Value} {base : Heap}
theorem ok_rowO {f : Addr} {fd : FuncData} (F : Fun K "is_row" "is_row" sRow f fd) (T : TB mg) : FnOk P w K mg base CX0 1 f fd ["thing", "size"] spRowO := by
  refine F.ok scRow (fun vs H Q E h => ?_) (fun cdv A outer s H vs Q E hr h => ?_)
  · obtain ⟨v, n, rfl, _⟩ := h
    rfl
  · obtain ⟨v, n, rfl, hv, k⟩ := h
    refine ⟨_, pss_one (ps_ret (pe_and (pe_callB isi_LT2 (by rfl) T.isinstance (by decide +kernel) (pa_cons (pv 0) (pa_cons (pe_tup (pa_cons (pe_bltn (v := .ty "list") (by rfl) T.list (by decide +kernel) rfl) (pa_cons (pe_bltn (v := .ty "tuple") (by rfl) T.tuple (by decide +kernel) rfl) pa_nil))) pa_nil))) (pe_one (pe_cmpR op_eq (pe_callB call_len_row (by rfl) T.len PySem.boot_len (pa_cons (pv 0) pa_nil)) (pv 1) (nomark _))))), ?_⟩
    exact ⟨_, rfl, by show 2 ≤ sizeLine; decide, fun tp ht => ⟨v, tp, rfl, upd_same, hv.up (same_mk ht), _, rfl, iteF (k _ (same_mk ht))⟩⟩
theorem ok_isPathO {f fN : Addr} {fd fdN : FuncData} (F : Fun K "is_path" "is_path" sIsPath f fd) (T0 : TPk mg) (aIsName : At K mg "is_name" fN fdN ["thing"]) (GIsName : FnOk P w K mg base CX0 1 fN fdN ["thing"] spIsName) : FnOk P w K mg base CX0 2 f fd ["thing"] spIsPathO := by
  have T := T0.b
  obtain ⟨t1, mSTROKE⟩ := T0.STROKE
  refine F.ok scIsPath (fun vs H Q E h => ?_) (fun cdv A outer s H vs Q E hr h => ?_)
  · obtain ⟨z, rfl, _⟩ := h
    rfl
  · obtain ⟨x, rfl, hx, k⟩ := h
    refine ⟨_, pss_one (ps_ret (pe_and (pe_callB call_isi (by rfl) T.isinstance (by decide +kernel) (pa_cons (pv 0) (pa_cons (pe_bltn (v := .ty "str") (by rfl) T.str (by decide +kernel) rfl) pa_nil))) (pe_one (pe_callB (cr_all rfl) (by rfl) T.all boot_all (pa_cons (pe_lc (own := [("part", 1)]) (g := gName 1) (tt := tYes) rfl scIsPath.nd (pi_list (pe_bm PySem.F.plainAttrs_str PySem.F.slot_str_split PySem.F.type_str_split mt_split (pv 0) (pa_cons (pe_glob (v := .str "/") rfl mSTROKE ⟨_, rfl⟩) pa_nil))) (blkOk_by (own := [("part", 1)]) (N := ["thing", "part"]) (sc := defScope sIsPath) (by decide +kernel)) (fun _ _ _ _ _ => (pg_name (i := 1) scIsPath.nd rfl (Or.inl rfl))) (fun _ _ _ _ _ => pts_nil) (fun _ _ _ _ _ => (pe_call GIsName (hr.mono (by decide)) rfl aIsName.m aIsName.k aIsName.b .nil pass0 (pa_cons (pv 1) pa_nil)))) pa_nil))))), ?_⟩
    rcases hx with ⟨i, rfl⟩ | ⟨z, rfl, ys, e1, hs, e2, e3, e4⟩
    · exact ⟨_, rfl, _, _, .type "int", .type "str", false, rfl, .ty "str", .base (.int i), kit_ty (by decide +kernel), _, rfl, iteF (k H (Same.refl H))⟩
    refine ⟨_, rfl, _, _, .type "str", .type "str", true, rfl, .ty "str", .base (.str _), kit_ty (by decide +kernel), true, rfl, iteT ⟨_, rfl, rfl, z, "/", rfl, rfl, rfl, ?_, fun l hl' => ⟨l, rfl, ⟨_, SqL.of upd_same⟩, fun D hD => ?_⟩⟩⟩
    · have := hs
      unfold Sh at this
      exact Nat.le_trans (show z.length + 2 ≤ 1002 by omega) (by decide)
    · rw [e1] at hD ⊢
      have s1 : Same H (upd H l (.lst (ys.map V.str))) := same_mk hl'
      refine lc_mapL ys V.str (fun y => .bl (decide (IsNm y))) e3 hD (SqL.of upd_same) ?_ ?_
      · intro y hy H2 s2 Q1 k1
        exact ⟨_, rfl, y, rfl, e2 y hy, k1⟩
      · intro H' s' hD'
        refine all_of _ _ hD' ?_
        rw [e4]
        exact k H' (s1.trans s')
theorem ok_shortO {f fPh : Addr} {fd fdPh : FuncData} (F : Fun K "is_short_change" "is_short_change" sShort f fd) (T : TB mg) (aIsPath : At K mg "is_path" fPh fdPh ["thing"]) (GIsPath : FnOk P w K mg base CX0 2 fPh fdPh ["thing"] spIsPathO) : FnOk P w K mg base CX0 3 f fd ["word", "thing"] spShortO := by
  refine F.ok scShort (fun vs H Q E h => ?_) (fun cdv A outer s H vs Q E hr h => ?_)
  · obtain ⟨a, b, rfl, _⟩ := h
    rfl
  · obtain ⟨a, b, rfl, hk, q⟩ := h
    have e1 : ∀ a b : Str, decide (V.str a = V.str b) = decide (a = b) := fun a b => decide_eq_decide.mpr ⟨V.str.inj, fun q => by rw [q]⟩
    refine ⟨_, pss_cons (ps_if (pt_cmpR op_eq (pv 0) pe_str (nomark _)) (pss_one (ps_ret (pe_call GIsPath (hr.mono (by decide)) rfl aIsPath.m aIsPath.k aIsPath.b .nil pass0 (pa_cons (pv 1) pa_nil)))) (pss_nil))
            (pss_one (ps_ret (pe_and (pe_cmpR op_eq (pv 0) pe_str (nomark _)) (pe_one (pe_callB call_isi (by rfl) T.isinstance (by decide +kernel) (pa_cons (pv 1) (pa_cons (pe_bltn (v := .ty "str") (by rfl) T.str (by decide +kernel) rfl) pa_nil))))))), ?_⟩
    cases hk with
    | drop i => exact ⟨_, rfl, rfl, _, rfl, iteY rfl ⟨_, rfl, _, rfl, .inl ⟨i, rfl⟩, q⟩⟩
    | tool => exact ⟨_, rfl, rfl, _, rfl, iteN (by decide +kernel) ⟨_, rfl, rfl, _, rfl, iteY rfl ⟨_, rfl, _, _, .type "NoneType", .type "str", false, rfl, .ty "str", .base .non, kit_ty (by decide +kernel), q H (Same.refl H)⟩⟩⟩
    | oth h0 h1 h2 =>
      refine ⟨_, rfl, rfl, _, rfl, iteN (fun z => h1 (V.str.inj z)) ⟨_, rfl, rfl, _, rfl, iteN (fun z => h2 (V.str.inj z)) ?_⟩⟩
      exact q H (Same.refl H)
theorem ok_longO {f fPh fN : Addr} {fd fdPh fdN : FuncData} (F : Fun K "is_long_change" "is_long_change" sLong f fd) (T : TB mg) (aIsPath : At K mg "is_path" fPh fdPh ["thing"]) (GIsPath : FnOk P w K mg base CX0 2 fPh fdPh ["thing"] spIsPath) (GIsPathO : FnOk P w K mg base CX0 2 fPh fdPh ["thing"] spIsPathO)
    (aIsName : At K mg "is_name" fN fdN ["thing"]) (GIsName : FnOk P w K mg base CX0 1 fN fdN ["thing"] spIsName) : FnOk P w K mg base CX0 3 f fd ["word", "where", "text"] spLongO := by
  refine F.ok scLong (fun vs H Q E h => ?_) (fun cdv A outer s H vs Q E hr h => ?_)
  · obtain ⟨a, b, c, rfl, _⟩ := h
    rfl
  · obtain ⟨a, b, c, rfl, hk, q⟩ := h
    have nj : ∀ {z : Str}, IsNm z → js [z] = z := fun _ => js_one _
    by_cases pn : PathNo b
    · have k0 := True
      refine ⟨_, pss_cons (ps_if (pt_cmpR op_eq (pv 0) pe_str (nomark _)) (pss_one (ps_ret (pe_and (pe_call GIsPathO (hr.mono (by decide)) rfl aIsPath.m aIsPath.k aIsPath.b .nil pass0 (pa_cons (pv 1) pa_nil)) (pe_one (pe_callB call_isi (by rfl) T.isinstance (by decide +kernel) (pa_cons (pv 2) (pa_cons (pe_bltn (v := .ty "str") (by rfl) T.str (by decide +kernel) rfl) pa_nil))))))) (pss_nil))
              (pss_one (ps_ret (pe_and (pe_cmpR op_eq (pv 0) pe_str (nomark _)) (pe_and (pe_call GIsName (hr.mono (by decide)) rfl aIsName.m aIsName.k aIsName.b .nil pass0 (pa_cons (pv 1) pa_nil)) (pe_one (pe_or (pe_cmp (pc_isN (pv 2)) rfl) (pe_one (pe_callB call_isi (by rfl) T.isinstance (by decide +kernel) (pa_cons (pv 2) (pa_cons (pe_bltn (v := .ty "str") (by rfl) T.str (by decide +kernel) rfl) pa_nil)))))))))), ?_⟩
      cases hk with
      | put0 => exact ⟨_, rfl, rfl, _, rfl, iteY rfl ⟨_, rfl, _, rfl, .inr ⟨_, rfl, pn⟩, fun H1 s1 => ⟨_, rfl, iteF (q H1 s1)⟩⟩⟩
      | putA => exact ⟨_, rfl, rfl, _, rfl, iteY rfl ⟨_, rfl, _, rfl, .inr ⟨_, rfl, pn⟩, fun H1 s1 => ⟨_, rfl, iteF (q H1 s1)⟩⟩⟩
      | putN h => exact ⟨_, rfl, rfl, _, rfl, iteY rfl ⟨_, rfl, _, rfl, .inr ⟨_, rfl, pn⟩, fun H1 s1 => ⟨_, rfl, iteF (q H1 s1)⟩⟩⟩
      | putI h i => exact ⟨_, rfl, rfl, _, rfl, iteY rfl ⟨_, rfl, _, rfl, .inr ⟨_, rfl, pn⟩, fun H1 s1 => ⟨_, rfl, iteF (q H1 s1)⟩⟩⟩
      | setB => exact ⟨_, rfl, rfl, _, rfl, iteN (by decide +kernel) ⟨_, rfl, rfl, _, rfl, iteY rfl ⟨_, rfl, "a/b", rfl, by unfold Sh; decide +kernel, fun H1 s1 => ⟨_, rfl, iteF' (by decide +kernel) (q H1 s1)⟩⟩⟩⟩
      | setI h i => exact ⟨_, rfl, rfl, _, rfl, iteN (by decide +kernel) ⟨_, rfl, rfl, _, rfl, iteY rfl ⟨_, rfl, _, rfl, nm_sh h, fun H1 s1 => ⟨_, rfl, iteT' (decide_eq_true h) ⟨_, rfl, _, rfl, iteF ⟨_, rfl, _, _, .type "int", .type "str", false, rfl, .ty "str", .base (.int i), kit_ty (by decide +kernel), q H1 s1⟩⟩⟩⟩⟩⟩
      | oth h0 h1 h2 =>
        refine ⟨_, rfl, rfl, _, rfl, iteN (fun z => h1 (V.str.inj z)) ⟨_, rfl, rfl, _, rfl, iteN (fun z => h2 (V.str.inj z)) ?_⟩⟩
        exact q H (Same.refl H)
    · have k0 := True
      refine ⟨_, pss_cons (ps_if (pt_cmpR op_eq (pv 0) pe_str (nomark _)) (pss_one (ps_ret (pe_and (pe_call GIsPath (hr.mono (by decide)) rfl aIsPath.m aIsPath.k aIsPath.b .nil pass0 (pa_cons (pv 1) pa_nil)) (pe_one (pe_callB call_isi (by rfl) T.isinstance (by decide +kernel) (pa_cons (pv 2) (pa_cons (pe_bltn (v := .ty "str") (by rfl) T.str (by decide +kernel) rfl) pa_nil))))))) (pss_nil))
              (pss_one (ps_ret (pe_and (pe_cmpR op_eq (pv 0) pe_str (nomark _)) (pe_and (pe_call GIsName (hr.mono (by decide)) rfl aIsName.m aIsName.k aIsName.b .nil pass0 (pa_cons (pv 1) pa_nil)) (pe_one (pe_or (pe_cmp (pc_isN (pv 2)) rfl) (pe_one (pe_callB call_isi (by rfl) T.isinstance (by decide +kernel) (pa_cons (pv 2) (pa_cons (pe_bltn (v := .ty "str") (by rfl) T.str (by decide +kernel) rfl) pa_nil)))))))))), ?_⟩
      cases hk with
      | put0 => exact absurd pathNo_nil pn
      | putA => exact absurd pathNo_a pn
      | @putN z h => exact ⟨_, rfl, rfl, _, rfl, iteY rfl ⟨_, rfl, [b], by rw [js_one]; rfl, fun y hy => by rw [List.mem_singleton.mp hy]; exact h, by show 1 ≤ _; decide, fun H1 s1 => ⟨_, rfl, iteT' (by simp) ⟨_, rfl, _, _, .type "NoneType", .type "str", false, rfl, .ty "str", .base .non, kit_ty (by decide +kernel), q H1 s1⟩⟩⟩⟩
      | @putI z h i => exact ⟨_, rfl, rfl, _, rfl, iteY rfl ⟨_, rfl, [b], by rw [js_one]; rfl, fun y hy => by rw [List.mem_singleton.mp hy]; exact h, by show 1 ≤ _; decide, fun H1 s1 => ⟨_, rfl, iteT' (by simp) ⟨_, rfl, _, _, .type "int", .type "str", false, rfl, .ty "str", .base (.int i), kit_ty (by decide +kernel), q H1 s1⟩⟩⟩⟩
      | setB => exact ⟨_, rfl, rfl, _, rfl, iteN (by decide +kernel) ⟨_, rfl, rfl, _, rfl, iteY rfl ⟨_, rfl, "a/b", rfl, by unfold Sh; decide +kernel, fun H1 s1 => ⟨_, rfl, iteF' (by decide +kernel) (q H1 s1)⟩⟩⟩⟩
      | setI h i => exact ⟨_, rfl, rfl, _, rfl, iteN (by decide +kernel) ⟨_, rfl, rfl, _, rfl, iteY rfl ⟨_, rfl, _, rfl, nm_sh h, fun H1 s1 => ⟨_, rfl, iteT' (decide_eq_true h) ⟨_, rfl, _, rfl, iteF ⟨_, rfl, _, _, .type "int", .type "str", false, rfl, .ty "str", .base (.int i), kit_ty (by decide +kernel), q H1 s1⟩⟩⟩⟩⟩⟩
      | oth h0 h1 h2 =>
        refine ⟨_, rfl, rfl, _, rfl, iteN (fun z => h1 (V.str.inj z)) ⟨_, rfl, rfl, _, rfl, iteN (fun z => h2 (V.str.inj z)) ?_⟩⟩
        exact q H (Same.refl H)
theorem ok_isChO {f fR fS fL : Addr} {fd fdR fdS fdL : FuncData} (F : Fun K "is_change" "is_change" sIsCh f fd) (T : TB mg) (aRow : At K mg "is_row" fR fdR ["thing", "size"]) (GRow : FnOk P w K mg base CX0 1 fR fdR ["thing", "size"] spRow) (GRowO : FnOk P w K mg base CX0 1 fR fdR ["thing", "size"] spRowO)
    (aShort : At K mg "is_short_change" fS fdS ["word", "thing"]) (GShort : FnOk P w K mg base CX0 3 fS fdS ["word", "thing"] spShortO) (aLong : At K mg "is_long_change" fL fdL ["word", "where", "text"]) (GLong : FnOk P w K mg base CX0 3 fL fdL ["word", "where", "text"] spLongO) : FnOk P w K mg base CX0 4 f fd ["thing"] spIsChO := by
  refine F.ok scIsCh (fun vs H Q E h => ?_) (fun cdv A outer s H vs Q E hr h => ?_)
  · obtain ⟨v, rfl, _⟩ := h
    rfl
  · obtain ⟨v, rfl, hv, q⟩ := h
    cases hv with
    | no hn =>
      refine ⟨_, pss_cons (ps_if (PW.pt (pw_and (pt_not (pt_val (pe_call GRowO (hr.mono (by decide)) rfl aRow.m aRow.k aRow.b .nil pass0 (pa_cons (pv 0) (pa_cons pe_int pa_nil))))) (pw_and1 (pt_not (pt_val (pe_call GRowO (hr.mono (by decide)) rfl aRow.m aRow.k aRow.b .nil pass0 (pa_cons (pv 0) (pa_cons pe_int pa_nil)))))))) (pss_one (ps_ret pe_bl)) (pss_nil))
              (pss_cons (ps_if (pt_not (pt_val (pe_callB call_isi (by rfl) T.isinstance (by decide +kernel) (pa_cons (pe_ix ix_row (pv 0) pe_int (fun _ _ => rfl)) (pa_cons (pe_bltn (v := .ty "str") (by rfl) T.str (by decide +kernel) rfl) pa_nil))))) (pss_one (ps_ret pe_bl)) (pss_nil))
              (pss_cons (ps_if (pt_cmpR op_eq (pe_callB call_len_row (by rfl) T.len PySem.boot_len (pa_cons (pv 0) pa_nil)) pe_int (nomark _)) (pss_one (ps_ret (pe_call GShort (hr.mono (by decide)) rfl aShort.m aShort.k aShort.b .nil pass0 (pa_cons (pe_ix ix_row (pv 0) pe_int (fun _ _ => rfl)) (pa_cons (pe_ix ix_row (pv 0) pe_int (fun _ _ => rfl)) pa_nil))))) (pss_nil))
              (pss_one (ps_ret (pe_call GLong (hr.mono (by decide)) rfl aLong.m aLong.k aLong.b .nil pass0 (pa_cons (pe_ix ix_row (pv 0) pe_int (fun _ _ => rfl)) (pa_cons (pe_ix ix_row (pv 0) pe_int (fun _ _ => rfl)) (pa_cons (pe_ix ix_row (pv 0) pe_int (fun _ _ => rfl)) pa_nil)))))))), ?_⟩
      exact ⟨_, rfl, v, 2, rfl, hn, fun H1 s1 => ⟨_, rfl, iteT ⟨_, rfl, v, 3, rfl, hn.up s1, fun H2 s2 => ⟨_, rfl, iteT (q H2 (s1.trans s2))⟩⟩⟩⟩
    | @row xs hv o =>
      refine ⟨_, pss_cons (ps_if (PW.pt (pw_and (pt_not (pt_val (pe_call GRow (hr.mono (by decide)) rfl aRow.m aRow.k aRow.b .nil pass0 (pa_cons (pv 0) (pa_cons pe_int pa_nil))))) (pw_and1 (pt_not (pt_val (pe_call GRow (hr.mono (by decide)) rfl aRow.m aRow.k aRow.b .nil pass0 (pa_cons (pv 0) (pa_cons pe_int pa_nil)))))))) (pss_one (ps_ret pe_bl)) (pss_nil))
              (pss_cons (ps_if (pt_not (pt_val (pe_callB call_isi (by rfl) T.isinstance (by decide +kernel) (pa_cons (pe_ix ix_row (pv 0) pe_int (fun _ _ => rfl)) (pa_cons (pe_bltn (v := .ty "str") (by rfl) T.str (by decide +kernel) rfl) pa_nil))))) (pss_one (ps_ret pe_bl)) (pss_nil))
              (pss_cons (ps_if (pt_cmpR op_eq (pe_callB call_len_row (by rfl) T.len PySem.boot_len (pa_cons (pv 0) pa_nil)) pe_int (nomark _)) (pss_one (ps_ret (pe_call GShort (hr.mono (by decide)) rfl aShort.m aShort.k aShort.b .nil pass0 (pa_cons (pe_ix ix_row (pv 0) pe_int (fun _ _ => rfl)) (pa_cons (pe_ix ix_row (pv 0) pe_int (fun _ _ => rfl)) pa_nil))))) (pss_nil))
              (pss_one (ps_ret (pe_call GLong (hr.mono (by decide)) rfl aLong.m aLong.k aLong.b .nil pass0 (pa_cons (pe_ix ix_row (pv 0) pe_int (fun _ _ => rfl)) (pa_cons (pe_ix ix_row (pv 0) pe_int (fun _ _ => rfl)) (pa_cons (pe_ix ix_row (pv 0) pe_int (fun _ _ => rfl)) pa_nil)))))))), ?_⟩
      refine ⟨_, rfl, v, _, 2, rfl, hv, fun H1 s1 => ⟨_, rfl, ?_⟩⟩
      have v1 := hv.up s1
      cases o with
      | zero => exact iteT' (by decide +kernel) ⟨_, rfl, v, _, 3, rfl, v1, fun H2 s2 => ⟨_, rfl, iteT' (by decide +kernel) (q H2 (s1.trans s2))⟩⟩
      | one z h0 => exact iteT' (by show (!decide (((1 : Nat) : Int) = 2)) = true; decide) ⟨_, rfl, v, _, 3, rfl, v1, fun H2 s2 => ⟨_, rfl, iteT' (by show (!decide (((1 : Nat) : Int) = 3)) = true; decide) (q H2 (s1.trans s2))⟩⟩
      | @two a b h =>
        refine iteF' (by show (!decide (((2 : Nat) : Int) = 2)) = false; decide) ?_
        refine ⟨_, rfl, _, 0, _, v1, rfl, atI_nat (j := 0) rfl, _, _, .type "str", .type "str", true, rfl, .ty "str", .base (.str _), kit_ty (by decide +kernel), _, rfl, iteF ⟨_, rfl, _, _, rfl, v1, rfl, _, rfl, iteY rfl ?_⟩⟩
        exact ⟨_, rfl, _, 0, _, v1, rfl, atI_nat (j := 0) rfl, _, rfl, _, 1, _, v1, rfl, atI_nat (j := 1) rfl, a, b, rfl, h, fun H2 s2 => q H2 (s1.trans s2)⟩
      | @three a b c h =>
        refine iteT' (by show (!decide (((3 : Nat) : Int) = 2)) = true; decide) ⟨_, rfl, v, _, 3, rfl, v1, fun H2 s2 => ⟨_, rfl, iteF' (by show (!decide (((3 : Nat) : Int) = 3)) = false; decide) ?_⟩⟩
        have v2 := v1.up s2
        refine ⟨_, rfl, _, 0, _, v2, rfl, atI_nat (j := 0) rfl, _, _, .type "str", .type "str", true, rfl, .ty "str", .base (.str _), kit_ty (by decide +kernel), _, rfl, iteF ⟨_, rfl, _, _, rfl, v2, rfl, _, rfl, iteN (by intro q; have q2 : (((3 : Nat) : Int)) = 2 := V.int.inj q; exact absurd q2 (by decide)) ?_⟩⟩
        exact ⟨_, rfl, _, 0, _, v2, rfl, atI_nat (j := 0) rfl, _, rfl, _, 1, _, v2, rfl, atI_nat (j := 1) rfl, _, rfl, _, 2, _, v2, rfl, atI_nat (j := 2) rfl, a, b, c, rfl, h, fun H3 s3 => q H3 ((s1.trans s2).trans s3)⟩
end
end N4

set_option maxHeartbeats 3900000
namespace N4
open PySem PySem.Spec PyProof.Rows L2 TL RP
open C8 (pss_cut tCut pe_gc)
open CB
/-- a change over the names: what it may be in itself -/
def ChIn (zs : List Str) : Ch → Prop
  | .put p t => PathOn zs p ∧ t ∈ texts
  | .drop p => PathOn zs p
  | .set n t => n ∈ zs ∧ ∀ x, t = some x → x ∈ texts
  | .tool t => t ∈ tools
theorem ChIn.ok {zs : List Str} {c : Ch} (h : ChIn zs c) (nm : ∀ y ∈ zs, IsNm y) : ChOk c := by
  cases c with
  | put p t => exact ⟨h.1.1, fun y hy => nm y (h.1.2.2 y hy), by have := h.1.2.1; omega⟩
  | drop p => exact ⟨h.1, fun y hy => nm y (h.2.2 y hy), by have := h.2.1; omega⟩
  | set n t => exact nm n h.1
  | tool t => trivial
theorem aboves_mem : ∀ {p q : List Str}, q ≠ [] → ben p q = true → q ∈ aboves p
  | p, [], h, _ => absurd rfl h
  | p, [x], _, hb => by
    obtain ⟨r, hr, rfl⟩ := ben_iff.mp hb
    match r, hr with
    | z :: r, _ => exact List.mem_cons_self
  | p, x :: y :: s, _, hb => by
    obtain ⟨r, hr, rfl⟩ := ben_iff.mp hb
    show _ ∈ [x] :: (aboves (y :: (s ++ r))).map (x :: ·)
    refine List.mem_cons_of_mem _ (List.mem_map.mpr ⟨y :: s, aboves_mem (by simp) (ben_iff.mpr ⟨r, hr, rfl⟩), rfl⟩)
def spCanB (C : Addr) : Sp := fun vs H Q _ => ∃ o v zs fs ss z c, vs = [.ref o, v] ∧ WoAt C H o fs ss z ∧ RowAt H v (chV c) ∧ GoodF zs fs ∧ (∀ y ∈ zs, IsNm y) ∧ fs.length ≤ 50 ∧ ChIn zs c ∧ ∀ H' b, Same H H' → (b = true ↔ Can zs ⟨fOf fs, sOf ss, z⟩ c) → Q (.bl b) H'
section
variable {P : Program} {w : World} {K : PySem.W.Frag} {mg : Str → Option Value} {base : Heap} {C : Addr}
theorem ok_canB {f fAb fAn fCo : Addr} {fd fdAb fdAn fdCo : FuncData} (F : Fun K "can_be_done" "can_be_done" sCan f fd) (T : TB mg) (R : WCl K mg C) (aAbove : At K mg "paths_above" fAb fdAb ["path"]) (GAbove : FnOk P w K mg base CX0 1 fAb fdAb ["path"] spAbove)
    (mAn : Meth K C "answer" fAn) (bAn : L2.Binds K fdAn ["self", "look"] []) (GAn : FnOk P w K mg base CX0 6 fAn fdAn ["self", "look"] (spWAns C)) (mCon : Meth K C "__contains__" fCo) (bCon : L2.Binds K fdCo ["self", "x"] []) (GCon : FnOk P w K mg base CX0 1 fCo fdCo ["self", "x"] (spWCon C)) :
    FnOk P w K mg base CX0 7 f fd ["world", "change"] (spCanB C) := by
  refine F.ok scCan (fun vs H Q E h => ?_) (fun cdv A outer s H vs Q E hr h => ?_)
  · obtain ⟨o, v, zs, fs, ss, z, c, rfl, _⟩ := h
    rfl
  · have hu := hr.units
    obtain ⟨o, v, zs, fs, ss, z, c, rfl, wo, hv, g, nm, fl, cn, q⟩ := h
    refine ⟨_, pss_cons (ps_if (pt_cmpR op_eq (pe_ix ix_row (pv 1) pe_int (fun _ _ => rfl)) pe_str (nomark _)) (pss_cons (ps_set (i := 2) scCan.nd rfl (Or.inl rfl) (pe_callB (cr_any rfl) (by rfl) T.any boot_any (pa_cons (pe_lc (own := [("top", 3)]) (g := gName 3) (tt := tYes) rfl scCan.nd (pi_list (pe_call GAbove (hr.mono (by decide)) rfl aAbove.m aAbove.k aAbove.b .nil pass0 (pa_cons (pe_ix ix_row (pv 1) pe_int (fun _ _ => rfl)) pa_nil))) (blkOk_by (own := [("top", 3)]) (N := ["world", "change", "blocked", "top"]) (sc := defScope sCan) (by decide +kernel)) (fun _ _ _ _ _ => (pg_name (i := 3) scCan.nd rfl (Or.inl rfl))) (fun _ _ _ _ _ => pts_nil) (fun _ _ _ _ _ => (by exact (pe_cmpR (OW.op_inO GCon (hr.mono (by decide)) bCon pass0 mCon) (pv 3) (pv 0) (by rfl))))) pa_nil)))
            (pss_one (ps_ret (pe_and (pe_not (pv 2)) (pe_one (pe_cmp (pc_isN (pe_meth (pv 0) R.cl mAn GAn (hr.mono (by decide)) bAn .nil pass0 (pa_cons (pe_tup (pa_cons pe_str (pa_cons (pe_ix ix_row (pv 1) pe_int (fun _ _ => rfl)) pa_nil))) pa_nil))) rfl)))))) (pss_nil))
            (pss_one (ps_ret (pe_or (pe_cmpR op_ne (pe_ix ix_row (pv 1) pe_int (fun _ _ => rfl)) pe_str (nomark _)) (pe_one (pe_cmpR (OW.op_inO GCon (hr.mono (by decide)) bCon pass0 mCon) (pe_ix ix_row (pv 1) pe_int (fun _ _ => rfl)) (pv 0) (by rfl)))))), ?_⟩
    have nf : ∀ e ∈ fs, Nms e.1 := fun e he y hy => nm y ((g.path e he).2.2 y hy)
    cases c with
    | put p t =>
      obtain ⟨⟨pne, pl, pz⟩, ht⟩ := cn
      have np : Nms p := fun y hy => nm y (pz y hy)
      have al := aboves_len p
      refine ⟨_, rfl, _, 0, _, hv, rfl, atI_nat (j := 0) rfl, rfl, _, rfl, iteY rfl ?_⟩
      refine ⟨_, rfl, _, 1, _, hv, rfl, atI_nat (j := 1) rfl, p, rfl, np, by omega, fun D0 H1 hD0 s1 hD1 => ⟨D0, rfl, ⟨_, SqL.of hD1⟩, fun D hD => ?_⟩⟩
      refine lc_mapL (aboves p) (fun q => .str (js q)) (fun q => .bl (decide (q ∈ fs.map (·.1)))) (by omega) hD (SqL.of hD1) (fun t ht H2 s2 Q1 k1 => ?_) (fun H2 s2 hD2 => ?_)
      · obtain ⟨r, hr, er⟩ := aboves_is ht
        have wo2 := wo.same (s1.trans s2)
        obtain ⟨dx, d, e, h1, h2, h3⟩ := id wo2
        exact ⟨_, rfl, _, rfl, o, dx, _, rfl, h1, o, fs, ss, z, t, rfl, wo2, nf, fun y hy => np y (by rw [er]; exact List.mem_append_left _ hy), _, rfl, k1 H2 (Same.refl H2)⟩
      · refine ⟨D, (aboves p).map fun q => decide (q ∈ fs.map (·.1)), rfl, SqL.of (by rw [hD2, List.map_map]; rfl), ?_⟩
        have s12 := s1.trans s2
        cases hb : ((aboves p).map fun q => decide (q ∈ fs.map (·.1))).any id with
        | true =>
          refine ⟨_, rfl, _, rfl, _, rfl, iteF' (by rfl) (q H2 false s12 ⟨fun h => (nomatch h), fun h => ?_⟩)⟩
          rw [List.any_map, List.any_eq_true] at hb
          obtain ⟨y, hy, hd⟩ := hb
          exact absurd (of_decide_eq_true hd) (aboves_none hy h.2.2)
        | false =>
          have wo2 := wo.same s12
          obtain ⟨dx, d, e, h1, h2, h3⟩ := id wo2
          refine ⟨_, rfl, _, rfl, _, rfl, iteT ⟨_, rfl, o, dx, _, rfl, h1, lk_an _ _ _, _, rfl, _, 1, _, hv.up s12, rfl, atI_nat (j := 1) rfl, by show 2 ≤ sizeLine; decide, fun tp htp => ?_⟩⟩
          have s3 := same_mk (o := .tup [.str "list", .str (js p)]) htp
          refine ⟨o, .ref tp, zs, fs, ss, z, .ls p, rfl, wo2.same s3, ⟨tp, rfl, .inl upd_same⟩, ⟨np, by omega⟩, g, nm, fl, fun v H4 s4 an => ?_⟩
          obtain ⟨fm, hfm, ⟨e0, _, rfl⟩ | ⟨why, tt, ys, rfl, _⟩⟩ := an
          · refine q H4 _ (s12.trans (s3.trans s4)) ⟨fun _ => ⟨⟨pne, pl, pz⟩, ht, fun y hy => ⟨?_, ?_⟩⟩, fun _ => decide_eq_true rfl⟩
            · cases hq : ben p y with
              | false => rfl
              | true =>
                have hm := fOf_mem.mp hy
                obtain ⟨ey, hey, e2⟩ := List.mem_map.mp hm
                have yne : y ≠ [] := by rw [← e2]; exact (g.path ey hey).1
                rw [List.any_map, List.any_eq_false] at hb
                exact absurd (decide_eq_true hm) (hb y (aboves_mem yne hq))
            · cases hq : ben y p with
              | false => rfl
              | true =>
                obtain ⟨ey, hey, e2⟩ := List.mem_map.mp (fOf_mem.mp hy)
                obtain ⟨r, hr, e3⟩ := ben_iff.mp hq
                match r, hr, e3 with
                | n :: r, _, e3 =>
                  have := (hfm.has n (decide (r ≠ []))).mpr ⟨ey, hey, r, by rw [e2, e3], rfl⟩
                  rw [e0] at this
                  cases this
          · have fne : fm ≠ [] := why.elim id fun h => absurd h pne
            refine q H4 _ (s12.trans (s3.trans s4)) ⟨fun h => absurd (of_decide_eq_true h) (by intro z; cases z), fun h => absurd (fm_none hfm h.2.2) fne⟩
    | drop p =>
      obtain ⟨pne, pl, pz⟩ := cn
      have np : Nms p := fun y hy => nm y (pz y hy)
      refine ⟨_, rfl, _, 0, _, hv, rfl, atI_nat (j := 0) rfl, rfl, _, rfl, iteN (by decide +kernel) ?_⟩
      obtain ⟨dx, d, e, h1, h2, h3⟩ := id wo
      refine ⟨_, rfl, _, 0, _, hv, rfl, atI_nat (j := 0) rfl, rfl, _, rfl, iteNN rfl ⟨_, rfl, _, 1, _, hv, rfl, atI_nat (j := 1) rfl, _, rfl, o, dx, _, rfl, h1, o, fs, ss, z, p, rfl, wo, nf, np, _, rfl, ?_⟩⟩
      exact q H _ (Same.refl H) ⟨fun h => ⟨⟨pne, pl, pz⟩, fOf_mem.mpr (of_decide_eq_true h)⟩, fun h => decide_eq_true (fOf_mem.mp h.2)⟩
    | set n t =>
      refine ⟨_, rfl, _, 0, _, hv, rfl, atI_nat (j := 0) rfl, rfl, _, rfl, iteN (by decide +kernel) ?_⟩
      exact ⟨_, rfl, _, 0, _, hv, rfl, atI_nat (j := 0) rfl, rfl, _, rfl, iteNY (by decide +kernel) (q H true (Same.refl H) ⟨fun _ => cn, fun _ => rfl⟩)⟩
    | tool t =>
      refine ⟨_, rfl, _, 0, _, hv, rfl, atI_nat (j := 0) rfl, rfl, _, rfl, iteN (by decide +kernel) ?_⟩
      exact ⟨_, rfl, _, 0, _, hv, rfl, atI_nat (j := 0) rfl, rfl, _, rfl, iteNY (by decide +kernel) (q H true (Same.refl H) ⟨fun _ => cn, fun _ => rfl⟩)⟩
end
end N4

set_option maxHeartbeats 3900000
/-! enumerate of a tuple -/
namespace ET
open PySem PySem.Spec PyProof.Rows L2
abbrev itObj (l : Addr) : Obj := { cls := .type "tuple_iterator", data := .fields #[.ref l, .int 0 0] }
abbrev enObj (it : Addr) : Obj := { cls := .type "enumerate", data := .fields #[.none, .bool false, .ref it, rawInt 0, .none, .none] }
theorem meets_enumT (l : Addr) (its : Array Value) (n : Nat) (dct : Option Addr) (sl : Array (Option Value)) :
    Meets (Builtin.«enumerate.__new__» ⟨[.type "enumerate", .ref l], []⟩) (fun _ R s => s.heap.get? l = some { cls := .type "tuple", dict := dct, data := .seq its n, slots := sl } ∧
      R (.ok (.ret (.ref (s.heap.push (itObj l)).objs.size))) { s with heap := (s.heap.push (itObj l)).push (enObj s.heap.objs.size) }) :=
  .of_wp fun prog w A R s ha => by
    obtain ⟨hp, gg, dd, tk, os⟩ := s
    obtain ⟨hl, ha⟩ := ha
    have isub := sub_enumerate
    have hT : Heap.IsTuple (Shared.heap ⟨hp, gg, dd, tk, os⟩) l its := ⟨_, hl, rfl, n, rfl⟩
    wp_walk using AutoSeq1.wpAny_loadPart' hl
    refine wpAny_stack_any fun stk => wpAny_pure ?_
    split
    · rename_i c _ _ _ _ _
      cases (c == Value.type "enumerate") <;> (wp_walk using AutoSeq1.wpAny_loadPart' hl, wpAny_pyIter_tuple hT; exact ⟨_, rfl, ha⟩)
    · wp_walk using AutoSeq1.wpAny_loadPart' hl, wpAny_pyIter_tuple hT
      exact ⟨_, rfl, ha⟩
theorem call_enumT {prog : Program} {w : World} {A : Around} {E : Value → Shared → Prop} {s : Shared} {l : Addr} {its : Array Value} {Q : Value → Shared → Prop} (hL : s.heap.IsTuple l its)
    (h : ∀ h', IsEnum h' (s.heap.objs.size + 1) s.heap.objs.size 0 .none → h'.IsTupleIter s.heap.objs.size l 0 → (∀ b o, s.heap.get? b = some o → h'.get? b = some o) → Q (.ref (s.heap.objs.size + 1)) { s with heap := h' }) :
    wpAny (model prog w) A (call (.type "enumerate") [.ref l]) Q E s := by
  obtain ⟨⟨c, dct, dt, sl⟩, hl, hc, n, hd⟩ := hL
  obtain rfl : c = .type "tuple" := hc
  obtain rfl : dt = .seq its n := hd
  refine callType_new F.called_enumerate (by decide) (F.typeCall_enumerate_1 _) (F.newCall_enumerate_1 _) (fun obj => F.args_object_init_2 obj _) F.entry_enumerate_new (meets_enumT l its n dct sl) ⟨hl, ?_⟩
  have ez : (s.heap.push (itObj l)).objs.size = s.heap.objs.size + 1 := Heap.size_push ..
  show _ ∧ _
  rw [ez]
  have en : IsEnum ((s.heap.push (itObj l)).push (enObj s.heap.objs.size)) (s.heap.objs.size + 1) s.heap.objs.size 0 .none := by
    have q := Heap.get?_push_size (s.heap.push (itObj l)) (o := enObj s.heap.objs.size) rfl
    rw [ez] at q
    exact q
  exact ⟨⟨_, en, rfl⟩, h _ en ⟨_, Heap.get?_push_of_some _ (Heap.get?_push_size _ rfl), rfl, rfl⟩ fun b o x => Heap.get?_push_of_some _ (Heap.get?_push_of_some _ x)⟩
/-- the things of the tuple at a, each in a new pair with its place -/
def Itu (K : PySem.W.Frag) (a : Addr) (xs : List V) : It :=
  ⟨fun i H => SqT K H a xs ∧ i < xs.length, fun i H v H' => ∃ T x, v = .ref T ∧ H T = none ∧ H' = upd H T (.tup [.int (i : Nat), x]) ∧ xs[i]? = some x, fun i H => SqT K H a xs ∧ xs.length ≤ i⟩
theorem turn_enumT {P : Program} {w : World} {K : PySem.W.Frag} {elts : List Expr} {kk : Nat} {tpos : Pos} (a e it : Addr) (xs : List V) :
    Turn P w K (.Tuple elts kk tpos) (Itu K a xs) [e, it] e (fun i h => (∃ old, IsEnum h e it ((i : Nat) : Int) old) ∧ h.IsTupleIter it a i ∧ e ≠ it ∧ a ≠ it ∧ a ≠ e ∧ i ≤ xs.length) where
  mem := by simp
  obj := fun i h st b hb => by
    obtain ⟨⟨old, he⟩, ⟨o, ho, hc, hd⟩, _⟩ := st
    rcases (show b = e ∨ b = it by simpa using hb) with rfl | rfl
    · exact ⟨_, he, fun v q => nomatch q⟩
    · exact ⟨o, ho, fun v q => by rw [hd] at q; cases q⟩
  keep := fun i h h' st k => by
    obtain ⟨⟨old, he⟩, ⟨o, ho, r⟩, hne⟩ := st
    exact ⟨⟨old, k e (by simp) _ he⟩, ⟨o, k it (by simp) _ ho, r⟩, hne⟩
  item := by
    intro X hP hw hK hc i pins s σ H E I hf st hg
    subst hP hw hK
    obtain ⟨⟨old, he⟩, hit, hne, na, nb, nle⟩ := st
    obtain ⟨hq, ilt⟩ := hg
    have hx : xs[i]? = some xs[i] := List.getElem?_eq_getElem ilt
    generalize xs[i] = x at hx
    obtain ⟨its, rv, p, hz⟩ := I.tuple hq
    obtain ⟨u, hu, ru⟩ := rv.get hx
    have hel : e < s.heap.objs.size := Heap.lt_size he
    have hil : it < s.heap.objs.size := by obtain ⟨_, q, _⟩ := hit; exact Heap.lt_size q
    have pt : s.heap.IsTuple a its.toArray := p
    have D := Draws.tuple (prog := X.prog) (w := X.w) (A := X.A.in1) (I.ok.hd hc) it a na its.toArray
    have hlt : i < its.toArray.size := by
      have := (List.getElem?_eq_some_iff.mp hu).1
      simpa using this
    have nef : e ∉ [it, a] := by
      simp only [List.mem_cons, List.not_mem_nil, or_false, not_or]
      exact ⟨hne, fun z => nb z.symm⟩
    refine wpAny_pyNext_enum_itemD D he ⟨hit, pt⟩ hlt hne nef fun v h' tk hv ho hit' hT hsz hk => ?_
    have ev : v = u := by
      have hv2 : its[i]? = some v := by simpa using hv
      rw [hu] at hv2
      exact (Option.some.inj hv2).symm
    subst ev
    refine ⟨_, rfl, wpAny_letOwnedTupleGo_enum (s := { s with heap := h', toks := tk + 1 }) ho fun h'' he' sb => ?_⟩
    have away : ∀ b, b ∉ [e, it] → b ≠ e ∧ b ≠ it := fun b hb => ⟨fun z => hb (by simp [z]), fun z => hb (by simp [z])⟩
    have hT2 : h''.get? s.heap.objs.size = some { cls := .type "tuple", data := .seq #[.int i tk, v] } := (sb.2 _ (Nat.ne_of_gt hel)).trans hT
    have I1 : Inv X pins σ (upd H s.heap.objs.size (.tup [.int (i : Nat), x])) { s with heap := h'', toks := tk + 1 } := by
      refine I.turnedNew (ch := [e, it]) (fun b ob hb q => ?_) hf (Nat.le_refl _) ?_
      · exact (sb.2 b (away b hb).1).trans (hk b ob (away b hb).1 (away b hb).2 q)
      · exact ⟨by show 2 ≤ sizeLine; decide, [.int i tk, v], .cons ⟨_, rfl⟩ (.cons ru .nil), ⟨_, hT2, rfl, _, rfl⟩⟩
    refine ⟨.ref s.heap.objs.size, _, I1, rfl, ⟨s.heap.objs.size, x, rfl, I.hok.fresh (Nat.le_refl _), rfl, hx⟩, ⟨⟨v, ?_⟩, ?_, hne, na, nb, ilt⟩, fun b hb => ?_⟩
    · rw [show ((i + 1 : Nat) : Int) = (i : Int) + 1 by omega]
      exact he'
    · obtain ⟨⟨o, h1, h2⟩, _⟩ := hit'
      exact ⟨o, (sb.2 it (Ne.symm hne)).trans h1, h2⟩
    · have lt : b < s.heap.objs.size := by
        rcases (show b = e ∨ b = it by simpa using hb) with z | z
        · rw [z]; exact hel
        · rw [z]; exact hil
      rw [upd_ne (Nat.ne_of_lt lt)]
      exact (hf b hb).1
  done := by
    intro X hP hw hK hc i pins s σ H E I hf st hg
    subst hP hw hK
    obtain ⟨⟨old, he⟩, hit, hne, na, nb, nle⟩ := st
    obtain ⟨hq, hx⟩ := hg
    obtain ⟨its, rv, p, hz⟩ := I.tuple hq
    obtain ⟨f0, f1, f2, f3, f4, f5⟩ := hf it (by simp)
    have D := Draws.tuple (prog := X.prog) (w := X.w) (A := X.A.in1) (I.ok.hd hc) it a na its.toArray
    have hl := rv.length
    have ei : i = its.toArray.size := by
      have e1 : its.toArray.size = its.length := by simp
      rw [e1, ← hl]
      exact Nat.le_antisymm nle hx
    have pt : s.heap.IsTuple a its.toArray := p
    rw [ei] at hit
    exact wpAny_pyNext_enum_endD D he ⟨hit, pt⟩ fun h' eb => ⟨rfl, I.turned (t' := s.toks) (fun b o hb q => eb b o hb q) f0 f1 f3 f4 f5⟩
  self := fun A i s Q E st h => let ⟨⟨_, he⟩, _⟩ := st; wpAny_pyIter_enum he h
/-- for (i, x) in enumerate(e), e a tuple -/
def iEnumT (K : PySem.W.Frag) (ta : TA) : TI := fun σ H R => ta σ H fun vs H1 => ∃ a xs, vs = [.ref a] ∧ SqT K H1 a xs ∧ R (Itu K a xs) H1
theorem pi_enumT {X : Cx} {e : Expr} {ta : TA} {p pos tpos : Pos} {elts : List Expr} {kk : Nat} (hg : Gl X "enumerate") (hm : X.mg "enumerate" = none) (ha : PA X [e] ta) (hs : starEach [e] X.env = [(false, eval e X.env)] := by rfl) :
    PI X (.Tuple elts kk tpos) (.Call (.Name "enumerate" p) [e] [] pos) (iEnumT X.K ta) := by
  refine ⟨fun pins s σ H R I h => ?_⟩
  refine Call_ (ld_blt I hg hm boot_enumerate (PyProof.Rows.callWith_type1 (thn (ha.run pos pins s σ H _ I h) fun us s1 ⟨vs, H1, I1, r1, a, xs, ex, hq, q⟩ => ?_) hs rfl))
  subst ex
  obtain rfl : us = [Value.ref a] := by
    cases r1 with
    | cons r rr =>
      cases rr
      cases r
      rfl
  obtain ⟨its, rv, p', hz⟩ := I1.tuple hq
  have pt : s1.heap.IsTuple a its.toArray := p'
  have al : a < s1.heap.objs.size := by obtain ⟨_, z, _⟩ := pt; exact Heap.lt_size z
  refine call_enumT pt fun h' he hit hk => wpAny_pyIter_enum he ?_
  have I2 : Inv X pins σ H1 { s1 with heap := h' } := I1.kept (t' := s1.toks) hk
  refine ⟨s1.heap.objs.size + 1, [s1.heap.objs.size + 1, s1.heap.objs.size], _, _, H1, rfl, I2, turn_enumT a (s1.heap.objs.size + 1) s1.heap.objs.size xs, ⟨⟨.none, he⟩, hit, Nat.succ_ne_self _, Nat.ne_of_lt al, Nat.ne_of_lt (Nat.lt_succ_of_lt al), Nat.zero_le _⟩, fun b hb => ?_, q⟩
  have le : s1.heap.objs.size ≤ b := by
    rcases (show b = s1.heap.objs.size + 1 ∨ b = s1.heap.objs.size by simpa using hb) with z | z
    · rw [z]; exact Nat.le_add_right _ _
    · rw [z]; exact Nat.le_refl _
  exact I1.fpOk le (I1.hok.fresh le)
theorem walk_enumT {K : PySem.W.Frag} {a : Addr} {xs : List V} : Walk (Itu K a xs) xs.length (fun H => SqT K H a xs) (YPair (fun i => some (.int (i : Nat))) (fun i => xs[i]?)) := by
  refine ⟨fun i _ hi q => ⟨q, hi⟩, fun _ q => ⟨q, Nat.le_refl _⟩, fun i H v H' _ q y => ?_⟩
  obtain ⟨T, x, h1, h2, h3, h4⟩ := y
  exact ⟨T, .int (i : Nat), x, h1, h2, h3, rfl, h4⟩
end ET

set_option maxHeartbeats 3900000
/-! defs that raise with no context; defs called within an except suite where no repr is under way -/
namespace HG
open PySem PySem.Spec PyProof.Rows L2 L2H HotX
section
variable {P : Program} {w : World} {K : PySem.W.Frag} {mg : Str → Option Value} {base : Heap}
theorem okXN {x qual : Str} {st : Stmt} {f : Addr} {fd : FuncData} {N ps : List Str} {k : Nat} {sp : Sp} (F : Fun K x qual st f fd) (S : FnScope N ps (defScope st)) (len : ∀ vs H Q E, sp vs H Q E → vs.length = ps.length)
    (body : ∀ (cdv : Value) (A : Around) (outer : List Env) (s : Shared) (H : Hp) (vs : List V) (Q : VK) (E : XK), Room k (A.deeper (envOfC qual (defScope st) s.heap.objs.size f cdv)) → sp vs H Q E →
      ∃ t, PSs (cxOf (L2N.CX P w) P w K mg base N qual (defScope st) f cdv A outer s H E) (defBody st) t ∧ t { nx := fun _ H' => Q .non H', rt := Q } (start N vs) H) : FnOk P w K mg base (L2N.CX P w) (k + 1) f fd ps sp := by
  obtain ⟨oc, od, kV, doc, pm, an, cdv, ct, osl, rfl, l1, l2⟩ := F.ex
  exact fn_of l1 l2 S len fun A outer s H vs Q E r h => body cdv A outer s H vs Q E r h
/-- .. called within an except suite, no repr under way -/
structure FnHG (P : Program) (w : World) (K : PySem.W.Frag) (mg : Str → Option Value) (base : Heap) (CX : CXT) (k : Nat) (f : Addr) (fd : FuncData) (ps : List Str) (sp : Sp) : Prop where
  len : ∀ vs H Q E, sp vs H Q E → vs.length = ps.length
  run : ∀ (A : Around) (outer : List Env) (s : Shared) (H : Hp) (args : Args) (us : List Value) (vs : List V) (Q : VK) (E : XK) (p : Addr × Obj), A.guards = some [] → RoomH k A → Hot1 A p → PinOk outer H s p → Env0 P w K mg base A outer s H → BindsTo s fd args (ps.zip us) → Vals vs us →
    sp vs H Q E → codeAny (model P w) A (.call (.ref f) args) (CR CX outer P w H s Q E) s
theorem okHG {x qual : Str} {st : Stmt} {f : Addr} {fd : FuncData} {N ps : List Str} {k : Nat} {sp : Sp} {CX : CXT} (F : Fun K x qual st f fd) (S : FnScope N ps (defScope st)) (len : ∀ vs H Q E, sp vs H Q E → vs.length = ps.length)
    (body : ∀ (cdv : Value) (A : Around) (outer : List Env) (s : Shared) (H : Hp) (vs : List V) (Q : VK) (E : XK) (p : Addr × Obj), A.guards = some [] → Hot1 A p → RoomH k (A.deeper (envOfC qual (defScope st) s.heap.objs.size f cdv)) → sp vs H Q E →
      ∃ t, PSs (cxH CX P w K mg base N qual (defScope st) f cdv A outer s H E p) (defBody st) t ∧ t { nx := fun _ H' => Q .non H', rt := Q } (L2.start N vs) H) : FnHG P w K mg base CX (k + 1) f fd ps sp := by
  obtain ⟨oc, od, kV, doc, pm, an, cdv, ct, osl, rfl, l1, l2⟩ := F.ex
  refine ⟨len, fun A outer s H args us vs Q E p hg hr hot pin e0 hb r h => ?_⟩
  have hl := len _ _ _ _ h
  have kin : K.In s.heap := e0.mod.kin.keeps fun b o e => (e0.bs b o e).1
  have nolim : s.heap.NoLimit := e0.mod.nolimit.keeps fun b o e => (e0.bs b o e).1
  have kinds : ∀ y ∈ ps.zip us, (defScope st).names.lookup y.1 = some .local ∨ ((defScope st).names.lookup y.1 = some .cell ∧ ((cellsFrom (s.heap.objs.size + 1) (defScope st).names []).lookup y.1).isSome = true) := by
    rintro ⟨n, v⟩ hy
    rcases S.par n (List.of_mem_zip hy).1 with q | q
    · exact .inl q
    · exact .inr ⟨q, PySem.W.cellsFrom_some _ _ _ (.inl q)⟩
  refine codeAny_call_function hr.depth (kin _ _ l1) rfl S.co S.gen rfl (PySem.W.codeRec_of kin l2) (hb _ _ _ _ (wpAny_newFunctionEnv_cells S.kind kinds fun env he s1 x1 => ?_))
  subst he
  refine ⟨nolim.keeps x1.toInCall.keep, codeAny_func ?_⟩
  obtain ⟨t, ht, q⟩ := body cdv A outer s H vs Q E p hg hot (hr.deeper _) h
  refine wpAny_mono (ht.run [] s1 (L2.start N vs) H _ (inv_startH S pin e0 hl r x1) q) (fun fl s' z => ?_) fun e s' z => z
  cases fl with
  | ret u =>
    obtain ⟨v, σ', H', J, rv, q⟩ := z
    exact ⟨v, H', J.os, J.bare, J.base, J.hok, rv, q⟩
  | next =>
    obtain ⟨σ', H', J, q⟩ := z
    exact ⟨V.non, H', J.os, J.bare, J.base, J.hok, rfl, q⟩
  | brk => exact z.choose_spec.choose_spec.2.elim
  | cont => exact z.choose_spec.choose_spec.2.elim
end
section
variable {X : Cx} {CX : CXT} {k : Nat} {f : Addr} {fd : FuncData} {ps : List Str} {sp : Sp} {E : L2.St → XK} {x : Str} {q pos : Pos} {e : Expr} {es : List Expr} {t : TA}
theorem pe_callHG (F : FnHG X.prog X.w X.K X.mg X.base CX k f fd ps sp) (hG : X.A.guards = some []) (hr : RoomH k X.A) (hc : HotC X) (hg : Gl X x) (hm : X.mg x = some (.ref f)) (hk : PySem.W.keepIn X.K (.ref f) = true) (hb : L2.Binds X.K fd ps [])
    (hx : ∀ σ, PassesAt CX X σ (E σ)) (ha : PA X (e :: es) t) (hdb : (x == ("__debug__" : Str)) = false := by decide) (he : starEach (e :: es) X.env = (false, eval e X.env) :: starEach es X.env := by rfl)
    (hpl : (backTo pos (starEach es X.env)).any (·.1) = false := by rfl) : PE X (.Call (.Name x q) (e :: es) [] pos) (tCallS sp E t) := by
  refine ⟨fun pins s σ H Q I h => wpAny_Call_Name_kw (ld_glob I hg hm ?_ hdb)⟩
  refine PySem.W.callWith_K (h₀ := X.base) I.ok.mod.kin hk (thn (ha.run pos pins s σ H _ I h) fun us s1 ⟨vs, H1, I1, r, z⟩ => ⟨I1.kIn, ?_⟩) he hpl
  obtain ⟨p, hot, hp⟩ := hc
  have hl : us.length = ps.length := by rw [← r.length]; exact F.len _ _ _ _ z
  have b := hb s1 us I1.kIn (by rw [List.append_nil]; exact hl)
  rw [List.append_nil] at b
  obtain ⟨p1, p2, p3, p4, p5⟩ := I1.pin p (List.mem_append_left _ hp)
  have pin : PinOk X.stack H1 s1 p := ⟨p1, p2, fun hm => (List.mem_cons.mp (I1.stkSub p.1 hm)).elim p3 p4, p5⟩
  refine wpAny_call (codeAny_mono (F.run X.A X.stack s1 H1 ⟨us, []⟩ us vs Q (E σ) p hG hr hot pin I1.env0 b r z) fun r s' hq => ?_)
  cases r with
  | error e => exact hx σ pins H1 s1 e s' I1 hq
  | ok fl =>
    cases fl with
    | ret u => exact I1.after hq
    | next => exact hq.elim
    | brk => exact hq.elim
    | cont => exact hq.elim
end
end HG

set_option maxHeartbeats 3900000
/-! an own exception made, its context known to be None -/
namespace HG
open PySem PySem.Spec PyProof.Rows L2
abbrev hpX (hp : Heap) (C : Addr) (us : List Value) : Heap := (hp.push (PySem.W.kdv_tup us)).push (PySem.HandSPX.excO C hp.objs.size)
theorem pmk_oexN {X : Cx} {e : Expr} {es : List Expr} {ta : TA} {p pos : Pos} {CX : CXT} {x : Str} {C fI : Addr} {k : Nat} {fd : FuncData} {ps : List Str} {sp : Sp} (T : OexC X.K C) (iC : PySem.W.findIn X.K (.ref C) "__init__" = some (some (.ref fI)))
    (tI : PySem.W.typeIn X.K (.ref fI) = some (.type "function")) (F1 : FnOk X.prog X.w X.K X.mg X.base CX k fI fd ps sp) (hr : Room (k + 1) X.A) (hb : L2.Binds X.K fd ps []) (hx : Passes CX X (fun _ _ _ => False)) (hg : Gl X x) (hm : X.mg x = some (.ref C)) (ha : PA X (e :: es) ta)
    (hdb : (x == ("__debug__" : Str)) = false := by decide) (he : starEach (e :: es) X.env = (false, eval e X.env) :: starEach es X.env := by rfl) (hpl : (backTo pos (starEach es X.env)).any (·.1) = false := by rfl) :
    L2N.PMk X (.Call (.Name x p) (e :: es) [] pos) (tMkO C sp [] ta) := by
  intro pins s σ H Q I h
  obtain ⟨nm, q, N, bs, bm, sn, sub, ab, col, dd, k0, k1, k2, k3, k5, hC, hbm⟩ := T.cls
  refine wpAny_Call_Name_kw (ld_glob I hg hm (PySem.W.callWith_K (h₀ := X.base) I.ok.mod.kin T.kC (thn (ha.run pos pins s σ H _ I h) fun us s1 z => ?_) he hpl) hdb)
  obtain ⟨vs, H1, I1, r1, hz, z⟩ := z
  refine ⟨I1.kIn, ?_⟩
  show wpAny _ _ (call (.ref C) us) _ _ _
  obtain ⟨hp, g, dr, tk, os⟩ := s1
  generalize ea0 : hp.objs.size + 1 = a
  have le : hp.objs.size ≤ a := by omega
  have z := z a (I1.hok.fresh le)
  rw [List.append_nil] at z
  have keep : ∀ b o, hp.get? b = some o → (hpX hp C us).get? b = some o := fun b o q => Heap.get?_push_of_some _ (Heap.get?_push_of_some _ q)
  have got : (hpX hp C us).get? a = some (PySem.HandSPX.excO C hp.objs.size) := by
    rw [← ea0]
    heap_get
  have I2 : Inv X pins σ (upd H1 a (exo a C none)) ⟨hpX hp C us, g, dr, tk, os⟩ := I1.laid (t' := tk) (a := a) (o := exo a C none) (h' := hpX hp C us) keep le (exo_ok got)
  have r2 : Vals (V.ref a :: vs) (Value.ref a :: us) := .cons rfl r1
  have hl : (Value.ref a :: us ++ []).length = ps.length := by
    rw [List.append_nil, ← r2.length]
    exact F1.len _ _ _ _ z
  have usz : us.length ≤ sizeLine := by
    rw [← Paired.length r1, sizeLine_eq]
    omega
  have b2 := hb _ (Value.ref a :: us) I2.kIn hl
  rw [List.append_nil] at b2
  refine wpAny_call (PySem.HandSPX.call_own F.excBase_ValueError (fun Y => PySem.HandSPX.refsVE_contains Y bm hbm) (I1.kIn _ _ hC) (PySem.W.looks_findIn I1.kIn iC) (fun self => PySem.W.bind_fn I1.kIn self tI) usz ?_)
  subst ea0
  refine codeAny_mono (F1.run _ X.stack _ _ ⟨Value.ref (hp.objs.size + 1) :: us, []⟩ (Value.ref (hp.objs.size + 1) :: us) _ _ (fun _ _ _ => False) (hr.make C us []) (I2.env0.make C us []) b2 r2 z) fun r s' hq => ?_
  cases r with
  | error er => exact hx pins σ _ _ er s' I2 hq
  | ok fl =>
    cases fl with
    | ret u =>
      obtain ⟨v, H2, os2, bare2, un2, hok2, rv, ev, d, fs, ea, ed, hd1, q2⟩ := hq
      subst ev
      obtain ⟨h2, g2, d2, t2, os'⟩ := s'
      obtain ⟨t0, G, J, kG, ge, hoe, na⟩ := mk_end0 (d2 := d2) (t2 := t2) I1 le keep un2 hok2 os2 bare2 ea ed hd1
      exact ⟨rv, _, _, _, ⟨G, g2, d2, t2, os'⟩, _, .ref C, some d, rfl, J, kG, ge, hoe, ⟨rfl, rfl, fun vs hv => by cases hv; rfl⟩, rfl, rfl, na, rfl, bare2, raises_own T.exC T.tyC, q2⟩
    | next => exact hq.elim
    | brk => exact hq.elim
    | cont => exact hq.elim
end HG

set_option maxHeartbeats 3900000
namespace N4
open PySem PySem.Spec PyProof.Rows L2 TL RP
open C8 (pss_cut tCut pe_gc)
open CB
abbrev sLIni : Stmt := inClass (top 6) 0
/-- the error's class -/
structure BCl (K : PySem.W.Frag) (mg : Str → Option Value) (C f : Addr) : Prop where
  mg : mg "BadChange" = some (.ref C)
  ox : OexC K C
  iC : PySem.W.findIn K (.ref C) "__init__" = some (some (.ref f))
  tI : PySem.W.typeIn K (.ref f) = some (.type "function")
  no : PySem.W.findIn K (.ref C) "index" = some none
  xf : XfC K C
  te : PySem.W.exmOne K (.ref C) (.ref C) = some true
def spIniB (C : Addr) : Sp := fun vs H Q _ => ∃ a x, vs = [.ref a, x] ∧ H a = some (exo a C none) ∧ ∀ dx, H dx = none → dx ≠ a → Q .non (upd (upd H dx (exd dx [(("index" : Str), x)])) a (exo a C (some dx)))
/-- what is wanted of the error -/
def Wants (H : Hp) (C : Addr) (x : V) (E : XK) : Prop := ∀ d H', Same H H' → H d = none → H' d = some (.xd [(("index" : Str), x)]) → E (.ref C) (some d) H'
theorem Wants.up {H H' : Hp} {C : Addr} {x : V} {E : XK} (h : Wants H C x E) (s : Same H H') : Wants H' C x E := fun d H2 s2 hd he => h d H2 (s.trans s2) (s.free hd) he
theorem del_ne {H : Hp} {a b : Addr} (h : b ≠ a) : del H a b = H b := if_neg h
theorem FnOk_or {P : Program} {w : World} {K : PySem.W.Frag} {mg : Str → Option Value} {base : Heap} {CX : CXT} {k : Nat} {f : Addr} {fd : FuncData} {ps : List Str} {sp sp' : Sp} (F : FnOk P w K mg base CX k f fd ps sp) (G : FnOk P w K mg base CX k f fd ps sp') : FnOk P w K mg base CX k f fd ps (fun vs H Q E => sp vs H Q E ∨ sp' vs H Q E) :=
  ⟨fun vs H Q E h => h.elim (F.len vs H Q E) (G.len vs H Q E), fun A outer s H args us vs Q E hr he hb hv h => h.elim (F.run A outer s H args us vs Q E hr he hb hv) (G.run A outer s H args us vs Q E hr he hb hv)⟩
theorem raise_at {H H1 : Hp} {C a dx : Addr} {x : V} {E : XK} (s1 : Same H H1) (ha : H1 a = none) (hdx : upd H1 a (exo a C none) dx = none) (hne : dx ≠ a) (k : Wants H C x E) :
    ∃ (d : Addr) (fs : List (Str × V)), upd (upd (upd H1 a (exo a C none)) dx (exd dx [(("index" : Str), x)])) a (exo a C (some dx)) a = some (exo a C (some d)) ∧ upd (upd (upd H1 a (exo a C none)) dx (exd dx [(("index" : Str), x)])) a (exo a C (some dx)) d = some (exd d fs) ∧ H1 d = none ∧
      E (.ref C) (some d) (upd (del (upd (upd (upd H1 a (exo a C none)) dx (exd dx [(("index" : Str), x)])) a (exo a C (some dx))) a) d (.xd fs)) := by
  have hn : H1 dx = none := by
    rw [upd_ne hne] at hdx
    exact hdx
  refine ⟨dx, [(("index" : Str), x)], upd_same, by rw [upd_ne hne, upd_same], hn, k dx _ (fun b u hb => ?_) (s1.free hn) upd_same⟩
  have hb1 := s1 _ _ hb
  have n1 : b ≠ a := fun e => by rw [e, ha] at hb1; cases hb1
  have n2 : b ≠ dx := fun e => by rw [e, hn] at hb1; cases hb1
  rw [upd_ne n2, del_ne n1, upd_ne n1, upd_ne n2, upd_ne n1]
  exact hb1
/-! o.m(e), where the method may raise and the block holds the error -/
section
variable {X : Cx} {CX : CXT} {k : Nat} {f C : Addr} {fd : FuncData} {ps : List Str} {sp : Sp} {E : L2.St → XK} {m : Str} {pos apos : Pos} {e o : Expr} {es : List Expr} {ta : TE} {t : TA}
def tMethX (C : Addr) (m : Str) (sp : Sp) (E : L2.St → XK) (ta : TE) (t : TA) : TE := fun σ H Q => ta σ H fun x H1 => ∃ a dx fs, x = .ref a ∧ H1 a = some (.ins C dx fs) ∧ fs.lookup m = none ∧
  t σ H1 fun vs H2 => sp (x :: vs) H2 Q (E σ)
theorem pe_methX {pl : Sem Bool} (he : PE X o ta) (c : Cls X.K C) (hm : Meth X.K C m f) (F : FnOk X.prog X.w X.K X.mg X.base CX k f fd ps sp) (hr : Room k X.A) (hb : L2.Binds X.K fd ps []) (hx : ∀ σ, PassesAt CX X σ (E σ)) (ha : PA X (e :: es) t)
    (hst : starEach (e :: es) X.env = (false, eval e X.env) :: starEach es X.env := by rfl) (hpl : (backTo pos (starEach es X.env)).any (·.1) = false := by rfl)
    (ht : eval (.Call (.Attribute o m apos) (e :: es) [] pos) X.env = (do
      let ov ← eval o X.env
      standAt apos.atName
      let (f, first) ← holding [ov] (getMethod ov m pl)
      callWith pos f first (backTo pos (starEach (e :: es) X.env)) (backToKw pos (keywordEach [] X.env))) := by rfl) :
    PE X (.Call (.Attribute o m apos) (e :: es) [] pos) (tMethX C m sp E ta t) := by
  refine ⟨fun pins s σ H Q I h => ?_⟩
  refine PySem.W.methodCall_KW (pl := pl) (thn (he.run pins s σ H _ I h) fun u s1 ⟨x, H1, I1, rx, a, dx, fs, ex, ea, l, q⟩ => ?_) ht
  subst ex
  obtain rfl : u = Value.ref a := rx
  refine getmeth_ok I1 ea c hm l ?_
  refine PySem.W.callWith_K (first := [.ref a]) (h₀ := X.base) I.ok.mod.kin hm.kp (thn (ha.run pos pins s1 σ H1 _ I1 q) fun us s2 ⟨vs, H2, I2, r, q2⟩ => ⟨I2.kIn, ?_⟩) hst hpl
  exact run_fnS (us := .ref a :: us) (vs := .ref a :: vs) F hr hb (hx σ) I2 (.cons rfl r) q2
end
section
variable {P : Program} {w : World} {K : PySem.W.Frag} {mg : Str → Option Value} {base : Heap} {C CB fB : Addr} {fdB : FuncData}
theorem scLIni : FnScope ["self", "index"] ["self", "index"] (defScope sLIni) := ⟨rfl, rfl, rfl, by decide +kernel, rfl, by decide +kernel, by decide +kernel⟩
theorem ok_iniB {f : Addr} {fd : FuncData} (F : Fun K "__init__" "BadChange.__init__" sLIni f fd) (B : BCl K mg CB fB) : FnOk P w K mg base CX0 1 f fd ["self", "index"] (spIniB CB) := by
  refine F.ok scLIni (fun vs H Q E h => ?_) (fun cdv A outer s H vs Q E hr h => ?_)
  · obtain ⟨a, x, rfl, _⟩ := h
    rfl
  · obtain ⟨a, x, rfl, ha, k⟩ := h
    refine ⟨_, pss_one (ps_ost (pv 0) (pv 1) rfl), ?_⟩
    exact ⟨_, rfl, _, rfl, a, CB, rfl, B.ox, B.no, .inl ⟨ha, fun dx hdx hne => k dx hdx hne⟩⟩
end
/-- a change that is drawn: some c, or what is none -/
def CkAt (zs : List Str) (H : Hp) (x : V) : Option Ch → Prop
  | some c => RowAt H x (chV c) ∧ ChIn zs c
  | none => OddL H x
theorem CkAt.up {zs : List Str} {H H' : Hp} {x : V} {k : Option Ch} (h : CkAt zs H x k) (s : Same H H') : CkAt zs H' x k := by
  cases k with
  | some c => exact ⟨h.1.up s, h.2⟩
  | none => exact OddL.up h s
/-- a row of them, in a list or in a tuple -/
def RowK (zs : List Str) (H : Hp) (v : V) (ks : List (Option Ch)) : Prop := ∃ xs, RowAt H v xs ∧ xs.length = ks.length ∧ ∀ (i : Nat) (x : V) (k : Option Ch), xs[i]? = some x → ks[i]? = some k → CkAt zs H x k
theorem RowK.up {zs : List Str} {H H' : Hp} {v : V} {ks : List (Option Ch)} (h : RowK zs H v ks) (s : Same H H') : RowK zs H' v ks := by
  obtain ⟨xs, h1, h2, h3⟩ := h
  exact ⟨xs, h1.up s, h2, fun i x k hx hk => (h3 i x k hx hk).up s⟩
open Classical in
/-- one change more: the world behind it, or none -/
noncomputable def stepK (zs : List Str) (a : St0) (k : Option Ch) : Option St0 :=
  match k with
  | some c => if Can zs a c then some (a.do c) else none
  | none => none
/-- the world behind a row, or the place of the first that can not be done -/
noncomputable def runK (zs : List Str) (a : St0) (i : Nat) : List (Option Ch) → St0 × Option Nat
  | [] => (a, none)
  | k :: r => match stepK zs a k with
    | some b => runK zs b (i + 1) r
    | none => (a, some i)
theorem runK_snoc {zs : List Str} : ∀ (r : List (Option Ch)) (a : St0) (i : Nat) (k : Option Ch), runK zs a i (r ++ [k]) = (match (runK zs a i r).2 with
    | some j => runK zs a i r
    | none => match stepK zs (runK zs a i r).1 k with
      | some b => (b, none)
      | none => ((runK zs a i r).1, some (i + r.length)))
  | [], a, i, k => by
    show (match stepK zs a k with | some b => (b, none) | none => (a, some i)) = _
    show _ = (match stepK zs a k with | some b => (b, none) | none => (a, some (i + 0)))
    rfl
  | x :: r, a, i, k => by
    show (match stepK zs a x with | some b => runK zs b (i + 1) (r ++ [k]) | none => (a, some i)) = _
    show _ = (match (match stepK zs a x with | some b => runK zs b (i + 1) r | none => (a, some i)).2 with
      | some j => (match stepK zs a x with | some b => runK zs b (i + 1) r | none => (a, some i))
      | none => match stepK zs (match stepK zs a x with | some b => runK zs b (i + 1) r | none => (a, some i)).1 k with
        | some b => (b, none)
        | none => ((match stepK zs a x with | some b => runK zs b (i + 1) r | none => (a, some i)).1, some (i + (r.length + 1))))
    cases stepK zs a x with
    | none => rfl
    | some b =>
      show runK zs b (i + 1) (r ++ [k]) = _
      rw [runK_snoc r b (i + 1) k, show i + 1 + r.length = i + (r.length + 1) by omega]
theorem runK_app {zs : List Str} : ∀ (r r2 : List (Option Ch)) (a : St0) (i j : Nat), (runK zs a i r).2 = some j → runK zs a i (r ++ r2) = runK zs a i r
  | [], r2, a, i, j, h => by cases h
  | x :: r, r2, a, i, j, h => by
    show (match stepK zs a x with | some b => runK zs b (i + 1) (r ++ r2) | none => (a, some i)) = (match stepK zs a x with | some b => runK zs b (i + 1) r | none => (a, some i))
    have h2 : (match stepK zs a x with | some b => runK zs b (i + 1) r | none => (a, some i)).2 = some j := h
    cases e : stepK zs a x with
    | none => rfl
    | some b =>
      rw [e] at h2
      exact runK_app r r2 b (i + 1) j h2
def spWAfX (C CB : Addr) : Sp := fun vs H Q E => ∃ o v zs a n fs ss ks, vs = [.ref o, v] ∧ Wd C H o zs a n fs ss ∧ RowK zs H v ks ∧ (∀ y ∈ zs, IsNm y) ∧ n + ks.length ≤ 49 ∧
  ((runK zs a 0 ks).2 = none → ∀ (o' : Addr) (H' : Hp) (fs' : Fs) (ss' : Ss), Same H H' → Wd C H' o' zs (runK zs a 0 ks).1 (n + ks.length) fs' ss' → Q (.ref o') H') ∧
  ∀ i : Nat, (runK zs a 0 ks).2 = some i → Wants H CB (.int i) E
def spIsCh2 : Sp := fun vs H Q E => spIsCh vs H Q E ∨ spIsChO vs H Q E
section
variable {P : Program} {w : World} {K : PySem.W.Frag} {mg : Str → Option Value} {base : Heap} {C CB fB : Addr} {fdB : FuncData}
theorem ok_wafX {f fI fIc fCa fCh : Addr} {fd fdI fdIc fdCa fdCh : FuncData} (F : Fun K "after" "World.after" sWAf f fd) (T : TB mg) (R : WCl K mg C) (mk : Mk K C fI) (bWIni : L2.Binds K fdI ["self", "files", "settings", "tool"] []) (GWIni : FnOk P w K mg base CX0 4 fI fdI ["self", "files", "settings", "tool"] (spWIni C))
    (aIsCh : At K mg "is_change" fIc fdIc ["thing"]) (GIsCh : FnOk P w K mg base CX0 4 fIc fdIc ["thing"] spIsCh2) (aCan : At K mg "can_be_done" fCa fdCa ["world", "change"]) (GCan : FnOk P w K mg base CX0 7 fCa fdCa ["world", "change"] (spCanB C))
    (aChd : At K mg "changed" fCh fdCh ["world", "change"]) (GChd : FnOk P w K mg base CX0 6 fCh fdCh ["world", "change"] (spChd C)) (B : BCl K mg CB fB) (bB : L2.Binds K fdB ["self", "index"] []) (GB : FnOk P w K mg base CX0 1 fB fdB ["self", "index"] (spIniB CB)) : FnOk P w K mg base (L2N.CX P w) 8 f fd ["self", "changes"] (spWAfX C CB) := by
  refine HG.okXN F scWAf (fun vs H Q E h => ?_) (fun cdv A outer s H vs Q E hr h => ?_)
  · obtain ⟨o, v, zs, a, n, fs, ss, ks, rfl, _⟩ := h
    rfl
  · obtain ⟨o, v, zs, a, n, fs, ss, ks, rfl, W, ⟨xs, ⟨L, rfl, hLT⟩, lx, hx⟩, nm, hn, k, want⟩ := h
    have W0 := W
    obtain ⟨⟨dx, d, e, h1, h2, h3⟩, g, gs, fl, sl, hf, hs⟩ := W
    have nf : ∀ e ∈ fs, Nms e.1 := fun e he y hy => nm y ((g.path e he).2.2 y hy)
    have sm : ∀ x dx, H x = none → H dx = none → dx ≠ x → Same H (upd (upd H dx (.own x)) x (.ins C dx [])) := fun x dx hx hdx hne b u hb => by
      have n1 : b ≠ x := fun e => by rw [e, hx] at hb; cases hb
      have n2 : b ≠ dx := fun e => by rw [e, hdx] at hb; cases hb
      rw [upd_ne n1, upd_ne n2]
      exact hb
    rcases hLT with hL | hL
    · refine ⟨_, pss_cons (ps_set (i := 2) scWAf.nd rfl (Or.inl rfl) (pe_make mk GWIni (hr.mono (by decide)) rfl R.mg bWIni .nil pass0 (pa_cons (pe_fld (pv 0) rfl) (pa_cons (pe_fld (pv 0) rfl) (pa_cons (pe_fld (pv 0) rfl) pa_nil)))))
            (pss_cons (ps_for (passes_of rfl) rfl (ET.pi_enumT rfl T.enumerate (pa_cons (pv 1) pa_nil)) (pg_tup rfl (pgs_cons (pg_name (i := 3) scWAf.nd rfl (Or.inl rfl)) (pgs_cons (pg_name (i := 4) scWAf.nd rfl (Or.inl rfl)) pgs_nil))) (pss_cons (ps_if (PW.pt (pw_or (pt_not (pt_val (pe_call GIsCh (hr.mono (by decide)) rfl aIsCh.m aIsCh.k aIsCh.b .nil pass0 (pa_cons (pv 4) pa_nil)))) (pw_or1 (pt_not (pt_val (pe_call GCan (hr.mono (by decide)) rfl aCan.m aCan.k aCan.b .nil pass0 (pa_cons (pv 2) (pa_cons (pv 4) pa_nil)))))))) (pss_one (L2N.ps_raise rfl (L2N.takes_of rfl rfl rfl rfl) (HG.pmk_oexN B.ox B.iC B.tI GB (hr.mono (by decide)) bB pass0 rfl B.mg (pa_cons (pv 3) pa_nil)))) (pss_nil))
            (pss_one (ps_set (i := 2) scWAf.nd rfl (Or.inl rfl) (pe_call GChd (hr.mono (by decide)) rfl aChd.m aChd.k aChd.b .nil pass0 (pa_cons (pv 2) (pa_cons (pv 4) pa_nil)))))))
            (pss_one (ps_ret (pv 2)))), ?_⟩
      refine ⟨_, rfl, o, C, dx, _, _, rfl, h1, R.cl, R.n1, lk_1, _, rfl, o, C, dx, _, _, rfl, h1, R.cl, R.n2, lk_2, _, rfl, o, C, dx, _, _, rfl, h1, R.cl, R.n3, lk_3, ?_⟩
      intro o1 dx1 hx1 hdx1 hne1
      refine ⟨o1, dx1, d, e, fs, ss, zs, _, rfl, upd_same, sm _ _ hx1 hdx1 hne1 _ _ h2, sm _ _ hx1 hdx1 hne1 _ _ h3, g, gs, nm, by omega, by omega, fun H1 fs1 ss1 kp pf ps sr1 sr2 wo => ⟨rfl, ?_⟩⟩
      have s1 : Same H H1 := fun b u hb => kp b u (sm _ _ hx1 hdx1 hne1 b u hb) fun e => by rw [e, hx1] at hb; cases hb
      have W1 : Wd C H1 o1 zs a n fs1 ss1 := ⟨wo, g.perm pf, gs.perm ps, by rw [pf.length_eq]; exact fl, by rw [ps.length_eq]; exact sl, fun p => by rw [fOf_perm nf pf g.nd]; exact hf p, fun q => by rw [sOf_perm ps gs.nd]; exact hs q, sr1, sr2⟩
      refine ⟨_, rfl, L, _, rfl, SqT.of (s1 _ _ hL), for_it (ET.walk_enumT (K := K) (a := L) (xs := xs)) (fun i σ H2 => ∃ o2 fs2 ss2 x3 x4, σ = [some (.ref o), some (.ref L), some (.ref o2), x3, x4] ∧ Same H H2 ∧ (runK zs a 0 (ks.take i)).2 = none ∧ Wd C H2 o2 zs (runK zs a 0 (ks.take i)).1 (n + i) fs2 ss2)
        ⟨o1, fs1, ss1, none, none, rfl, s1, rfl, W1⟩ (fun i σ H2 _ q => by obtain ⟨_, _, _, _, _, _, s2, _⟩ := q; exact SqT.of (s2 _ _ hL)) ?_ ?_⟩
      · rintro i y _ H2 H3 hi ⟨o2, fs2, ss2, x3, x4, rfl, s2, rn, W2⟩ ⟨T3, y0, y1, rfl, hT, rfl, hy0, hy1⟩
        cases hy0
        have hic : i < ks.length := by omega
        have hc : ks[i]? = some ks[i] := List.getElem?_eq_getElem hic
        have row := hx i y1 _ hy1 hc
        have s3 := same_mk (o := .tup [.int (i : Nat), y1]) hT
        have s23 := s2.trans s3
        have W3 := W2.same s3
        have tk : ks.take (i + 1) = ks.take i ++ [ks[i]] := by
          rw [List.take_succ, hc]
          rfl
        have tl0 : (ks.take i).length = i := by rw [List.length_take]; omega
        have nx := runK_snoc (zs := zs) (ks.take i) a 0 ks[i]
        rw [rn, ← tk] at nx
        have bad : stepK zs (runK zs a 0 (ks.take i)).1 ks[i] = none → (runK zs a 0 ks).2 = some i := fun h => by
          rw [h] at nx
          have e2 : (runK zs a 0 (ks.take (i + 1))).2 = some i := by
            rw [nx, tl0]
            show some (0 + i) = some i
            rw [Nat.zero_add]
          have := runK_app (zs := zs) (ks.take (i + 1)) (ks.drop (i + 1)) a 0 i e2
          rw [List.take_append_drop] at this
          rw [this, e2]
        refine ⟨T3, _, rfl, SqT.of upd_same, rfl, _, _, rfl, _, _, rfl, rfl, ?_⟩
        generalize upd H2 T3 (.tup [.int (i : Nat), y1]) = H4 at s3 s23 W3 ⊢
        have row4 := row.up s23
        have rz : ∀ {H5 : Hp}, Same H H5 → stepK zs (runK zs a 0 (ks.take i)).1 ks[i] = none → Wants H5 CB (.int (i : Nat)) E := fun s5 h => (want i (bad h)).up s5
        revert nx row4 rz
        generalize ks[i] = kk
        intro nx row4 rz
        cases kk with
        | none =>
          refine ⟨_, rfl, .inr ⟨y1, rfl, row4, fun H5 s5 => ⟨_, rfl, iteT ?_⟩⟩⟩
          exact ⟨_, rfl, by show 1 ≤ 1000; decide, fun b hb => ⟨b, _, rfl, upd_same, fun dx hdx hne => ⟨rfl, raise_at (Same.refl _) hb hdx hne (rz (s23.trans s5) rfl)⟩⟩⟩
        | some c =>
          refine ⟨_, rfl, .inl ⟨y1, c, rfl, row4.1, row4.2.ok nm, fun H5 s5 => ⟨_, rfl, iteF ?_⟩⟩⟩
          have W5 := W3.same s5
          have e1 : (⟨fOf fs2, sOf ss2, (runK zs a 0 (ks.take i)).1.z⟩ : St0) = (runK zs a 0 (ks.take i)).1 := by
            have q1 : fOf fs2 = (runK zs a 0 (ks.take i)).1.f := funext W2.f
            have q2 : sOf ss2 = (runK zs a 0 (ks.take i)).1.s := funext W2.s
            rw [q1, q2]
          refine ⟨_, rfl, _, rfl, o2, y1, zs, fs2, ss2, _, c, rfl, W5.wo, row4.1.up s5, W5.g, nm, by have := W5.fl; omega, row4.2, fun H6 b s6 cn => ⟨_, rfl, ?_⟩⟩
          rw [e1] at cn
          have s56 := s23.trans (s5.trans s6)
          by_cases cc : Can zs (runK zs a 0 (ks.take i)).1 c
          · rw [cn.mpr cc]
            refine iteF ?_
            have W6 := W5.same s6
            have st : stepK zs (runK zs a 0 (ks.take i)).1 (some c) = some ((runK zs a 0 (ks.take i)).1.do c) := if_pos cc
            rw [st] at nx
            refine ⟨_, rfl, _, rfl, o2, y1, zs, _, n + i, fs2, ss2, c, rfl, W6, row4.1.up (s5.trans s6), nm, by omega, cc, fun o7 H7 fs7 ss7 s7 W7 => ?_⟩
            refine ⟨o7, fs7, ss7, _, _, rfl, s56.trans s7, by rw [nx], ?_⟩
            rw [nx]
            exact W7
          · have b0 : b = false := by
              cases b with
              | false => rfl
              | true => exact absurd (cn.mp rfl) cc
            subst b0
            refine iteT ?_
            have st : stepK zs (runK zs a 0 (ks.take i)).1 (some c) = none := if_neg cc
            have s5 := s5.trans s6
            have H5 := H6
            exact ⟨_, rfl, by show 1 ≤ 1000; decide, fun b hb => ⟨b, _, rfl, upd_same, fun dx hdx hne => ⟨rfl, raise_at (Same.refl _) hb hdx hne (rz (s23.trans s5) st)⟩⟩⟩
      · rintro _ H2 ⟨o2, fs2, ss2, x3, x4, rfl, s2, rn, W2⟩
        rw [lx, List.take_length] at rn W2
        exact ⟨_, rfl, k rn o2 H2 fs2 ss2 s2 W2⟩
    · refine ⟨_, pss_cons (ps_set (i := 2) scWAf.nd rfl (Or.inl rfl) (pe_make mk GWIni (hr.mono (by decide)) rfl R.mg bWIni .nil pass0 (pa_cons (pe_fld (pv 0) rfl) (pa_cons (pe_fld (pv 0) rfl) (pa_cons (pe_fld (pv 0) rfl) pa_nil)))))
            (pss_cons (ps_for (passes_of rfl) rfl (pi_enum rfl T.enumerate (pa_cons (pv 1) pa_nil)) (pg_tup rfl (pgs_cons (pg_name (i := 3) scWAf.nd rfl (Or.inl rfl)) (pgs_cons (pg_name (i := 4) scWAf.nd rfl (Or.inl rfl)) pgs_nil))) (pss_cons (ps_if (PW.pt (pw_or (pt_not (pt_val (pe_call GIsCh (hr.mono (by decide)) rfl aIsCh.m aIsCh.k aIsCh.b .nil pass0 (pa_cons (pv 4) pa_nil)))) (pw_or1 (pt_not (pt_val (pe_call GCan (hr.mono (by decide)) rfl aCan.m aCan.k aCan.b .nil pass0 (pa_cons (pv 2) (pa_cons (pv 4) pa_nil)))))))) (pss_one (L2N.ps_raise rfl (L2N.takes_of rfl rfl rfl rfl) (HG.pmk_oexN B.ox B.iC B.tI GB (hr.mono (by decide)) bB pass0 rfl B.mg (pa_cons (pv 3) pa_nil)))) (pss_nil))
            (pss_one (ps_set (i := 2) scWAf.nd rfl (Or.inl rfl) (pe_call GChd (hr.mono (by decide)) rfl aChd.m aChd.k aChd.b .nil pass0 (pa_cons (pv 2) (pa_cons (pv 4) pa_nil)))))))
            (pss_one (ps_ret (pv 2)))), ?_⟩
      refine ⟨_, rfl, o, C, dx, _, _, rfl, h1, R.cl, R.n1, lk_1, _, rfl, o, C, dx, _, _, rfl, h1, R.cl, R.n2, lk_2, _, rfl, o, C, dx, _, _, rfl, h1, R.cl, R.n3, lk_3, ?_⟩
      intro o1 dx1 hx1 hdx1 hne1
      refine ⟨o1, dx1, d, e, fs, ss, zs, _, rfl, upd_same, sm _ _ hx1 hdx1 hne1 _ _ h2, sm _ _ hx1 hdx1 hne1 _ _ h3, g, gs, nm, by omega, by omega, fun H1 fs1 ss1 kp pf ps sr1 sr2 wo => ⟨rfl, ?_⟩⟩
      have s1 : Same H H1 := fun b u hb => kp b u (sm _ _ hx1 hdx1 hne1 b u hb) fun e => by rw [e, hx1] at hb; cases hb
      have W1 : Wd C H1 o1 zs a n fs1 ss1 := ⟨wo, g.perm pf, gs.perm ps, by rw [pf.length_eq]; exact fl, by rw [ps.length_eq]; exact sl, fun p => by rw [fOf_perm nf pf g.nd]; exact hf p, fun q => by rw [sOf_perm ps gs.nd]; exact hs q, sr1, sr2⟩
      refine ⟨_, rfl, L, _, rfl, SqL.of (s1 _ _ hL), for_it (walk_enum (K := K) (a := L) (xs := xs)) (fun i σ H2 => ∃ o2 fs2 ss2 x3 x4, σ = [some (.ref o), some (.ref L), some (.ref o2), x3, x4] ∧ Same H H2 ∧ (runK zs a 0 (ks.take i)).2 = none ∧ Wd C H2 o2 zs (runK zs a 0 (ks.take i)).1 (n + i) fs2 ss2)
        ⟨o1, fs1, ss1, none, none, rfl, s1, rfl, W1⟩ (fun i σ H2 _ q => by obtain ⟨_, _, _, _, _, _, s2, _⟩ := q; exact SqL.of (s2 _ _ hL)) ?_ ?_⟩
      · rintro i y _ H2 H3 hi ⟨o2, fs2, ss2, x3, x4, rfl, s2, rn, W2⟩ ⟨T3, y0, y1, rfl, hT, rfl, hy0, hy1⟩
        cases hy0
        have hic : i < ks.length := by omega
        have hc : ks[i]? = some ks[i] := List.getElem?_eq_getElem hic
        have row := hx i y1 _ hy1 hc
        have s3 := same_mk (o := .tup [.int (i : Nat), y1]) hT
        have s23 := s2.trans s3
        have W3 := W2.same s3
        have tk : ks.take (i + 1) = ks.take i ++ [ks[i]] := by
          rw [List.take_succ, hc]
          rfl
        have tl0 : (ks.take i).length = i := by rw [List.length_take]; omega
        have nx := runK_snoc (zs := zs) (ks.take i) a 0 ks[i]
        rw [rn, ← tk] at nx
        have bad : stepK zs (runK zs a 0 (ks.take i)).1 ks[i] = none → (runK zs a 0 ks).2 = some i := fun h => by
          rw [h] at nx
          have e2 : (runK zs a 0 (ks.take (i + 1))).2 = some i := by
            rw [nx, tl0]
            show some (0 + i) = some i
            rw [Nat.zero_add]
          have := runK_app (zs := zs) (ks.take (i + 1)) (ks.drop (i + 1)) a 0 i e2
          rw [List.take_append_drop] at this
          rw [this, e2]
        refine ⟨T3, _, rfl, SqT.of upd_same, rfl, _, _, rfl, _, _, rfl, rfl, ?_⟩
        generalize upd H2 T3 (.tup [.int (i : Nat), y1]) = H4 at s3 s23 W3 ⊢
        have row4 := row.up s23
        have rz : ∀ {H5 : Hp}, Same H H5 → stepK zs (runK zs a 0 (ks.take i)).1 ks[i] = none → Wants H5 CB (.int (i : Nat)) E := fun s5 h => (want i (bad h)).up s5
        revert nx row4 rz
        generalize ks[i] = kk
        intro nx row4 rz
        cases kk with
        | none =>
          refine ⟨_, rfl, .inr ⟨y1, rfl, row4, fun H5 s5 => ⟨_, rfl, iteT ?_⟩⟩⟩
          exact ⟨_, rfl, by show 1 ≤ 1000; decide, fun b hb => ⟨b, _, rfl, upd_same, fun dx hdx hne => ⟨rfl, raise_at (Same.refl _) hb hdx hne (rz (s23.trans s5) rfl)⟩⟩⟩
        | some c =>
          refine ⟨_, rfl, .inl ⟨y1, c, rfl, row4.1, row4.2.ok nm, fun H5 s5 => ⟨_, rfl, iteF ?_⟩⟩⟩
          have W5 := W3.same s5
          have e1 : (⟨fOf fs2, sOf ss2, (runK zs a 0 (ks.take i)).1.z⟩ : St0) = (runK zs a 0 (ks.take i)).1 := by
            have q1 : fOf fs2 = (runK zs a 0 (ks.take i)).1.f := funext W2.f
            have q2 : sOf ss2 = (runK zs a 0 (ks.take i)).1.s := funext W2.s
            rw [q1, q2]
          refine ⟨_, rfl, _, rfl, o2, y1, zs, fs2, ss2, _, c, rfl, W5.wo, row4.1.up s5, W5.g, nm, by have := W5.fl; omega, row4.2, fun H6 b s6 cn => ⟨_, rfl, ?_⟩⟩
          rw [e1] at cn
          have s56 := s23.trans (s5.trans s6)
          by_cases cc : Can zs (runK zs a 0 (ks.take i)).1 c
          · rw [cn.mpr cc]
            refine iteF ?_
            have W6 := W5.same s6
            have st : stepK zs (runK zs a 0 (ks.take i)).1 (some c) = some ((runK zs a 0 (ks.take i)).1.do c) := if_pos cc
            rw [st] at nx
            refine ⟨_, rfl, _, rfl, o2, y1, zs, _, n + i, fs2, ss2, c, rfl, W6, row4.1.up (s5.trans s6), nm, by omega, cc, fun o7 H7 fs7 ss7 s7 W7 => ?_⟩
            refine ⟨o7, fs7, ss7, _, _, rfl, s56.trans s7, by rw [nx], ?_⟩
            rw [nx]
            exact W7
          · have b0 : b = false := by
              cases b with
              | false => rfl
              | true => exact absurd (cn.mp rfl) cc
            subst b0
            refine iteT ?_
            have st : stepK zs (runK zs a 0 (ks.take i)).1 (some c) = none := if_neg cc
            have s5 := s5.trans s6
            have H5 := H6
            exact ⟨_, rfl, by show 1 ≤ 1000; decide, fun b hb => ⟨b, _, rfl, upd_same, fun dx hdx hne => ⟨rfl, raise_at (Same.refl _) hb hdx hne (rz (s23.trans s5) st)⟩⟩⟩
      · rintro _ H2 ⟨o2, fs2, ss2, x3, x4, rfl, s2, rn, W2⟩
        rw [lx, List.take_length] at rn W2
        exact ⟨_, rfl, k rn o2 H2 fs2 ss2 s2 W2⟩
end
end N4

set_option maxHeartbeats 3900000
namespace N4
open PySem PySem.Spec PyProof.Rows L2 TL RP
open C8 (pss_cut tCut pe_gc)
open CB
abbrev sOddC : Stmt := top 46
/-- what a row of things tells -/
def RowIs (zs : List Str) (xs : List V) : Option Ch → Prop
  | some c => xs = chV c ∧ ChIn zs c
  | none => OddR xs
/-- a thing that is drawn, new since H0, or its copy in a list (only where L is true, if it is a change); it stays where it is -/
inductive Th (zs : List Str) (K : PySem.W.Frag) (L : Bool) (st l : Addr) (H0 : Hp) (H : Hp) : V → Option Ch → Prop
  | non : Th zs K L st l H0 H .non none
  | int (i : Int) (f : Fine (.int i) 2 1000) : Th zs K L st l H0 H (.int i) none
  | str (z : Str) (f : Fine (.str z) 2 1000) : Th zs K L st l H0 H (.str z) none
  | tup {a : Addr} {xs : List V} {ds : List PyData} {k : Option Ch} (n0 : H0 a = none) (n1 : a ≠ st) (n2 : a ≠ l) (h : H a = some (.tup xs)) (o : RowIs zs xs k) (d : ∀ H, DqAll K H xs ds) (f : Fine (.tuple ds) 2 1000) (g : Fine (.list ds) 2 1000) : Th zs K L st l H0 H (.ref a) k
  | lst {a : Addr} {xs : List V} {ds : List PyData} {k : Option Ch} (n0 : H0 a = none) (n1 : a ≠ st) (n2 : a ≠ l) (h : H a = some (.lst xs)) (o : RowIs zs xs k) (d : ∀ H, DqAll K H xs ds) (f : Fine (.list ds) 2 1000) (q : L = true ∨ k = none) : Th zs K L st l H0 H (.ref a) k
  | dct {a : Addr} (n0 : H0 a = none) (n1 : a ≠ st) (n2 : a ≠ l) (h : H a = some (.dK [])) : Th zs K L st l H0 H (.ref a) none
section
variable {zs : List Str} {K : PySem.W.Frag} {L : Bool} {st l : Addr} {H0 H H' : Hp} {x : V} {k : Option Ch}
theorem Th.but (h : Th zs K L st l H0 H x k) (B : But st l H H') : Th zs K L st l H0 H' x k := by
  cases h with
  | non => exact .non
  | int i f => exact .int i f
  | str z f => exact .str z f
  | tup n0 n1 n2 h o d f g => exact .tup n0 n1 n2 (B _ _ h n1 n2) o d f g
  | lst n0 n1 n2 h o d f q => exact .lst n0 n1 n2 (B _ _ h n1 n2) o d f q
  | dct n0 n1 n2 h => exact .dct n0 n1 n2 (B _ _ h n1 n2)
theorem Th.put {a : Addr} {o : HO} (h : Th zs K L st l H0 H x k) (n : x ≠ .ref a) : Th zs K L st l H0 (upd H a o) x k := by
  have m : ∀ {b : Addr}, V.ref b ≠ V.ref a → b ≠ a := fun n e => n (by rw [e])
  cases h with
  | non => exact .non
  | int i f => exact .int i f
  | str z f => exact .str z f
  | tup n0 n1 n2 h o d f g => exact .tup n0 n1 n2 (by rw [upd_ne (m n)]; exact h) o d f g
  | lst n0 n1 n2 h o d f q => exact .lst n0 n1 n2 (by rw [upd_ne (m n)]; exact h) o d f q
  | dct n0 n1 n2 h => exact .dct n0 n1 n2 (by rw [upd_ne (m n)]; exact h)
theorem Th.new {a : Addr} (h : Th zs K L st l H0 H x k) (n : H a = none) : x ≠ .ref a := by
  intro e
  subst e
  cases h with
  | tup _ _ _ h _ _ _ _ => rw [n] at h; cases h
  | lst _ _ _ h _ _ _ _ => rw [n] at h; cases h
  | dct _ _ _ h => rw [n] at h; cases h
theorem Th.at (h : Th zs K L st l H0 H x k) : CkAt zs H x k := by
  cases h with
  | non => exact .no .non
  | int i f => exact .no (.int i)
  | str z f => exact .no (.str z)
  | dct n0 n1 n2 h => exact .no (.dct h)
  | @tup a xs ds k n0 n1 n2 h o d f g =>
    cases k with
    | none => exact .row ⟨a, rfl, .inl h⟩ o
    | some c =>
      obtain ⟨rfl, ci⟩ := o
      exact ⟨⟨a, rfl, .inl h⟩, ci⟩
  | @lst a xs ds k n0 n1 n2 h o d f q =>
    cases k with
    | none => exact .row ⟨a, rfl, .inr h⟩ o
    | some c =>
      obtain ⟨rfl, ci⟩ := o
      exact ⟨⟨a, rfl, .inr h⟩, ci⟩
/-- what is shown of it -/
theorem Th.shown (h : Th zs K L st l H0 H x k) : ∃ d, Fine d 2 1000 ∧ ∀ H', (∀ a o, x = .ref a → H a = some o → H' a = some o) → Dq K H' x d := by
  cases h with
  | non => exact ⟨.none, fine_non.up (by decide) (by decide), fun _ _ => .non⟩
  | int i f => exact ⟨_, f, fun _ _ => .int i⟩
  | str z f => exact ⟨_, f, fun _ _ => .str z⟩
  | dct n0 n1 n2 h => exact ⟨.dict [], ⟨by decide +kernel, by decide +kernel, by decide +kernel⟩, fun H' s => .dct (s _ _ rfl h) .nil⟩
  | tup n0 n1 n2 h o d f g => exact ⟨_, f, fun H' s => .tup (s _ _ rfl h) (d H')⟩
  | lst n0 n1 n2 h o d f q => exact ⟨_, f, fun H' s => .lst (s _ _ rfl h) (d H')⟩
theorem Th.wide (h : Th zs K false st l H0 H x k) : Th zs K true st l H0 H x k := by
  cases h with
  | non => exact .non
  | int i f => exact .int i f
  | str z f => exact .str z f
  | dct n0 n1 n2 h => exact .dct n0 n1 n2 h
  | tup n0 n1 n2 h o d f g => exact .tup n0 n1 n2 h o d f g
  | lst n0 n1 n2 h o d f q => exact .lst n0 n1 n2 h o d f (.inl rfl)
theorem Th.base {H1 : Hp} (h : Th zs K L st l H0 H x k) (b : ∀ a, H0 a = none → H1 a = none) : Th zs K L st l H1 H x k := by
  cases h with
  | non => exact .non
  | int i f => exact .int i f
  | str z f => exact .str z f
  | dct n0 n1 n2 h => exact .dct (b _ n0) n1 n2 h
  | tup n0 n1 n2 h o d f g => exact .tup (b _ n0) n1 n2 h o d f g
  | lst n0 n1 n2 h o d f q => exact .lst (b _ n0) n1 n2 h o d f q
theorem Th.old {a : Addr} (h : Th zs K L st l H0 H x k) (n : H0 a ≠ none) : x ≠ .ref a := by
  intro e
  subst e
  cases h with
  | tup n0 _ _ _ _ _ _ _ => exact n n0
  | lst n0 _ _ _ _ _ _ _ => exact n n0
  | dct n0 _ _ _ => exact n n0
theorem but_free {H G : Hp} {t : Addr} {c : Nat} (B : But st l H G) (S : Strm G st l c) (ht : G t = none) : H t = none := by
  obtain ⟨n1, n2⟩ := S.ne_new ht
  cases e : H t with
  | none => rfl
  | some u =>
    rw [B t u e n1 n2] at ht
    cases ht
end
theorem mk_odd {zs : List Str} {K : PySem.W.Frag} {st l : Addr} {H0 H : Hp} {c : Nat} {t : Addr} {xs : List V} {ds : List PyData} (B : But st l H0 H) (S : Strm H st l c) (ht : H t = none) (o : OddR xs) (d : ∀ H, DqAll K H xs ds) (f : Fine (.tuple ds) 2 1000) (g : Fine (.list ds) 2 1000) :
    Strm (upd H t (.tup xs)) st l c ∧ Same H (upd H t (.tup xs)) ∧ Th zs K false st l H0 (upd H t (.tup xs)) (.ref t) none :=
  ⟨S.up (same_mk ht), same_mk ht, .tup (but_free B S ht) (S.ne_new ht).1 (S.ne_new ht).2 upd_same o d f g⟩
theorem mk_oddL {zs : List Str} {K : PySem.W.Frag} {st l : Addr} {H0 H : Hp} {c : Nat} {t : Addr} {xs : List V} {ds : List PyData} (B : But st l H0 H) (S : Strm H st l c) (ht : H t = none) (o : OddR xs) (d : ∀ H, DqAll K H xs ds) (g : Fine (.list ds) 2 1000) :
    Strm (upd H t (.lst xs)) st l c ∧ Same H (upd H t (.lst xs)) ∧ Th zs K false st l H0 (upd H t (.lst xs)) (.ref t) none :=
  ⟨S.up (same_mk ht), same_mk ht, .lst (but_free B S ht) (S.ne_new ht).1 (S.ne_new ht).2 upd_same o d g (.inr rfl)⟩
theorem mk_oddD {zs : List Str} {K : PySem.W.Frag} {st l : Addr} {H0 H : Hp} {c : Nat} {t : Addr} (B : But st l H0 H) (S : Strm H st l c) (ht : H t = none) :
    Strm (upd H t (.dK [])) st l c ∧ Same H (upd H t (.dK [])) ∧ Th zs K false st l H0 (upd H t (.dK [])) (.ref t) none :=
  ⟨S.up (same_mk ht), same_mk ht, .dct (but_free B S ht) (S.ne_new ht).1 (S.ne_new ht).2 upd_same⟩
abbrev AllO (zs : List Str) (K : PySem.W.Frag) (st l : Addr) (H0 H : Hp) (xs : List V) : Prop := ∀ x ∈ xs, Th zs K false st l H0 H x none
theorem AllO.same {zs : List Str} {K : PySem.W.Frag} {st l : Addr} {H0 H H' : Hp} {xs : List V} (h : AllO zs K st l H0 H xs) (s : Same H H') : AllO zs K st l H0 H' xs := fun x hx => (h x hx).but (But.same s)
theorem AllO.ext {zs : List Str} {K : PySem.W.Frag} {st l L : Addr} {H0 H : Hp} {xs ys us : List V} (h : AllO zs K st l H0 H xs) (g : AllO zs K st l H0 H ys) (n : ∀ x ∈ xs, x ≠ .ref L) (m : ∀ x ∈ ys, x ≠ .ref L) : AllO zs K st l H0 (upd H L (.lst us)) (xs ++ ys) := fun y hy => by
  rcases List.mem_append.mp hy with q | q
  · exact (h y q).put (n y q)
  · exact (g y q).put (m y q)
def spOddC (K : PySem.W.Frag) : Sp := fun vs H Q _ => ∃ (st l p : Addr) (c : Nat) (zs : List Str), vs = [.ref st, .ref p] ∧ Strm H st l c ∧ c ≤ 800000 ∧ Pool H st l p zs ∧ 1 < zs.length ∧ zs.length < 1000 ∧ (∀ z ∈ zs, IsNm z) ∧
  ∀ (x : V) (H' : Hp), Th zs K false st l H H' x none → But st l H H' → Strm H' st l (c + 1) → Q x H'
theorem fineT {ds : List PyData} (h : ∀ d ∈ ds, Fine d 0 102) (n : ds.length ≤ 3) : Fine (.tuple ds) 2 1000 := (Fine.tup (m := 1000) h (by have : ds.length * (102 + 2) ≤ 3 * 104 := Nat.mul_le_mul n (Nat.le_refl _); omega)).up (by decide) (Nat.le_refl _)
theorem fineL {ds : List PyData} (h : ∀ d ∈ ds, Fine d 0 102) (n : ds.length ≤ 3) : Fine (.list ds) 2 1000 := (Fine.lst (m := 1000) h (by have : ds.length * (102 + 2) ≤ 3 * 104 := Nat.mul_le_mul n (Nat.le_refl _); omega)).up (by decide) (Nat.le_refl _)
theorem fine_nm {z : Str} (hz : IsNm z) : Fine (.str z) 0 102 := fine_str (n := 10) (fun c hc => by have := hz.2.2 c hc; omega) (by have := hz.2.1; omega)
section
variable {P : Program} {w : World} {K : PySem.W.Frag} {mg : Str → Option Value} {base : Heap} {fP : Addr} {fdP : FuncData}
theorem scOddC : FnScope ["_law_stream", "_law_pool_here", "_law_odd"] ["_law_stream", "_law_pool_here"] (defScope sOddC) := ⟨rfl, rfl, rfl, by decide +kernel, rfl, by decide +kernel, by decide +kernel⟩
theorem ok_oddC {f : Addr} {fd : FuncData} (F : Fun K "_law_odd_change" "_law_odd_change" sOddC f fd) (aP : At K mg "_law_pick" fP fdP ["_law_stream", "_law_things"]) (GP : FnOk P w K mg base CX0 2 fP fdP ["_law_stream", "_law_things"] spPick) : FnOk P w K mg base CX0 3 f fd ["_law_stream", "_law_pool_here"] (spOddC K) := by
  refine F.ok scOddC (fun vs H Q E h => ?_) (fun cdv A outer s H vs Q E hr h => ?_)
  · obtain ⟨st, l, p, c, zs, rfl, _⟩ := h
    rfl
  · obtain ⟨st, l, p, c, zs, rfl, S, hc, L, z0, z1, nm, k⟩ := h
    refine ⟨_, pss_cons (ps_set (i := 2) scOddC.nd rfl (Or.inl rfl) (pe_lst (pa_cons pe_non (pa_cons pe_int (pa_cons pe_str (pa_cons (pe_tup pa_nil) (pa_cons (pe_tup (pa_cons pe_str (pa_cons (pe_ix ix_list (pv 1) pe_int (fun _ _ => rfl)) pa_nil))) (pa_cons (pe_tup (pa_cons pe_str pa_nil)) (pa_cons (pe_tup (pa_cons pe_str (pa_cons (pe_ix ix_list (pv 1) pe_int (fun _ _ => rfl)) (pa_cons pe_str pa_nil)))) (pa_cons (pe_tup (pa_cons pe_str (pa_cons pe_str (pa_cons pe_str pa_nil)))) (pa_cons (pe_tup (pa_cons pe_str (pa_cons (pe_ix ix_list (pv 1) pe_int (fun _ _ => rfl)) pa_nil))) pa_nil)))))))))))
            (pss_cons (ps_expr (pe_bm PySem.F.plainAttrs_list PySem.F.slot_list_extend PySem.F.type_list_extend mt_extend (pv 2) (pa_cons (pe_lst (pa_cons (pe_tup (pa_cons pe_str (pa_cons (pe_ix ix_list (pv 1) pe_int (fun _ _ => rfl)) (pa_cons pe_non pa_nil)))) (pa_cons (pe_tup (pa_cons pe_str (pa_cons pe_str (pa_cons pe_str pa_nil)))) (pa_cons (pe_tup (pa_cons pe_str (pa_cons (pe_ix ix_list (pv 1) pe_int (fun _ _ => rfl)) (pa_cons pe_int pa_nil)))) (pa_cons (pe_tup (pa_cons pe_str (pa_cons pe_non pa_nil))) (pa_cons (pe_tup (pa_cons pe_str pa_nil)) (pa_cons pe_dnewK pa_nil))))))) pa_nil)))
            (pss_cons (ps_expr (pe_bm PySem.F.plainAttrs_list PySem.F.slot_list_extend PySem.F.type_list_extend mt_extend (pv 2) (pa_cons (pe_lst (pa_cons (pe_tup (pa_cons pe_str (pa_cons (pe_ix ix_list (pv 1) pe_int (fun _ _ => rfl)) (pa_cons (pe_ix ix_list (pv 1) pe_int (fun _ _ => rfl)) pa_nil)))) (pa_cons (pe_tup (pa_cons pe_str (pa_cons pe_str (pa_cons pe_str pa_nil)))) (pa_cons (pe_tup (pa_cons pe_str (pa_cons pe_int pa_nil))) (pa_cons (pe_lst (pa_cons pe_str (pa_cons (pe_ix ix_list (pv 1) pe_int (fun _ _ => rfl)) (pa_cons pe_int pa_nil)))) (pa_cons (pe_tup (pa_cons pe_str (pa_cons pe_str (pa_cons pe_str pa_nil)))) pa_nil)))))) pa_nil)))
            (pss_one (ps_ret (pe_call GP (hr.mono (by decide)) rfl aP.m aP.k aP.b .nil pass0 (pa_cons (pv 0) (pa_cons (pv 2) pa_nil))))))), ?_⟩
    obtain ⟨x, y, zr, rfl⟩ : ∃ x y zr, zs = x :: y :: zr := by
      match zs, z0 with
      | x :: y :: zr, _ => exact ⟨x, y, zr, rfl⟩
    have hz := nm x List.mem_cons_self
    have hy := nm y (List.mem_cons_of_mem _ List.mem_cons_self)
    have fx := fine_nm hz
    have fy := fine_nm hy
    have fc : ∀ z : Str, z ∈ (["", "x", "a/", "a/b", "put", "drop", "set", "tool", "move", "a", "b"] : List Str) → Fine (.str z) 0 102 := by
      intro z hz
      simp only [List.mem_cons, List.not_mem_nil, or_false] at hz
      rcases hz with rfl | rfl | rfl | rfl | rfl | rfl | rfl | rfl | rfl | rfl | rfl <;> exact ⟨by decide +kernel, by decide +kernel, by decide +kernel⟩
    have fN : Fine .none 0 102 := ⟨by decide +kernel, by decide +kernel, by decide +kernel⟩
    have f5 : Fine (.int 5) 0 102 := ⟨by decide +kernel, by decide +kernel, by decide +kernel⟩
    have IX : ∀ {G6 : Hp}, Same H G6 → SqL K G6 p ((x :: y :: zr).map V.str) := fun s => SqL.of (s _ _ L.h)
    refine ⟨by show 0 ≤ sizeLine; decide, fun t1 ht1 => ?_⟩
    have fi1 : ∀ d ∈ ([] : List PyData), Fine d 0 102 := (fun _ h => nomatch h)
    obtain ⟨S1, s1, o1⟩ := mk_odd (zs := x :: y :: zr) (K := K) (xs := []) (ds := []) (But.same (Same.refl _)) S ht1 .zero (fun _ => .nil) (fineT fi1 (by show 0 ≤ 3; decide)) (fineL fi1 (by show 0 ≤ 3; decide))
    generalize eH1 : upd H t1 (.tup []) = H1 at S1 s1 o1 ⊢
    refine ⟨_, rfl, p, _, ((0 : Nat) : Int), _, rfl, rfl, IX (s1), atI_nat (j := 0) rfl, by show 2 ≤ sizeLine; decide, fun t2 ht2 => ?_⟩
    have fi2 : ∀ d ∈ ([.str "put", .str x] : List PyData), Fine d 0 102 := (List.forall_mem_cons.mpr ⟨(fc _ (by decide +kernel)), (List.forall_mem_cons.mpr ⟨fx, (fun _ h => nomatch h)⟩)⟩)
    obtain ⟨S2, s2, o2⟩ := mk_odd (zs := x :: y :: zr) (K := K) (xs := [.str "put", .str x]) (ds := [.str "put", .str x]) (But.same (s1)) S1 ht2 (.two (.oth (by decide +kernel) (by decide +kernel) (by decide +kernel))) (fun _ => .cons (.str _) (.cons (.str _) .nil)) (fineT fi2 (by show 2 ≤ 3; decide)) (fineL fi2 (by show 2 ≤ 3; decide))
    generalize eH2 : upd H1 t2 (.tup [.str "put", .str x]) = H2 at S2 s2 o2 ⊢
    refine ⟨by show 1 ≤ sizeLine; decide, fun t3 ht3 => ?_⟩
    have fi3 : ∀ d ∈ ([.str "drop"] : List PyData), Fine d 0 102 := (List.forall_mem_cons.mpr ⟨(fc _ (by decide +kernel)), (fun _ h => nomatch h)⟩)
    obtain ⟨S3, s3, o3⟩ := mk_odd (zs := x :: y :: zr) (K := K) (xs := [.str "drop"]) (ds := [.str "drop"]) (But.same (s1.trans (s2))) S2 ht3 (.one _ (by decide +kernel)) (fun _ => .cons (.str _) .nil) (fineT fi3 (by show 1 ≤ 3; decide)) (fineL fi3 (by show 1 ≤ 3; decide))
    generalize eH3 : upd H2 t3 (.tup [.str "drop"]) = H3 at S3 s3 o3 ⊢
    refine ⟨_, rfl, p, _, ((0 : Nat) : Int), _, rfl, rfl, IX (s1.trans (s2.trans s3)), atI_nat (j := 0) rfl, by show 3 ≤ sizeLine; decide, fun t4 ht4 => ?_⟩
    have fi4 : ∀ d ∈ ([.str "drop", .str x, .str "x"] : List PyData), Fine d 0 102 := (List.forall_mem_cons.mpr ⟨(fc _ (by decide +kernel)), (List.forall_mem_cons.mpr ⟨fx, (List.forall_mem_cons.mpr ⟨(fc _ (by decide +kernel)), (fun _ h => nomatch h)⟩)⟩)⟩)
    obtain ⟨S4, s4, o4⟩ := mk_odd (zs := x :: y :: zr) (K := K) (xs := [.str "drop", .str x, .str "x"]) (ds := [.str "drop", .str x, .str "x"]) (But.same (s1.trans (s2.trans s3))) S3 ht4 (.three (.oth (by decide +kernel) (by decide +kernel) (by decide +kernel))) (fun _ => .cons (.str _) (.cons (.str _) (.cons (.str _) .nil))) (fineT fi4 (by show 3 ≤ 3; decide)) (fineL fi4 (by show 3 ≤ 3; decide))
    generalize eH4 : upd H3 t4 (.tup [.str "drop", .str x, .str "x"]) = H4 at S4 s4 o4 ⊢
    refine ⟨by show 3 ≤ sizeLine; decide, fun t5 ht5 => ?_⟩
    have fi5 : ∀ d ∈ ([.str "put", .str "", .str "x"] : List PyData), Fine d 0 102 := (List.forall_mem_cons.mpr ⟨(fc _ (by decide +kernel)), (List.forall_mem_cons.mpr ⟨(fc _ (by decide +kernel)), (List.forall_mem_cons.mpr ⟨(fc _ (by decide +kernel)), (fun _ h => nomatch h)⟩)⟩)⟩)
    obtain ⟨S5, s5, o5⟩ := mk_odd (zs := x :: y :: zr) (K := K) (xs := [.str "put", .str "", .str "x"]) (ds := [.str "put", .str "", .str "x"]) (But.same (s1.trans (s2.trans (s3.trans s4)))) S4 ht5 (.three .put0) (fun _ => .cons (.str _) (.cons (.str _) (.cons (.str _) .nil))) (fineT fi5 (by show 3 ≤ 3; decide)) (fineL fi5 (by show 3 ≤ 3; decide))
    generalize eH5 : upd H4 t5 (.tup [.str "put", .str "", .str "x"]) = H5 at S5 s5 o5 ⊢
    refine ⟨_, rfl, p, _, ((0 : Nat) : Int), _, rfl, rfl, IX (s1.trans (s2.trans (s3.trans (s4.trans s5)))), atI_nat (j := 0) rfl, by show 2 ≤ sizeLine; decide, fun t6 ht6 => ?_⟩
    have fi6 : ∀ d ∈ ([.str "set", .str x] : List PyData), Fine d 0 102 := (List.forall_mem_cons.mpr ⟨(fc _ (by decide +kernel)), (List.forall_mem_cons.mpr ⟨fx, (fun _ h => nomatch h)⟩)⟩)
    obtain ⟨S6, s6, o6⟩ := mk_odd (zs := x :: y :: zr) (K := K) (xs := [.str "set", .str x]) (ds := [.str "set", .str x]) (But.same (s1.trans (s2.trans (s3.trans (s4.trans s5))))) S5 ht6 (.two (.oth (by decide +kernel) (by decide +kernel) (by decide +kernel))) (fun _ => .cons (.str _) (.cons (.str _) .nil)) (fineT fi6 (by show 2 ≤ 3; decide)) (fineL fi6 (by show 2 ≤ 3; decide))
    generalize eH6 : upd H5 t6 (.tup [.str "set", .str x]) = H6 at S6 s6 o6 ⊢
    clear eH6 eH5 eH4 eH3 eH2 eH1
    have A1 : AllO (x :: y :: zr) K st l H H6 [.non, .int 5, .str "drop", .ref t1, .ref t2, .ref t3, .ref t4, .ref t5, .ref t6] := by
      simp only [AllO, List.forall_mem_cons, List.not_mem_nil, false_imp_iff, implies_true, and_true]
      exact ⟨.non, .int 5 (f5.up (by decide) (by decide)), .str "drop" ((fc _ (by decide +kernel)).up (by decide) (by decide)), o1.but (But.same (s2.trans (s3.trans (s4.trans (s5.trans s6))))), o2.but (But.same (s3.trans (s4.trans (s5.trans s6)))), o3.but (But.same (s4.trans (s5.trans s6))), o4.but (But.same (s5.trans s6)), o5.but (But.same (s6)), o6⟩
    have B07 : Same H H6 := s1.trans (s2.trans (s3.trans (s4.trans (s5.trans s6))))
    refine ⟨by show 9 ≤ sizeLine; decide, fun q hq => ?_⟩
    have nq := S6.ne_new hq
    have hq0 := B07.free hq
    have m1 : ∀ x ∈ ([.non, .int 5, .str "drop", .ref t1, .ref t2, .ref t3, .ref t4, .ref t5, .ref t6] : List V), x ≠ .ref q := fun x hx => (A1 x hx).new hq
    have sq := same_mk (o := .lst [.non, .int 5, .str "drop", .ref t1, .ref t2, .ref t3, .ref t4, .ref t5, .ref t6]) hq
    have A1 := A1.same sq
    have B07 := B07.trans sq
    have SS := S6.up sq
    have hq := upd_same (H := H6) (a := q) (o := .lst [.non, .int 5, .str "drop", .ref t1, .ref t2, .ref t3, .ref t4, .ref t5, .ref t6])
    generalize upd H6 q (.lst [.non, .int 5, .str "drop", .ref t1, .ref t2, .ref t3, .ref t4, .ref t5, .ref t6]) = G1 at A1 B07 SS hq ⊢
    obtain ⟨x1, l1, A1, m1, hq⟩ : ∃ x1 : List V, x1.length = 9 ∧ AllO (x :: y :: zr) K st l H G1 x1 ∧ (∀ x ∈ x1, x ≠ .ref q) ∧ G1 q = some (.lst x1) := ⟨_, by rfl, A1, m1, hq⟩
    have BH : But st l H G1 := But.same B07
    have hp0 := (L.but BH).h
    have IX : ∀ {G6 : Hp}, Same G1 G6 → SqL K G6 p ((x :: y :: zr).map V.str) := fun s => SqL.of (s _ _ hp0)
    refine ⟨_, rfl, ?_⟩
    refine ⟨.inl ⟨rfl, _, SqL.of hq⟩, _, rfl, p, _, ((0 : Nat) : Int), _, rfl, rfl, IX (Same.refl _), atI_nat (j := 0) rfl, by show 3 ≤ sizeLine; decide, fun t7 ht7 => ?_⟩
    have fi7 : ∀ d ∈ ([.str "put", .str x, .none] : List PyData), Fine d 0 102 := (List.forall_mem_cons.mpr ⟨(fc _ (by decide +kernel)), (List.forall_mem_cons.mpr ⟨fx, (List.forall_mem_cons.mpr ⟨fN, (fun _ h => nomatch h)⟩)⟩)⟩)
    obtain ⟨S7, s7, o7⟩ := mk_odd (zs := x :: y :: zr) (K := K) (xs := [.str "put", .str x, .non]) (ds := [.str "put", .str x, .none]) (BH.trans (But.same (Same.refl _))) SS ht7 (.three (.putN hz)) (fun _ => .cons (.str _) (.cons (.str _) (.cons .non .nil))) (fineT fi7 (by show 3 ≤ 3; decide)) (fineL fi7 (by show 3 ≤ 3; decide))
    generalize eH7 : upd G1 t7 (.tup [.str "put", .str x, .non]) = H7 at S7 s7 o7 ⊢
    refine ⟨by show 3 ≤ sizeLine; decide, fun t8 ht8 => ?_⟩
    have fi8 : ∀ d ∈ ([.str "set", .str "a/b", .str "x"] : List PyData), Fine d 0 102 := (List.forall_mem_cons.mpr ⟨(fc _ (by decide +kernel)), (List.forall_mem_cons.mpr ⟨(fc _ (by decide +kernel)), (List.forall_mem_cons.mpr ⟨(fc _ (by decide +kernel)), (fun _ h => nomatch h)⟩)⟩)⟩)
    obtain ⟨S8, s8, o8⟩ := mk_odd (zs := x :: y :: zr) (K := K) (xs := [.str "set", .str "a/b", .str "x"]) (ds := [.str "set", .str "a/b", .str "x"]) (BH.trans (But.same (s7))) S7 ht8 (.three .setB) (fun _ => .cons (.str _) (.cons (.str _) (.cons (.str _) .nil))) (fineT fi8 (by show 3 ≤ 3; decide)) (fineL fi8 (by show 3 ≤ 3; decide))
    generalize eH8 : upd H7 t8 (.tup [.str "set", .str "a/b", .str "x"]) = H8 at S8 s8 o8 ⊢
    refine ⟨_, rfl, p, _, ((0 : Nat) : Int), _, rfl, rfl, IX (s7.trans (s8)), atI_nat (j := 0) rfl, by show 3 ≤ sizeLine; decide, fun t9 ht9 => ?_⟩
    have fi9 : ∀ d ∈ ([.str "set", .str x, .int 5] : List PyData), Fine d 0 102 := (List.forall_mem_cons.mpr ⟨(fc _ (by decide +kernel)), (List.forall_mem_cons.mpr ⟨fx, (List.forall_mem_cons.mpr ⟨f5, (fun _ h => nomatch h)⟩)⟩)⟩)
    obtain ⟨S9, s9, o9⟩ := mk_odd (zs := x :: y :: zr) (K := K) (xs := [.str "set", .str x, .int 5]) (ds := [.str "set", .str x, .int 5]) (BH.trans (But.same (s7.trans (s8)))) S8 ht9 (.three (.setI hz 5)) (fun _ => .cons (.str _) (.cons (.str _) (.cons (.int 5) .nil))) (fineT fi9 (by show 3 ≤ 3; decide)) (fineL fi9 (by show 3 ≤ 3; decide))
    generalize eH9 : upd H8 t9 (.tup [.str "set", .str x, .int 5]) = H9 at S9 s9 o9 ⊢
    refine ⟨by show 2 ≤ sizeLine; decide, fun t10 ht10 => ?_⟩
    have fi10 : ∀ d ∈ ([.str "tool", .none] : List PyData), Fine d 0 102 := (List.forall_mem_cons.mpr ⟨(fc _ (by decide +kernel)), (List.forall_mem_cons.mpr ⟨fN, (fun _ h => nomatch h)⟩)⟩)
    obtain ⟨S10, s10, o10⟩ := mk_odd (zs := x :: y :: zr) (K := K) (xs := [.str "tool", .non]) (ds := [.str "tool", .none]) (BH.trans (But.same (s7.trans (s8.trans s9)))) S9 ht10 (.two .tool) (fun _ => .cons (.str _) (.cons .non .nil)) (fineT fi10 (by show 2 ≤ 3; decide)) (fineL fi10 (by show 2 ≤ 3; decide))
    generalize eH10 : upd H9 t10 (.tup [.str "tool", .non]) = H10 at S10 s10 o10 ⊢
    refine ⟨by show 1 ≤ sizeLine; decide, fun t11 ht11 => ?_⟩
    have fi11 : ∀ d ∈ ([.str "tool"] : List PyData), Fine d 0 102 := (List.forall_mem_cons.mpr ⟨(fc _ (by decide +kernel)), (fun _ h => nomatch h)⟩)
    obtain ⟨S11, s11, o11⟩ := mk_odd (zs := x :: y :: zr) (K := K) (xs := [.str "tool"]) (ds := [.str "tool"]) (BH.trans (But.same (s7.trans (s8.trans (s9.trans s10))))) S10 ht11 (.one _ (by decide +kernel)) (fun _ => .cons (.str _) .nil) (fineT fi11 (by show 1 ≤ 3; decide)) (fineL fi11 (by show 1 ≤ 3; decide))
    generalize eH11 : upd H10 t11 (.tup [.str "tool"]) = H11 at S11 s11 o11 ⊢
    refine fun t12 ht12 => ?_
    obtain ⟨S12, s12, o12⟩ := mk_oddD (zs := x :: y :: zr) (K := K) (BH.trans (But.same (s7.trans (s8.trans (s9.trans (s10.trans s11)))))) S11 ht12
    generalize eH12 : upd H11 t12 (.dK []) = H12 at S12 s12 o12 ⊢
    clear eH12 eH11 eH10 eH9 eH8 eH7
    have A2 : AllO (x :: y :: zr) K st l H H12 [.ref t7, .ref t8, .ref t9, .ref t10, .ref t11, .ref t12] := by
      simp only [AllO, List.forall_mem_cons, List.not_mem_nil, false_imp_iff, implies_true, and_true]
      exact ⟨o7.but (But.same (s8.trans (s9.trans (s10.trans (s11.trans s12))))), o8.but (But.same (s9.trans (s10.trans (s11.trans s12)))), o9.but (But.same (s10.trans (s11.trans s12))), o10.but (But.same (s11.trans s12)), o11.but (But.same (s12)), o12⟩
    have B2 : Same G1 H12 := s7.trans (s8.trans (s9.trans (s10.trans (s11.trans s12))))
    have nm2 : ∀ x ∈ ([.ref t7, .ref t8, .ref t9, .ref t10, .ref t11, .ref t12] : List V), x ≠ .ref q := by
      intro x hx e
      subst e
      simp only [List.mem_cons, List.not_mem_nil, or_false, V.ref.injEq] at hx
      rcases hx with rfl | rfl | rfl | rfl | rfl | rfl
      · rw [hq] at ht7; cases ht7
      · rw [(s7 _ _ hq)] at ht8; cases ht8
      · rw [((s7.trans (s8)) _ _ hq)] at ht9; cases ht9
      · rw [((s7.trans (s8.trans s9)) _ _ hq)] at ht10; cases ht10
      · rw [((s7.trans (s8.trans (s9.trans s10))) _ _ hq)] at ht11; cases ht11
      · rw [((s7.trans (s8.trans (s9.trans (s10.trans s11)))) _ _ hq)] at ht12; cases ht12
    refine ⟨by show 6 ≤ sizeLine; decide, fun r hr2 => ?_⟩
    have sr := same_mk (o := .lst [.ref t7, .ref t8, .ref t9, .ref t10, .ref t11, .ref t12]) hr2
    have hqr := (B2.trans sr) _ _ hq
    have A2 := A2.same sr
    have A1 := A1.same (B2.trans sr)
    have SS := S12.up sr
    have hrr := upd_same (H := H12) (a := r) (o := .lst [.ref t7, .ref t8, .ref t9, .ref t10, .ref t11, .ref t12])
    have B2 := B2.trans sr
    generalize upd H12 r (.lst [.ref t7, .ref t8, .ref t9, .ref t10, .ref t11, .ref t12]) = G2 at A1 A2 SS hqr hrr B2 ⊢
    clear sr
    refine ⟨q, r, x1, [.ref t7, .ref t8, .ref t9, .ref t10, .ref t11, .ref t12], rfl, rfl, hqr, hrr, by rw [l1]; show 9 + 6 ≤ sizeLine; decide, ?_⟩
    obtain ⟨x2, l1, A1, m1, hq, BH, SS⟩ : ∃ u : List V, u.length = 15 ∧ AllO (x :: y :: zr) K st l H (upd G2 q (.lst (x1 ++ [.ref t7, .ref t8, .ref t9, .ref t10, .ref t11, .ref t12]))) u ∧ (∀ x ∈ u, x ≠ .ref q) ∧ upd G2 q (.lst (x1 ++ [.ref t7, .ref t8, .ref t9, .ref t10, .ref t11, .ref t12])) q = some (.lst u) ∧ But st l H (upd G2 q (.lst (x1 ++ [.ref t7, .ref t8, .ref t9, .ref t10, .ref t11, .ref t12]))) ∧ Strm (upd G2 q (.lst (x1 ++ [.ref t7, .ref t8, .ref t9, .ref t10, .ref t11, .ref t12]))) st l c :=
      ⟨_, by rw [List.length_append, l1]; rfl, A1.ext A2 m1 nm2, fun x hx => (List.mem_append.mp hx).elim (m1 x) (nm2 x), upd_same, But.put (BH.trans (But.same B2)) hq0, SS.put nq⟩
    generalize upd G2 q (.lst (x1 ++ [.ref t7, .ref t8, .ref t9, .ref t10, .ref t11, .ref t12])) = G3 at A1 hq BH SS ⊢
    have hp0 := (L.but BH).h
    have IX : ∀ {G6 : Hp}, Same G3 G6 → SqL K G6 p ((x :: y :: zr).map V.str) := fun s => SqL.of (s _ _ hp0)
    refine ⟨_, rfl, ?_⟩
    refine ⟨.inl ⟨rfl, _, SqL.of hq⟩, _, rfl, p, _, ((0 : Nat) : Int), _, rfl, rfl, IX (Same.refl _), atI_nat (j := 0) rfl, _, rfl, p, _, ((1 : Nat) : Int), _, rfl, rfl, IX (Same.refl _), atI_nat (j := 1) rfl, by show 3 ≤ sizeLine; decide, fun t13 ht13 => ?_⟩
    have fi13 : ∀ d ∈ ([.str "move", .str x, .str y] : List PyData), Fine d 0 102 := (List.forall_mem_cons.mpr ⟨(fc _ (by decide +kernel)), (List.forall_mem_cons.mpr ⟨fx, (List.forall_mem_cons.mpr ⟨fy, (fun _ h => nomatch h)⟩)⟩)⟩)
    obtain ⟨S13, s13, o13⟩ := mk_odd (zs := x :: y :: zr) (K := K) (xs := [.str "move", .str x, .str y]) (ds := [.str "move", .str x, .str y]) (BH.trans (But.same (Same.refl _))) SS ht13 (.three (.oth (by decide +kernel) (by decide +kernel) (by decide +kernel))) (fun _ => .cons (.str _) (.cons (.str _) (.cons (.str _) .nil))) (fineT fi13 (by show 3 ≤ 3; decide)) (fineL fi13 (by show 3 ≤ 3; decide))
    generalize eH13 : upd G3 t13 (.tup [.str "move", .str x, .str y]) = H13 at S13 s13 o13 ⊢
    refine ⟨by show 3 ≤ sizeLine; decide, fun t14 ht14 => ?_⟩
    have fi14 : ∀ d ∈ ([.str "put", .str "a/", .str "x"] : List PyData), Fine d 0 102 := (List.forall_mem_cons.mpr ⟨(fc _ (by decide +kernel)), (List.forall_mem_cons.mpr ⟨(fc _ (by decide +kernel)), (List.forall_mem_cons.mpr ⟨(fc _ (by decide +kernel)), (fun _ h => nomatch h)⟩)⟩)⟩)
    obtain ⟨S14, s14, o14⟩ := mk_odd (zs := x :: y :: zr) (K := K) (xs := [.str "put", .str "a/", .str "x"]) (ds := [.str "put", .str "a/", .str "x"]) (BH.trans (But.same (s13))) S13 ht14 (.three .putA) (fun _ => .cons (.str _) (.cons (.str _) (.cons (.str _) .nil))) (fineT fi14 (by show 3 ≤ 3; decide)) (fineL fi14 (by show 3 ≤ 3; decide))
    generalize eH14 : upd H13 t14 (.tup [.str "put", .str "a/", .str "x"]) = H14 at S14 s14 o14 ⊢
    refine ⟨by show 2 ≤ sizeLine; decide, fun t15 ht15 => ?_⟩
    have fi15 : ∀ d ∈ ([.str "drop", .int 5] : List PyData), Fine d 0 102 := (List.forall_mem_cons.mpr ⟨(fc _ (by decide +kernel)), (List.forall_mem_cons.mpr ⟨f5, (fun _ h => nomatch h)⟩)⟩)
    obtain ⟨S15, s15, o15⟩ := mk_odd (zs := x :: y :: zr) (K := K) (xs := [.str "drop", .int 5]) (ds := [.str "drop", .int 5]) (BH.trans (But.same (s13.trans (s14)))) S14 ht15 (.two (.drop 5)) (fun _ => .cons (.str _) (.cons (.int 5) .nil)) (fineT fi15 (by show 2 ≤ 3; decide)) (fineL fi15 (by show 2 ≤ 3; decide))
    generalize eH15 : upd H14 t15 (.tup [.str "drop", .int 5]) = H15 at S15 s15 o15 ⊢
    refine ⟨_, rfl, p, _, ((0 : Nat) : Int), _, rfl, rfl, IX (s13.trans (s14.trans s15)), atI_nat (j := 0) rfl, by show 3 ≤ sizeLine; decide, fun t16 ht16 => ?_⟩
    have fi16 : ∀ d ∈ ([.str "put", .str x, .int 5] : List PyData), Fine d 0 102 := (List.forall_mem_cons.mpr ⟨(fc _ (by decide +kernel)), (List.forall_mem_cons.mpr ⟨fx, (List.forall_mem_cons.mpr ⟨f5, (fun _ h => nomatch h)⟩)⟩)⟩)
    obtain ⟨S16, s16, o16⟩ := mk_oddL (zs := x :: y :: zr) (K := K) (xs := [.str "put", .str x, .int 5]) (ds := [.str "put", .str x, .int 5]) (BH.trans (But.same (s13.trans (s14.trans s15)))) S15 ht16 (.three (.putI hz 5)) (fun _ => .cons (.str _) (.cons (.str _) (.cons (.int 5) .nil))) (fineL fi16 (by show 3 ≤ 3; decide))
    generalize eH16 : upd H15 t16 (.lst [.str "put", .str x, .int 5]) = H16 at S16 s16 o16 ⊢
    refine ⟨by show 3 ≤ sizeLine; decide, fun t17 ht17 => ?_⟩
    have fi17 : ∀ d ∈ ([.str "tool", .str "a", .str "b"] : List PyData), Fine d 0 102 := (List.forall_mem_cons.mpr ⟨(fc _ (by decide +kernel)), (List.forall_mem_cons.mpr ⟨(fc _ (by decide +kernel)), (List.forall_mem_cons.mpr ⟨(fc _ (by decide +kernel)), (fun _ h => nomatch h)⟩)⟩)⟩)
    obtain ⟨S17, s17, o17⟩ := mk_odd (zs := x :: y :: zr) (K := K) (xs := [.str "tool", .str "a", .str "b"]) (ds := [.str "tool", .str "a", .str "b"]) (BH.trans (But.same (s13.trans (s14.trans (s15.trans s16))))) S16 ht17 (.three (.oth (by decide +kernel) (by decide +kernel) (by decide +kernel))) (fun _ => .cons (.str _) (.cons (.str _) (.cons (.str _) .nil))) (fineT fi17 (by show 3 ≤ 3; decide)) (fineL fi17 (by show 3 ≤ 3; decide))
    generalize eH17 : upd H16 t17 (.tup [.str "tool", .str "a", .str "b"]) = H17 at S17 s17 o17 ⊢
    clear eH17 eH16 eH15 eH14 eH13
    have A2 : AllO (x :: y :: zr) K st l H H17 [.ref t13, .ref t14, .ref t15, .ref t16, .ref t17] := by
      simp only [AllO, List.forall_mem_cons, List.not_mem_nil, false_imp_iff, implies_true, and_true]
      exact ⟨o13.but (But.same (s14.trans (s15.trans (s16.trans s17)))), o14.but (But.same (s15.trans (s16.trans s17))), o15.but (But.same (s16.trans s17)), o16.but (But.same (s17)), o17⟩
    have B2 : Same G3 H17 := s13.trans (s14.trans (s15.trans (s16.trans s17)))
    have nm2 : ∀ x ∈ ([.ref t13, .ref t14, .ref t15, .ref t16, .ref t17] : List V), x ≠ .ref q := by
      intro x hx e
      subst e
      simp only [List.mem_cons, List.not_mem_nil, or_false, V.ref.injEq] at hx
      rcases hx with rfl | rfl | rfl | rfl | rfl
      · rw [hq] at ht13; cases ht13
      · rw [(s13 _ _ hq)] at ht14; cases ht14
      · rw [((s13.trans (s14)) _ _ hq)] at ht15; cases ht15
      · rw [((s13.trans (s14.trans s15)) _ _ hq)] at ht16; cases ht16
      · rw [((s13.trans (s14.trans (s15.trans s16))) _ _ hq)] at ht17; cases ht17
    refine ⟨by show 5 ≤ sizeLine; decide, fun r hr2 => ?_⟩
    have sr := same_mk (o := .lst [.ref t13, .ref t14, .ref t15, .ref t16, .ref t17]) hr2
    have hqr := (B2.trans sr) _ _ hq
    have A2 := A2.same sr
    have A1 := A1.same (B2.trans sr)
    have SS := S17.up sr
    have hrr := upd_same (H := H17) (a := r) (o := .lst [.ref t13, .ref t14, .ref t15, .ref t16, .ref t17])
    have B2 := B2.trans sr
    generalize upd H17 r (.lst [.ref t13, .ref t14, .ref t15, .ref t16, .ref t17]) = G2 at A1 A2 SS hqr hrr B2 ⊢
    clear sr
    refine ⟨q, r, x2, [.ref t13, .ref t14, .ref t15, .ref t16, .ref t17], rfl, rfl, hqr, hrr, by rw [l1]; show 15 + 5 ≤ sizeLine; decide, ?_⟩
    obtain ⟨x3, l1, A1, m1, hq, BH, SS⟩ : ∃ u : List V, u.length = 20 ∧ AllO (x :: y :: zr) K st l H (upd G2 q (.lst (x2 ++ [.ref t13, .ref t14, .ref t15, .ref t16, .ref t17]))) u ∧ (∀ x ∈ u, x ≠ .ref q) ∧ upd G2 q (.lst (x2 ++ [.ref t13, .ref t14, .ref t15, .ref t16, .ref t17])) q = some (.lst u) ∧ But st l H (upd G2 q (.lst (x2 ++ [.ref t13, .ref t14, .ref t15, .ref t16, .ref t17]))) ∧ Strm (upd G2 q (.lst (x2 ++ [.ref t13, .ref t14, .ref t15, .ref t16, .ref t17]))) st l c :=
      ⟨_, by rw [List.length_append, l1]; rfl, A1.ext A2 m1 nm2, fun x hx => (List.mem_append.mp hx).elim (m1 x) (nm2 x), upd_same, But.put (BH.trans (But.same B2)) hq0, SS.put nq⟩
    generalize upd G2 q (.lst (x2 ++ [.ref t13, .ref t14, .ref t15, .ref t16, .ref t17])) = G5 at A1 hq BH SS ⊢
    refine ⟨_, rfl, _, rfl, .inl ⟨st, l, c, q, x3, rfl, SS, by omega, hq, nq.1, nq.2, by rw [l1]; decide, by rw [l1]; decide, fun i x H' hx B S' => ?_⟩⟩
    exact k x H' ((A1 x (List.mem_of_getElem? hx)).but B) (BH.trans B) S'
end
end N4

set_option maxHeartbeats 3900000
namespace N4
open PySem PySem.Spec PyProof.Rows L2 TL RP
open C8 (pss_cut tCut pe_gc)
open CB
abbrev sChange : Stmt := top 47
def chDs : Ch → List PyData
  | .put p t => [.str "put", .str (js p), .str t]
  | .drop p => [.str "drop", .str (js p)]
  | .set n t => [.str "set", .str n, oD t]
  | .tool t => [.str "tool", .str t]
theorem chDs_len (c : Ch) : (chDs c).length ≤ 3 := by
  cases c with
  | put p t => exact Nat.le_refl 3
  | drop p => exact Nat.le_succ 2
  | set n t => exact Nat.le_refl 3
  | tool t => exact Nat.le_succ 2
theorem chDs_dq {K : PySem.W.Frag} {H : Hp} (c : Ch) : DqAll K H (chV c) (chDs c) := by
  cases c with
  | put p t => exact .cons (.str _) (.cons (.str _) (.cons (.str _) .nil))
  | drop p => exact .cons (.str _) (.cons (.str _) .nil)
  | tool t => exact .cons (.str _) (.cons (.str _) .nil)
  | set n t =>
    cases t with
    | none => exact .cons (.str _) (.cons (.str _) (.cons .non .nil))
    | some x => exact .cons (.str _) (.cons (.str _) (.cons (.str _) .nil))
theorem chDs_fine {zs : List Str} {c : Ch} (h : ChIn zs c) (nm : ∀ y ∈ zs, IsNm y) : ∀ d ∈ chDs c, Fine d 0 310 := by
  have fw : ∀ z : Str, z ∈ (["put", "drop", "set", "tool"] : List Str) → Fine (.str z) 0 310 := by
    intro z hz
    simp only [List.mem_cons, List.not_mem_nil, or_false] at hz
    rcases hz with rfl | rfl | rfl | rfl <;> exact ⟨by decide +kernel, by decide +kernel, by decide +kernel⟩
  have fp : ∀ p : List Str, PathOn zs p → Fine (.str (js p)) 0 310 := fun p hp => by
    have np : Nms p := fun y hy => nm y (hp.2.2 y hy)
    refine (fine_str (n := 30) (fun c hc => ?_) ?_).up (Nat.le_refl _) (by decide)
    · rw [tl_js] at hc
      have := jl_small np c hc
      omega
    · have := js_len np
      have := hp.2.1
      omega
  have ft : ∀ t, t ∈ texts → Fine (.str t) 0 310 := fun t ht => by
    obtain ⟨q1, q2, q3⟩ := texts_fine t ht
    exact (Fine.mk q1 q2 q3).up (Nat.le_refl _) (by decide)
  have fz : ∀ t, t ∈ tools → Fine (.str t) 0 310 := fun t ht => by
    obtain ⟨q1, q2, q3⟩ := tools_fine t ht
    exact (Fine.mk q1 q2 q3).up (Nat.le_refl _) (by decide)
  have fn : ∀ n, IsNm n → Fine (.str n) 0 310 := fun n hn => (fine_nm hn).up (Nat.le_refl _) (by decide)
  have nil : ∀ d ∈ ([] : List PyData), Fine d 0 310 := fun _ h => nomatch h
  cases c with
  | put p t => exact List.forall_mem_cons.mpr ⟨fw _ (by decide +kernel), List.forall_mem_cons.mpr ⟨fp p h.1, List.forall_mem_cons.mpr ⟨ft t h.2, nil⟩⟩⟩
  | drop p => exact List.forall_mem_cons.mpr ⟨fw _ (by decide +kernel), List.forall_mem_cons.mpr ⟨fp p h, nil⟩⟩
  | tool t => exact List.forall_mem_cons.mpr ⟨fw _ (by decide +kernel), List.forall_mem_cons.mpr ⟨fz t h, nil⟩⟩
  | set n t =>
    refine List.forall_mem_cons.mpr ⟨fw _ (by decide +kernel), List.forall_mem_cons.mpr ⟨fn n (nm n h.1), List.forall_mem_cons.mpr ⟨?_, nil⟩⟩⟩
    cases t with
    | none => exact fine_non.up (Nat.le_refl _) (by decide)
    | some x => exact ft x (h.2 x rfl)
theorem th_ch {zs : List Str} {K : PySem.W.Frag} {st l a : Addr} {H0 H : Hp} {c : Ch} (n0 : H0 a = none) (n1 : a ≠ st) (n2 : a ≠ l) (h : H a = some (.tup (chV c))) (ci : ChIn zs c) (nm : ∀ y ∈ zs, IsNm y) : Th zs K false st l H0 H (.ref a) (some c) := by
  have f := chDs_fine ci nm
  have n := chDs_len c
  have m : (chDs c).length * (310 + 2) ≤ 3 * 312 := Nat.mul_le_mul n (Nat.le_refl _)
  exact .tup n0 n1 n2 h ⟨rfl, ci⟩ (fun _ => chDs_dq c) ((Fine.tup (m := 1000) f (by omega)).up (by decide) (Nat.le_refl _)) ((Fine.lst (m := 1000) f (by omega)).up (by decide) (Nat.le_refl _))
theorem dep_texts : ∀ l : List Str, PyData.depthAll (l.map .str) ≤ 1
  | [] => by simp [PyData.depthAll]
  | z :: r => by
    have q := dep_texts r
    simp only [List.map_cons, PyData.depthAll, PyData.depth]
    omega
theorem shaped_texts (l : List Str) (hl : ∀ z ∈ l, Okz z) : SeqAt.shaped (strL l) = true := by
  have q : PyData.depth (.list (l.map .str)) ≤ 64 := by
    have := dep_texts l
    simp only [PyData.depth]
    omega
  show (PyData.canLay0 (.list (l.map .str)) && decide (PyData.depth (.list (l.map .str)) ≤ 64)) = true
  rw [Bool.and_eq_true]
  exact ⟨by simp only [PyData.canLay0]; exact lay_strs l hl, decide_eq_true q⟩
theorem eqv_empty (l : List Str) : PyData.eqv (strL l) (strL []) = decide (l = []) := by
  cases l with
  | nil => simp [strL, PyData.eqv, PyData.eqvAll]
  | cons z r => simp [strL, PyData.eqv, PyData.eqvAll]
theorem dp_texts {K : PySem.W.Frag} {H : Hp} : ∀ l : List Str, DpAll K H (l.map V.str) (l.map PyData.str)
  | [] => .nil
  | z :: r => .cons (.str z) (dp_texts r)
def spChange (K : PySem.W.Frag) : Sp := fun vs H Q _ => ∃ (st l p x : Addr) (c : Nat) (zs : List Str) (fs : Fs) (ss : Ss) (z : Str), vs = [.ref st, .ref p, .ref x] ∧ Strm H st l c ∧ c ≤ 700000 ∧ Pool H st l p zs ∧ zs.length = 3 ∧ (∀ y ∈ zs, IsNm y) ∧ WAt H x fs ss z ∧ GoodF zs fs ∧ fs.length ≤ 50 ∧
  ∀ (v : V) (k : Option Ch) (H' : Hp) (c' : Nat), Th zs K false st l H H' v k → But st l H H' → Strm H' st l c' → c' ≤ c + 10 → Q v H'
section
variable {P : Program} {w : World} {K : PySem.W.Frag} {mg : Str → Option Value} {base : Heap}
theorem scChange : FnScope ["_law_stream", "_law_pool_here", "_law_w", "_law_way", "_law_paths"] ["_law_stream", "_law_pool_here", "_law_w"] (defScope sChange) := ⟨rfl, rfl, rfl, by decide +kernel, rfl, by decide +kernel, by decide +kernel⟩
theorem ok_change {f fD fP fPa fTe fO : Addr} {fd fdD fdP fdPa fdTe fdO : FuncData} (F : Fun K "_law_change" "_law_change" sChange f fd) (T : TB mg) (aD : aD' K mg fD fdD) (GD : FnOk P w K mg base CX0 1 fD fdD ["_law_stream", "_law_many"] spDraw)
    (aP : At K mg "_law_pick" fP fdP ["_law_stream", "_law_things"]) (GP : FnOk P w K mg base CX0 2 fP fdP ["_law_stream", "_law_things"] spPick) (aPa : At K mg "_law_path" fPa fdPa ["_law_stream", "_law_pool_here", "_law_most"]) (GPa : FnOk P w K mg base CX0 3 fPa fdPa ["_law_stream", "_law_pool_here", "_law_most"] spPath)
    (aTe : At K mg "_law_text" fTe fdTe ["_law_stream"]) (GTe : FnOk P w K mg base CX0 2 fTe fdTe ["_law_stream"] spText) (aOddC : At K mg "_law_odd_change" fO fdO ["_law_stream", "_law_pool_here"]) (GOddC : FnOk P w K mg base CX0 3 fO fdO ["_law_stream", "_law_pool_here"] (spOddC K)) : FnOk P w K mg base CX0 4 f fd ["_law_stream", "_law_pool_here", "_law_w"] (spChange K) := by
  refine F.ok scChange (fun vs H Q E h => ?_) (fun cdv A outer s H vs Q E hr h => ?_)
  · obtain ⟨st, l, p, x, c, zs, fs, ss, z, rfl, _⟩ := h
    rfl
  · obtain ⟨st, l, p, x, c, zs, fs, ss, z, rfl, S, hc, L, zl, nm, wa, g, fl, k⟩ := h
    have hu := hr.units
    have hu1 := Nat.lt_of_le_of_lt (Nat.add_le_add_left (show 1 ≤ 64 by decide) _) hr.units
    refine ⟨_, pss_cons (ps_par (i := 3) (j := 4) (by rfl) scChange.nd rfl rfl (by decide) rfl rfl (pa_cons (pe_call GD (hr.mono (by decide)) rfl aD.m aD.k aD.b .nil pass0 (pa_cons (pv 0) (pa_cons pe_int pa_nil))) (pa_cons (pe_callTy (call_list_dK rfl) (by rfl) T.list (by decide +kernel) (pa_cons (pe_dget hu1 (pv 2) pe_str (fun _ _ => rfl)) pa_nil)) pa_nil)) (by rfl))
            (pss_cons (ps_if (pt_cmpR op_eq (pv 3) pe_int (nomark _)) (pss_one (ps_ret (pe_call GOddC (hr.mono (by decide)) rfl aOddC.m aOddC.k aOddC.b .nil pass0 (pa_cons (pv 0) (pa_cons (pv 1) pa_nil))))) (pss_nil))
            (pss_cons (ps_if (pt_cmpR op_lt (pv 3) pe_int (nomark _)) (pss_one (ps_ret (pe_tup (pa_cons pe_str (pa_cons (pe_call GP (hr.mono (by decide)) rfl aP.m aP.k aP.b .nil pass0 (pa_cons (pv 0) (pa_cons (pv 1) pa_nil))) (pa_cons (pe_ifExp (pt_cmpR op_eq (pe_call GD (hr.mono (by decide)) rfl aD.m aD.k aD.b .nil pass0 (pa_cons (pv 0) (pa_cons pe_int pa_nil))) pe_int (nomark _)) pe_non (pe_call GTe (hr.mono (by decide)) rfl aTe.m aTe.k aTe.b .nil pass0 (pa_cons (pv 0) pa_nil))) pa_nil)))))) (pss_nil))
            (pss_cons (ps_if (pt_cmpR op_eq (pv 3) pe_int (nomark _)) (pss_one (ps_ret (pe_tup (pa_cons pe_str (pa_cons (pe_ix ix_list (pe_lst (pa_cons pe_str (pa_cons pe_str (pa_cons pe_str pa_nil)))) (pe_call GD (hr.mono (by decide)) rfl aD.m aD.k aD.b .nil pass0 (pa_cons (pv 0) (pa_cons pe_int pa_nil))) (fun _ _ => rfl)) pa_nil))))) (pss_nil))
            (pss_cons (ps_if (PW.pt (pw_and (pt_cmpR op_lt (pv 3) pe_int (nomark _)) (pw_and1 (pt_cmpR (op_neD hu) (pv 4) (pe_lst pa_nil) (nomark _))))) (pss_one (ps_ret (pe_tup (pa_cons pe_str (pa_cons (pe_call GP (hr.mono (by decide)) rfl aP.m aP.k aP.b .nil pass0 (pa_cons (pv 0) (pa_cons (pv 4) pa_nil))) pa_nil))))) (pss_nil))
            (pss_cons (ps_if (pt_cmpR op_eq (pv 3) pe_int (nomark _)) (pss_one (ps_ret (pe_tup (pa_cons pe_str (pa_cons (pe_call GPa (hr.mono (by decide)) rfl aPa.m aPa.k aPa.b .nil pass0 (pa_cons (pv 0) (pa_cons (pv 1) (pa_cons pe_int pa_nil)))) pa_nil))))) (pss_nil))
            (pss_one (ps_ret (pe_tup (pa_cons pe_str (pa_cons (pe_call GPa (hr.mono (by decide)) rfl aPa.m aPa.k aPa.b .nil pass0 (pa_cons (pv 0) (pa_cons (pv 1) (pa_cons pe_int pa_nil)))) (pa_cons (pe_call GTe (hr.mono (by decide)) rfl aTe.m aTe.k aTe.b .nil pass0 (pa_cons (pv 0) pa_nil)) pa_nil))))))))))), ?_⟩
    obtain ⟨d0, e0, hx, hd0, he0⟩ := id wa
    have z0 : 0 < zs.length := by omega
    have z1 : zs.length < 1000 := by omega
    refine ⟨_, rfl, st, l, c, 12, rfl, S, by omega, by decide, by decide, fun n H1 n0 n1 B1 S1 => ?_⟩
    obtain ⟨n, rfl⟩ := Int.eq_ofNat_of_zero_le n0
    have h1x := dk_but S B1 hx
    have h1d := dk_but S B1 hd0
    refine ⟨_, rfl, x, _, rfl, wd_f h1x, d0, _, rfl, h1d, fun q nq => ?_⟩
    have keq : ((fsK fs).map fun kv => kV kv.1) = (fs.map fun e => js e.1).map V.str := by
      unfold fsK
      rw [List.map_map, List.map_map]
      rfl
    rw [keq]
    have s2 := same_mk (o := .lst ((fs.map fun e => js e.1).map V.str)) nq
    have hq := upd_same (H := H1) (a := q) (o := .lst ((fs.map fun e => js e.1).map V.str))
    have nq2 := S1.ne_new nq
    have S2 := S1.up s2
    have B2 := B1.trans (But.same s2)
    generalize upd H1 q (.lst ((fs.map fun e => js e.1).map V.str)) = H2 at s2 hq S2 B2 ⊢
    clear s2 h1x h1d
    have L2 := L.but B2
    have pathOf : ∀ (ys : List Str), 1 ≤ ys.length → ys.length ≤ 3 → (∀ y ∈ ys, y ∈ zs) → PathOn zs ys := fun ys y1 y3 yz => ⟨by rintro rfl; simp at y1, y3, yz⟩
    refine ⟨_, _, rfl, ?_⟩
    refine ⟨_, rfl, rfl, _, rfl, ite2 (fun _ => ?_) (fun _ => ?_)⟩
    · exact ⟨_, rfl, _, rfl, st, l, p, c + 1, zs, rfl, S2, by omega, L2, by omega, z1, nm, fun v H3 th B3 S3 => k v none H3 (c + 1 + 1) (th.base fun _ n => but_free B2 S2 n) (B2.trans B3) S3 (by omega)⟩
    refine ⟨_, rfl, _, _, rfl, rfl, _, rfl, ite2 (fun _ => ?_) (fun _ => ?_)⟩
    · refine ⟨_, rfl, _, rfl, .inl ⟨st, l, c + 1, p, _, rfl, S2, by omega, L2.h, L2.n1, L2.n2, by rw [List.length_map]; exact z0, by rw [List.length_map]; exact z1, fun i n0 H3 hn B3 S3 => ?_⟩⟩
      obtain ⟨y, hy, rfl⟩ : ∃ y ∈ zs, n0 = .str y := by
        rw [List.getElem?_map] at hn
        obtain ⟨y, hy, e⟩ := Option.map_eq_some_iff.mp hn
        exact ⟨y, List.mem_of_getElem? hy, e.symm⟩
      have B23 := B2.trans B3
      refine ⟨_, rfl, st, l, c + 2, 3, rfl, S3, by omega, by decide, by decide, fun m H4 m0 m1 B4 S4 => ⟨rfl, _, rfl, ite2 (fun _ => ?_) (fun _ => ?_)⟩⟩
      · refine ⟨by show 3 ≤ sizeLine; decide, fun t nt => ?_⟩
        have nt2 := S4.ne_new nt
        exact k (.ref t) (some (.set y none)) _ (c + 3) (th_ch (but_free (B23.trans B4) S4 nt) nt2.1 nt2.2 upd_same ⟨hy, fun _ h => nomatch h⟩ nm) ((B23.trans B4).trans (But.same (same_mk nt))) (S4.up (same_mk nt)) (by omega)
      · refine ⟨_, rfl, st, l, c + 3, rfl, S4, by omega, fun tx H5 ht B5 S5 => ⟨by show 3 ≤ sizeLine; decide, fun t nt => ?_⟩⟩
        have nt2 := S5.ne_new nt
        exact k (.ref t) (some (.set y (some tx))) _ (c + 4) (th_ch (but_free ((B23.trans B4).trans B5) S5 nt) nt2.1 nt2.2 upd_same ⟨hy, fun _ h => by cases h; exact ht⟩ nm) (((B23.trans B4).trans B5).trans (But.same (same_mk nt))) (S5.up (same_mk nt)) (by omega)
    refine ⟨_, rfl, rfl, _, rfl, ite2 (fun _ => ?_) (fun _ => ?_)⟩
    · refine ⟨by show 3 ≤ sizeLine; decide, fun r nr => ?_⟩
      have sr := same_mk (o := .lst [.str "", .str "1", .str "2"]) nr
      have gr := upd_same (H := H2) (a := r) (o := .lst [.str "", .str "1", .str "2"])
      have nr2 := S2.ne_new nr
      have S3 := S2.up sr
      have B3 := B2.trans (But.same sr)
      generalize upd H2 r (.lst [.str "", .str "1", .str "2"]) = H3 at sr gr S3 B3 ⊢
      refine ⟨_, rfl, st, l, c + 1, 3, rfl, S3, by omega, by decide, by decide, fun m H4 m0 m1 B4 S4 => ?_⟩
      obtain ⟨m, rfl⟩ := Int.eq_ofNat_of_zero_le m0
      have g4 := B4 _ _ gr nr2.1 nr2.2
      have fin : ∀ z, z ∈ tools → ∀ t, H4 t = none → Q (.ref t) (upd H4 t (.tup [.str "tool", .str z])) := fun z hz t nt => by
        have nt2 := S4.ne_new nt
        exact k (.ref t) (some (.tool z)) _ (c + 2) (th_ch (but_free (B3.trans B4) S4 nt) nt2.1 nt2.2 upd_same hz nm) ((B3.trans B4).trans (But.same (same_mk nt))) (S4.up (same_mk nt)) (by omega)
      have n3 : m = 0 ∨ m = 1 ∨ m = 2 := by omega
      rcases n3 with rfl | rfl | rfl
      · exact ⟨r, _, ((0 : Nat) : Int), _, rfl, rfl, SqL.of g4, atI_nat rfl, by show 2 ≤ sizeLine; decide, fin _ (by decide +kernel)⟩
      · exact ⟨r, _, ((1 : Nat) : Int), _, rfl, rfl, SqL.of g4, atI_nat rfl, by show 2 ≤ sizeLine; decide, fin _ (by decide +kernel)⟩
      · exact ⟨r, _, ((2 : Nat) : Int), _, rfl, rfl, SqL.of g4, atI_nat rfl, by show 2 ≤ sizeLine; decide, fin _ (by decide +kernel)⟩
    have okf : ∀ z ∈ fs.map (fun e => js e.1), Okz z := fun z hz => by
      obtain ⟨e, he, rfl⟩ := List.mem_map.mp hz
      exact okz_js fun y hy => nm y ((g.path e he).2.2 y hy)
    refine ⟨_, rfl, _, _, rfl, rfl, _, rfl, ite2 (fun _ => ?_) (fun _ => ?_)⟩
    · refine ⟨_, rfl, by exact Nat.zero_le _, fun e ne => ?_⟩
      have se := same_mk (o := .lst []) ne
      have ge := upd_same (H := H2) (a := e) (o := .lst [])
      have S3 := S2.up se
      have B3 := B2.trans (But.same se)
      have hq3 := se _ _ hq
      generalize upd H2 e (.lst []) = H3 at ge S3 B3 hq3 ⊢
      refine ⟨strL (fs.map fun e => js e.1), strL [], .lst (SqL.of hq3) (dp_texts _), .lst (SqL.of (xs := []) ge) .nil, shaped_texts _ okf, shaped_texts [] (fun _ h => nomatch h), ?_⟩
      rw [eqv_empty]
      by_cases hem : fs.map (fun e => js e.1) = []
      · rw [decide_eq_true hem]
        refine ⟨_, rfl, iteF ?_⟩
        refine ⟨_, rfl, rfl, _, rfl, ite2 (fun _ => ?_) (fun _ => ?_)⟩
        · refine ⟨_, rfl, _, rfl, st, l, p, c + 1, zs, 3, rfl, S3, by omega, L.but B3, z0, z1, nm, by decide, by decide, fun ys H4 c4 y1 y3 yz B4 S4 hc4 => ⟨by show 2 ≤ sizeLine; decide, fun t nt => ?_⟩⟩
          have nt2 := S4.ne_new nt
          have hc4' : c4 ≤ c + 1 + 1 + 3 := hc4
          exact k (.ref t) (some (.drop ys)) _ c4 (th_ch (but_free (B3.trans B4) S4 nt) nt2.1 nt2.2 upd_same (pathOf ys y1 (by omega) yz) nm) ((B3.trans B4).trans (But.same (same_mk nt))) (S4.up (same_mk nt)) (by omega)
        · refine ⟨_, rfl, _, rfl, st, l, p, c + 1, zs, 3, rfl, S3, by omega, L.but B3, z0, z1, nm, by decide, by decide, fun ys H4 c4 y1 y3 yz B4 S4 hc4 => ?_⟩
          have hc4' : c4 ≤ c + 1 + 1 + 3 := hc4
          refine ⟨_, rfl, st, l, c4, rfl, S4, by omega, fun tx H5 ht B5 S5 => ⟨by show 3 ≤ sizeLine; decide, fun t nt => ?_⟩⟩
          have nt2 := S5.ne_new nt
          exact k (.ref t) (some (.put ys tx)) _ (c4 + 1) (th_ch (but_free ((B3.trans B4).trans B5) S5 nt) nt2.1 nt2.2 upd_same ⟨pathOf ys y1 (by omega) yz, ht⟩ nm) (((B3.trans B4).trans B5).trans (But.same (same_mk nt))) (S5.up (same_mk nt)) (by omega)
      · rw [decide_eq_false hem]
        refine ⟨_, rfl, iteT ?_⟩
        refine ⟨_, rfl, _, rfl, .inl ⟨st, l, c + 1, q, _, rfl, S3, by omega, hq3, nq2.1, nq2.2, by rw [List.length_map]; exact List.length_pos_iff.mpr hem, by rw [List.length_map, List.length_map]; omega, fun i n0 H4 hn B4 S4 => ?_⟩⟩
        obtain ⟨e, he, rfl⟩ : ∃ e ∈ fs, n0 = .str (js e.1) := by
          rw [List.getElem?_map, List.getElem?_map, Option.map_map] at hn
          obtain ⟨e, he, q⟩ := Option.map_eq_some_iff.mp hn
          exact ⟨e, List.mem_of_getElem? he, q.symm⟩
        refine ⟨by show 2 ≤ sizeLine; decide, fun t nt => ?_⟩
        have nt2 := S4.ne_new nt
        exact k (.ref t) (some (.drop e.1)) _ (c + 2) (th_ch (but_free (B3.trans B4) S4 nt) nt2.1 nt2.2 upd_same (g.path e he) nm) ((B3.trans B4).trans (But.same (same_mk nt))) (S4.up (same_mk nt)) (by omega)
    · have S3 := S2
      have B3 := B2
      refine ⟨_, rfl, rfl, _, rfl, ite2 (fun _ => ?_) (fun _ => ?_)⟩
      · refine ⟨_, rfl, _, rfl, st, l, p, c + 1, zs, 3, rfl, S3, by omega, L.but B3, z0, z1, nm, by decide, by decide, fun ys H4 c4 y1 y3 yz B4 S4 hc4 => ⟨by show 2 ≤ sizeLine; decide, fun t nt => ?_⟩⟩
        have nt2 := S4.ne_new nt
        have hc4' : c4 ≤ c + 1 + 1 + 3 := hc4
        exact k (.ref t) (some (.drop ys)) _ c4 (th_ch (but_free (B3.trans B4) S4 nt) nt2.1 nt2.2 upd_same (pathOf ys y1 (by omega) yz) nm) ((B3.trans B4).trans (But.same (same_mk nt))) (S4.up (same_mk nt)) (by omega)
      · refine ⟨_, rfl, _, rfl, st, l, p, c + 1, zs, 3, rfl, S3, by omega, L.but B3, z0, z1, nm, by decide, by decide, fun ys H4 c4 y1 y3 yz B4 S4 hc4 => ?_⟩
        have hc4' : c4 ≤ c + 1 + 1 + 3 := hc4
        refine ⟨_, rfl, st, l, c4, rfl, S4, by omega, fun tx H5 ht B5 S5 => ⟨by show 3 ≤ sizeLine; decide, fun t nt => ?_⟩⟩
        have nt2 := S5.ne_new nt
        exact k (.ref t) (some (.put ys tx)) _ (c4 + 1) (th_ch (but_free ((B3.trans B4).trans B5) S5 nt) nt2.1 nt2.2 upd_same ⟨pathOf ys y1 (by omega) yz, ht⟩ nm) (((B3.trans B4).trans B5).trans (But.same (same_mk nt))) (S5.up (same_mk nt)) (by omega)
end
end N4

set_option maxHeartbeats 3900000
namespace N4
open PySem PySem.Spec PyProof.Rows L2 TL RP
open C8 (pss_cut tCut pe_gc)
open CB
abbrev sIsC : Stmt := top 48
/-! x not in a tuple of data -/
def rNoT (K : PySem.W.Frag) : R2 := fun x y H Q => ∃ d ds, Dp K H x d ∧ Dp K H y (.tuple ds) ∧ SeqAt.shaped d = true ∧ SeqAt.shaped (.tuple ds) = true ∧ Q (.bl (!ds.any fun z => PyData.eqv z d)) H
theorem op_noT {X : Cx} (hu : X.A.units + 65 < cLine) : OpR X (compareOp .NotIn) (rNoT X.K) := by
  intro pins s σ H x y v u Q I rx ry h
  obtain ⟨d, ds, hd, he, sd, se, q⟩ := h
  obtain ⟨as, r1⟩ := Dp.reads I d x v hd rx
  obtain ⟨bs, r2⟩ := Dp.reads I (.tuple ds) y u he ry
  have c2 : PyData.canLayAll0 ds = true := SeqAt.canLay_of_shaped se
  exact SeqAt.notIn_tuple_reads r2 r1 c2 (SeqAt.canLay_of_shaped sd) (room_in_shaped sd hu) ⟨.bl _, H, I, rfl, q⟩
theorem slA_one {K : PySem.W.Frag} {H : Hp} {a : Addr} {xs : List V} {Q : VK} (h : H a = some (.tup xs)) (q : ∀ b H', Same H H' → H' b = some (.tup (xs.take 1)) → Q (.ref b) H') : rSlA K (.ref a) none (some 1) H Q := by
  refine ⟨a, xs, rfl, SqT.of h, fun w => ?_, fun w p hp => ?_⟩
  · have e : xs.take 1 = xs := by
      match xs, w with
      | [], _ => rfl
      | [x], _ => rfl
      | x :: y :: r, w =>
        have w2 := w.2
        rw [show (some 1 : Option Int) = some ((1 : Nat) : Int) from rfl, HT.sIx_nat, List.length_cons, List.length_cons] at w2
        omega
    exact q a H (Same.refl H) (by rw [e]; exact h)
  · have e : cutV xs none (some 1) = xs.take 1 := cut_take xs 1
    rw [e]
    exact q p _ (same_mk hp) upd_same
abbrev W4 : List PyData := [.tuple [.str "put"], .tuple [.str "drop"], .tuple [.str "set"], .tuple [.str "tool"]]
theorem heads_any : ∀ z ∈ heads, (W4.any fun y => PyData.eqv y (.tuple [.str z])) = (z != "move") := by
  intro z hz
  unfold heads at hz
  simp only [List.mem_cons, List.not_mem_nil, or_false] at hz
  rcases hz with rfl | rfl | rfl | rfl | rfl <;> decide +kernel
theorem head_of {zs : List Str} {xs : List V} {k : Option Ch} (h : RowIs zs xs k) : ∃ hd : List Str, xs.take 1 = hd.map V.str ∧ ∀ z ∈ hd, z ∈ heads := by
  have one : ∀ {z : Str} {r : List V}, z ∈ heads → ∃ hd : List Str, (V.str z :: r).take 1 = hd.map V.str ∧ ∀ y ∈ hd, y ∈ heads := fun {z r} h => ⟨[z], rfl, fun y hy => by rw [List.mem_singleton.mp hy]; exact h⟩
  cases k with
  | some c =>
    obtain ⟨rfl, _⟩ := h
    cases c with
    | put p t => exact one (by decide +kernel)
    | drop p => exact one (by decide +kernel)
    | set n t => exact one (by decide +kernel)
    | tool t => exact one (by decide +kernel)
  | none =>
    cases (show OddR xs from h) with
    | zero => exact ⟨[], rfl, fun _ h => nomatch h⟩
    | one z h0 => exact one h0
    | two g =>
      cases g with
      | drop i => exact one (by decide +kernel)
      | tool => exact one (by decide +kernel)
      | oth h0 _ _ => exact one h0
    | three g =>
      cases g with
      | put0 => exact one (by decide +kernel)
      | putA => exact one (by decide +kernel)
      | putN _ => exact one (by decide +kernel)
      | putI _ _ => exact one (by decide +kernel)
      | setB => exact one (by decide +kernel)
      | setI _ _ => exact one (by decide +kernel)
      | oth h0 _ _ => exact one h0
theorem hd_one {hd : List Str} {z : Str} {r : List V} (h : (V.str z :: r).take 1 = hd.map V.str) : hd = [z] := by
  match hd, h with
  | [y], h =>
    have h2 : [V.str z] = [V.str y] := h
    rw [V.str.inj (List.cons.inj h2).1]
abbrev M4 : List (L2.Key × V) := [(.inr "put", .int 3), (.inr "drop", .int 2), (.inr "set", .int 3), (.inr "tool", .int 2)]
theorem iteNY' {a b : Str} {A B : Prop} (h : a ≠ b) (x : A) : if (!decide (V.str a = V.str b)) = true then A else B := by
  rw [decide_eq_false fun e => h (V.str.inj e)]
  exact x
theorem js_na {p : List Str} (h : Nms p) (hp : p ≠ []) : js p ≠ "a/" := fun e => by
  have q := split_js h hp
  rw [e] at q
  have q2 : Txt.split ("a/" : Str) ("/" : Str) = (["a", ""] : List Str) := by decide +kernel
  rw [q2] at q
  exact absurd (h "" (by rw [← q]; exact List.mem_cons_of_mem _ List.mem_cons_self)) (by decide +kernel)
theorem int_is (i : Int) : (!decide (V.int i = V.non)) = true := by
  rw [decide_eq_false (by intro e; cases e)]
  rfl
theorem nm_neq {n : Str} (h : IsNm n) : n ≠ "" := by
  rintro rfl
  exact absurd h (by decide +kernel)
theorem nm_na {n : Str} (h : IsNm n) : n ≠ "a/" := by
  rintro rfl
  exact absurd h (by decide +kernel)
theorem okz_heads : ∀ z ∈ heads, Okz z := by decide +kernel
def spIsC (K : PySem.W.Frag) : Sp := fun vs H Q _ => ∃ (v : V) (zs : List Str) (st l : Addr) (k : Option Ch) (H0 : Hp), vs = [v] ∧ Th zs K false st l H0 H v k ∧ (∀ y ∈ zs, IsNm y) ∧ ∀ H', Same H H' → Q (.bl k.isSome) H'
section
variable {P : Program} {w : World} {K : PySem.W.Frag} {mg : Str → Option Value} {base : Heap}
theorem scIsC : FnScope ["_law_thing"] ["_law_thing"] (defScope sIsC) := ⟨rfl, rfl, rfl, by decide +kernel, rfl, by decide +kernel, by decide +kernel⟩
theorem ok_isC {f : Addr} {fd : FuncData} (F : Fun K "_law_is_change" "_law_is_change" sIsC f fd) (T : TB mg) : FnOk P w K mg base CX0 1 f fd ["_law_thing"] (spIsC K) := by
  refine F.ok scIsC (fun vs H Q E h => ?_) (fun cdv A outer s H vs Q E hr h => ?_)
  · obtain ⟨v, zs, st, l, k, H0, rfl, _⟩ := h
    rfl
  · obtain ⟨v, zs, st, l, k, H0, rfl, th, nm, q⟩ := h
    have hu1 := Nat.lt_of_le_of_lt (Nat.add_le_add_left (show 1 ≤ 64 by decide) _) hr.units
    have hu5 := hr.un
    have hu5 : (A.deeper (envOfC "_law_is_change" (defScope sIsC) s.heap.objs.size f cdv)).units + 65 < cLine := by omega
    refine ⟨_, pss_cons (ps_if (PW.pt (pw_or (pt_not (pt_val (pe_callB call_isi (by rfl) T.isinstance (by decide +kernel) (pa_cons (pv 0) (pa_cons (pe_bltn (v := .ty "tuple") (by rfl) T.tuple (by decide +kernel) rfl) pa_nil))))) (pw_or1 (pt_cmpR (op_noT hu5) (pe_slice sl_tupA (pv 0) po_none (po_some pe_int)) (pe_tup (pa_cons (pe_tup (pa_cons pe_str pa_nil)) (pa_cons (pe_tup (pa_cons pe_str pa_nil)) (pa_cons (pe_tup (pa_cons pe_str pa_nil)) (pa_cons (pe_tup (pa_cons pe_str pa_nil)) pa_nil))))) (by rfl))))) (pss_one (ps_ret pe_bl)) (pss_nil))
            (pss_cons (ps_if (pt_cmpR op_ne (pe_callB call_len_seq (by rfl) T.len PySem.boot_len (pa_cons (pv 0) pa_nil)) (pe_dget hu1 (pe_disp (pps_cons pe_str pe_int (pps_cons pe_str pe_int (pps_cons pe_str pe_int (pps_cons pe_str pe_int pps_nil)))) rfl rfl (by simp) (by decide)) (pe_ix ix_tup (pv 0) pe_int (fun _ _ => rfl)) (fun _ _ => rfl)) (nomark _)) (pss_one (ps_ret pe_bl)) (pss_nil))
            (pss_cons (ps_if (PW.pt (pw_and (pt_not (pt_val (pe_callB call_isi (by rfl) T.isinstance (by decide +kernel) (pa_cons (pe_ix ix_tup (pv 0) (pe_un un_neg pe_int) (fun _ _ => rfl)) (pa_cons (pe_bltn (v := .ty "str") (by rfl) T.str (by decide +kernel) rfl) pa_nil))))) (pw_and1 (PW.pt (pw_or (pt_cmpR op_ne (pe_ix ix_tup (pv 0) pe_int (fun _ _ => rfl)) pe_str (nomark _)) (pw_or1 (pt_cmp (pc_notN (pe_ix ix_tup (pv 0) (pe_un un_neg pe_int) (fun _ _ => rfl)))))))))) (pss_one (ps_ret pe_bl)) (pss_nil))
            (pss_one (ps_ret (pe_or (pe_cmpR op_eq (pe_ix ix_tup (pv 0) pe_int (fun _ _ => rfl)) pe_str (nomark _)) (pe_one (pe_and (pe_cmpR op_ne (pe_ix ix_tup (pv 0) pe_int (fun _ _ => rfl)) pe_str (nomark _)) (pe_and (pe_cmpR op_ne (pe_ix ix_tup (pv 0) pe_int (fun _ _ => rfl)) pe_str (nomark _)) (pe_one (pe_or (pe_cmpR op_ne (pe_ix ix_tup (pv 0) pe_int (fun _ _ => rfl)) pe_str (nomark _)) (pe_one (pe_cmpR op_notIn_sign pe_str (pe_ix ix_tup (pv 0) pe_int (fun _ _ => rfl)) (by rfl))))))))))))), ?_⟩
    cases th with
    | non => exact ⟨_, rfl, _, _, .type "NoneType", .type "tuple", false, rfl, .ty "tuple", .base .non, kit_ty (by decide +kernel), _, rfl, iteT (q H (Same.refl H))⟩
    | int i f => exact ⟨_, rfl, _, _, .type "int", .type "tuple", false, rfl, .ty "tuple", .base (.int i), kit_ty (by decide +kernel), _, rfl, iteT (q H (Same.refl H))⟩
    | str z f => exact ⟨_, rfl, _, _, .type "str", .type "tuple", false, rfl, .ty "tuple", .base (.str z), kit_ty (by decide +kernel), _, rfl, iteT (q H (Same.refl H))⟩
    | dct n0 n1 n2 h => exact ⟨_, rfl, _, _, .type "dict", .type "tuple", false, rfl, .ty "tuple", .base (.dK h), kit_ty (by decide +kernel), _, rfl, iteT (q H (Same.refl H))⟩
    | @lst a xs ds k n0 n1 n2 h o d f q0 =>
      have e : k = none := q0.elim (fun h => by cases h) id
      subst e
      exact ⟨_, rfl, _, _, .type "list", .type "tuple", false, rfl, .ty "tuple", .base (.lst h), kit_ty (by decide +kernel), _, rfl, iteT (q H (Same.refl H))⟩
    | @tup a xs ds k n0 n1 n2 h o d f g =>
      obtain ⟨hd, e1, e2⟩ := head_of o
      refine ⟨_, rfl, _, _, .type "tuple", .type "tuple", true, rfl, .ty "tuple", .base (.tup h), kit_ty (by decide +kernel), _, rfl, iteF ?_⟩
      refine ⟨_, rfl, _, rfl, slA_one h fun b H1 s1 hb => ?_⟩
      rw [e1] at hb
      have ha := s1 _ _ h
      refine ⟨by show 1 ≤ sizeLine; decide, fun t1 m1 => ?_⟩
      have z1 := same_mk (o := .tup [.str "put"]) m1
      have g1 := upd_same (H := H1) (a := t1) (o := .tup [.str "put"])
      have hb := z1 _ _ hb
      have ha := z1 _ _ ha
      have s2 := s1.trans z1
      generalize upd H1 t1 (.tup [.str "put"]) = H2 at z1 g1 hb ha s2 ⊢
      refine ⟨by show 1 ≤ sizeLine; decide, fun t2 m2 => ?_⟩
      have z2 := same_mk (o := .tup [.str "drop"]) m2
      have g2 := upd_same (H := H2) (a := t2) (o := .tup [.str "drop"])
      have hb := z2 _ _ hb
      have ha := z2 _ _ ha
      have g1 := z2 _ _ g1
      have s3 := s2.trans z2
      generalize upd H2 t2 (.tup [.str "drop"]) = H3 at z2 g1 g2 hb ha s3 ⊢
      refine ⟨by show 1 ≤ sizeLine; decide, fun t3 m3 => ?_⟩
      have z3 := same_mk (o := .tup [.str "set"]) m3
      have g3 := upd_same (H := H3) (a := t3) (o := .tup [.str "set"])
      have hb := z3 _ _ hb
      have ha := z3 _ _ ha
      have g1 := z3 _ _ g1
      have g2 := z3 _ _ g2
      have s4 := s3.trans z3
      generalize upd H3 t3 (.tup [.str "set"]) = H4 at z3 g1 g2 g3 hb ha s4 ⊢
      refine ⟨by show 1 ≤ sizeLine; decide, fun t4 m4 => ?_⟩
      have z4 := same_mk (o := .tup [.str "tool"]) m4
      have g4 := upd_same (H := H4) (a := t4) (o := .tup [.str "tool"])
      have hb := z4 _ _ hb
      have ha := z4 _ _ ha
      have g1 := z4 _ _ g1
      have g2 := z4 _ _ g2
      have g3 := z4 _ _ g3
      have s5 := s4.trans z4
      generalize upd H4 t4 (.tup [.str "tool"]) = H5 at z4 g1 g2 g3 g4 hb ha s5 ⊢
      refine ⟨by show 4 ≤ sizeLine; decide, fun t5 m5 => ?_⟩
      have z5 := same_mk (o := .tup [.ref t1, .ref t2, .ref t3, .ref t4]) m5
      have g5 := upd_same (H := H5) (a := t5) (o := .tup [.ref t1, .ref t2, .ref t3, .ref t4])
      have hb := z5 _ _ hb
      have ha := z5 _ _ ha
      have g1 := z5 _ _ g1
      have g2 := z5 _ _ g2
      have g3 := z5 _ _ g3
      have g4 := z5 _ _ g4
      have s6 := s5.trans z5
      generalize upd H5 t5 (.tup [.ref t1, .ref t2, .ref t3, .ref t4]) = H6 at z5 g1 g2 g3 g4 g5 hb ha s6 ⊢
      refine ⟨strD hd, W4, .tup (SqT.of hb) (dp_texts hd), .tup (SqT.of g5) (.cons (.tup (SqT.of g1) (.cons (.str _) .nil)) (.cons (.tup (SqT.of g2) (.cons (.str _) .nil)) (.cons (.tup (SqT.of g3) (.cons (.str _) .nil)) (.cons (.tup (SqT.of g4) (.cons (.str _) .nil)) .nil)))), shaped_strs hd (fun z hz => okz_heads z (e2 z hz)), by decide +kernel, ?_⟩
      clear z1 z2 z3 z4 z5 g1 g2 g3 g4 g5 hb s1 s2 s3 s4 s5 m1 m2 m3 m4 m5
      have mkd : ∀ {y : Addr}, H6 y = none → Same H6 (upd (upd H6 y (.dK [])) y (.dK M4)) := fun {y} my b u hb => by
        have n1 : b ≠ y := fun e => by rw [e, my] at hb; cases hb
        rw [upd_ne n1, upd_ne n1]
        exact hb
      cases k with
      | none =>
        cases (show OddR xs from o) with
        | zero =>
          have e0 : hd = [] := by
            cases hd with
            | nil => rfl
            | cons y r => cases e1
          subst e0
          exact ⟨_, rfl, iteT' (by decide +kernel) (q _ s6)⟩
        | one z h0 =>
          unfold heads at h0
          simp only [List.mem_cons, List.not_mem_nil, or_false] at h0
          rcases h0 with rfl | rfl | rfl | rfl | rfl
          · have w0 := True
            cases hd_one e1
            refine ⟨_, rfl, iteF' (by decide +kernel) ?_⟩
            refine ⟨_, rfl, a, _, rfl, .inr (SqT.of ha), fun y my => ?_⟩
            refine ⟨upd_same, M4, rfl, by show 4 ≤ 15; decide, ?_⟩
            have z7 := mkd my
            have h7y := upd_same (H := upd H6 y (.dK [])) (a := y) (o := .dK M4)
            have ha := z7 _ _ ha
            have s7 := s6.trans z7
            rw [show mergeK [] M4 = M4 from rfl]
            generalize upd (upd H6 y (.dK [])) y (.dK M4) = H7 at z7 h7y ha s7 ⊢
            refine ⟨_, rfl, a, _, 0, _, rfl, rfl, SqT.of ha, atI_nat (j := 0) rfl, y, _, rfl, DGet.k (k := .inr "put") h7y, rfl, _, rfl, ?_⟩
            exact iteT' (by show (!decide (V.int ((1 : Nat) : Int) = V.int 3)) = true; decide +kernel) (q _ s7)
          · have w0 := True
            cases hd_one e1
            refine ⟨_, rfl, iteF' (by decide +kernel) ?_⟩
            refine ⟨_, rfl, a, _, rfl, .inr (SqT.of ha), fun y my => ?_⟩
            refine ⟨upd_same, M4, rfl, by show 4 ≤ 15; decide, ?_⟩
            have z7 := mkd my
            have h7y := upd_same (H := upd H6 y (.dK [])) (a := y) (o := .dK M4)
            have ha := z7 _ _ ha
            have s7 := s6.trans z7
            rw [show mergeK [] M4 = M4 from rfl]
            generalize upd (upd H6 y (.dK [])) y (.dK M4) = H7 at z7 h7y ha s7 ⊢
            refine ⟨_, rfl, a, _, 0, _, rfl, rfl, SqT.of ha, atI_nat (j := 0) rfl, y, _, rfl, DGet.k (k := .inr "drop") h7y, rfl, _, rfl, ?_⟩
            exact iteT' (by show (!decide (V.int ((1 : Nat) : Int) = V.int 2)) = true; decide +kernel) (q _ s7)
          · have w0 := True
            cases hd_one e1
            refine ⟨_, rfl, iteF' (by decide +kernel) ?_⟩
            refine ⟨_, rfl, a, _, rfl, .inr (SqT.of ha), fun y my => ?_⟩
            refine ⟨upd_same, M4, rfl, by show 4 ≤ 15; decide, ?_⟩
            have z7 := mkd my
            have h7y := upd_same (H := upd H6 y (.dK [])) (a := y) (o := .dK M4)
            have ha := z7 _ _ ha
            have s7 := s6.trans z7
            rw [show mergeK [] M4 = M4 from rfl]
            generalize upd (upd H6 y (.dK [])) y (.dK M4) = H7 at z7 h7y ha s7 ⊢
            refine ⟨_, rfl, a, _, 0, _, rfl, rfl, SqT.of ha, atI_nat (j := 0) rfl, y, _, rfl, DGet.k (k := .inr "set") h7y, rfl, _, rfl, ?_⟩
            exact iteT' (by show (!decide (V.int ((1 : Nat) : Int) = V.int 3)) = true; decide +kernel) (q _ s7)
          · have w0 := True
            cases hd_one e1
            refine ⟨_, rfl, iteF' (by decide +kernel) ?_⟩
            refine ⟨_, rfl, a, _, rfl, .inr (SqT.of ha), fun y my => ?_⟩
            refine ⟨upd_same, M4, rfl, by show 4 ≤ 15; decide, ?_⟩
            have z7 := mkd my
            have h7y := upd_same (H := upd H6 y (.dK [])) (a := y) (o := .dK M4)
            have ha := z7 _ _ ha
            have s7 := s6.trans z7
            rw [show mergeK [] M4 = M4 from rfl]
            generalize upd (upd H6 y (.dK [])) y (.dK M4) = H7 at z7 h7y ha s7 ⊢
            refine ⟨_, rfl, a, _, 0, _, rfl, rfl, SqT.of ha, atI_nat (j := 0) rfl, y, _, rfl, DGet.k (k := .inr "tool") h7y, rfl, _, rfl, ?_⟩
            exact iteT' (by show (!decide (V.int ((1 : Nat) : Int) = V.int 2)) = true; decide +kernel) (q _ s7)
          · have w0 := True
            cases hd_one e1
            exact ⟨_, rfl, iteT' (by decide +kernel) (q _ s6)⟩
        | two g =>
          cases g with
          | drop i =>
            cases hd_one e1
            refine ⟨_, rfl, iteF' (by decide +kernel) ?_⟩
            refine ⟨_, rfl, a, _, rfl, .inr (SqT.of ha), fun y my => ?_⟩
            refine ⟨upd_same, M4, rfl, by show 4 ≤ 15; decide, ?_⟩
            have z7 := mkd my
            have h7y := upd_same (H := upd H6 y (.dK [])) (a := y) (o := .dK M4)
            have ha := z7 _ _ ha
            have s7 := s6.trans z7
            rw [show mergeK [] M4 = M4 from rfl]
            generalize upd (upd H6 y (.dK [])) y (.dK M4) = H7 at z7 h7y ha s7 ⊢
            refine ⟨_, rfl, a, _, 0, _, rfl, rfl, SqT.of ha, atI_nat (j := 0) rfl, y, _, rfl, DGet.k (k := .inr "drop") h7y, rfl, _, rfl, ?_⟩
            refine iteF' (by show (!decide (V.int ((2 : Nat) : Int) = V.int 2)) = false; decide +kernel) ?_
            exact ⟨_, rfl, _, rfl, a, _, _, _, rfl, rfl, SqT.of ha, rfl, _, _, .type "int", .type "str", false, rfl, .ty "str", .base (.int _), kit_ty (by decide +kernel), _, rfl, iteT ⟨_, rfl, a, _, 0, _, rfl, rfl, SqT.of ha, atI_nat (j := 0) rfl, rfl, _, rfl, iteT' (by decide +kernel) (q _ s7)⟩⟩
          | tool =>
            cases hd_one e1
            refine ⟨_, rfl, iteF' (by decide +kernel) ?_⟩
            refine ⟨_, rfl, a, _, rfl, .inr (SqT.of ha), fun y my => ?_⟩
            refine ⟨upd_same, M4, rfl, by show 4 ≤ 15; decide, ?_⟩
            have z7 := mkd my
            have h7y := upd_same (H := upd H6 y (.dK [])) (a := y) (o := .dK M4)
            have ha := z7 _ _ ha
            have s7 := s6.trans z7
            rw [show mergeK [] M4 = M4 from rfl]
            generalize upd (upd H6 y (.dK [])) y (.dK M4) = H7 at z7 h7y ha s7 ⊢
            refine ⟨_, rfl, a, _, 0, _, rfl, rfl, SqT.of ha, atI_nat (j := 0) rfl, y, _, rfl, DGet.k (k := .inr "tool") h7y, rfl, _, rfl, ?_⟩
            refine iteF' (by show (!decide (V.int ((2 : Nat) : Int) = V.int 2)) = false; decide +kernel) ?_
            exact ⟨_, rfl, _, rfl, a, _, _, _, rfl, rfl, SqT.of ha, rfl, _, _, .type "NoneType", .type "str", false, rfl, .ty "str", .base (.non), kit_ty (by decide +kernel), _, rfl, iteT ⟨_, rfl, a, _, 0, _, rfl, rfl, SqT.of ha, atI_nat (j := 0) rfl, rfl, _, rfl, iteT' (by decide +kernel) (q _ s7)⟩⟩
          | oth h0 h1 h2 =>
            unfold heads at h0
            simp only [List.mem_cons, List.not_mem_nil, or_false] at h0
            rcases h0 with rfl | rfl | rfl | rfl | rfl
            · have w0 := True
              cases hd_one e1
              refine ⟨_, rfl, iteF' (by decide +kernel) ?_⟩
              refine ⟨_, rfl, a, _, rfl, .inr (SqT.of ha), fun y my => ?_⟩
              refine ⟨upd_same, M4, rfl, by show 4 ≤ 15; decide, ?_⟩
              have z7 := mkd my
              have h7y := upd_same (H := upd H6 y (.dK [])) (a := y) (o := .dK M4)
              have ha := z7 _ _ ha
              have s7 := s6.trans z7
              rw [show mergeK [] M4 = M4 from rfl]
              generalize upd (upd H6 y (.dK [])) y (.dK M4) = H7 at z7 h7y ha s7 ⊢
              refine ⟨_, rfl, a, _, 0, _, rfl, rfl, SqT.of ha, atI_nat (j := 0) rfl, y, _, rfl, DGet.k (k := .inr "put") h7y, rfl, _, rfl, ?_⟩
              exact iteT' (by show (!decide (V.int ((2 : Nat) : Int) = V.int 3)) = true; decide +kernel) (q _ s7)
            · have w0 := True
              exact absurd rfl h1
            · have w0 := True
              cases hd_one e1
              refine ⟨_, rfl, iteF' (by decide +kernel) ?_⟩
              refine ⟨_, rfl, a, _, rfl, .inr (SqT.of ha), fun y my => ?_⟩
              refine ⟨upd_same, M4, rfl, by show 4 ≤ 15; decide, ?_⟩
              have z7 := mkd my
              have h7y := upd_same (H := upd H6 y (.dK [])) (a := y) (o := .dK M4)
              have ha := z7 _ _ ha
              have s7 := s6.trans z7
              rw [show mergeK [] M4 = M4 from rfl]
              generalize upd (upd H6 y (.dK [])) y (.dK M4) = H7 at z7 h7y ha s7 ⊢
              refine ⟨_, rfl, a, _, 0, _, rfl, rfl, SqT.of ha, atI_nat (j := 0) rfl, y, _, rfl, DGet.k (k := .inr "set") h7y, rfl, _, rfl, ?_⟩
              exact iteT' (by show (!decide (V.int ((2 : Nat) : Int) = V.int 3)) = true; decide +kernel) (q _ s7)
            · have w0 := True
              exact absurd rfl h2
            · have w0 := True
              cases hd_one e1
              exact ⟨_, rfl, iteT' (by decide +kernel) (q _ s6)⟩
        | three g =>
          cases g with
          | put0 =>
            cases hd_one e1
            refine ⟨_, rfl, iteF' (by decide +kernel) ?_⟩
            refine ⟨_, rfl, a, _, rfl, .inr (SqT.of ha), fun y my => ?_⟩
            refine ⟨upd_same, M4, rfl, by show 4 ≤ 15; decide, ?_⟩
            have z7 := mkd my
            have h7y := upd_same (H := upd H6 y (.dK [])) (a := y) (o := .dK M4)
            have ha := z7 _ _ ha
            have s7 := s6.trans z7
            rw [show mergeK [] M4 = M4 from rfl]
            generalize upd (upd H6 y (.dK [])) y (.dK M4) = H7 at z7 h7y ha s7 ⊢
            refine ⟨_, rfl, a, _, 0, _, rfl, rfl, SqT.of ha, atI_nat (j := 0) rfl, y, _, rfl, DGet.k (k := .inr "put") h7y, rfl, _, rfl, ?_⟩
            refine iteF' (by show (!decide (V.int ((3 : Nat) : Int) = V.int 3)) = false; decide +kernel) ?_
            refine ⟨_, rfl, _, rfl, a, _, _, _, rfl, rfl, SqT.of ha, rfl, _, _, .type "str", .type "str", true, rfl, .ty "str", .base (.str _), kit_ty (by decide +kernel), _, rfl, iteF ?_⟩
            exact ⟨_, rfl, a, _, 0, _, rfl, rfl, SqT.of ha, atI_nat (j := 0) rfl, rfl, _, rfl, iteF' (by decide +kernel) ⟨_, rfl, a, _, 1, _, rfl, rfl, SqT.of ha, atI_nat (j := 1) rfl, rfl, _, rfl, iteF' (by decide +kernel) (q _ s7)⟩⟩
          | putA =>
            cases hd_one e1
            refine ⟨_, rfl, iteF' (by decide +kernel) ?_⟩
            refine ⟨_, rfl, a, _, rfl, .inr (SqT.of ha), fun y my => ?_⟩
            refine ⟨upd_same, M4, rfl, by show 4 ≤ 15; decide, ?_⟩
            have z7 := mkd my
            have h7y := upd_same (H := upd H6 y (.dK [])) (a := y) (o := .dK M4)
            have ha := z7 _ _ ha
            have s7 := s6.trans z7
            rw [show mergeK [] M4 = M4 from rfl]
            generalize upd (upd H6 y (.dK [])) y (.dK M4) = H7 at z7 h7y ha s7 ⊢
            refine ⟨_, rfl, a, _, 0, _, rfl, rfl, SqT.of ha, atI_nat (j := 0) rfl, y, _, rfl, DGet.k (k := .inr "put") h7y, rfl, _, rfl, ?_⟩
            refine iteF' (by show (!decide (V.int ((3 : Nat) : Int) = V.int 3)) = false; decide +kernel) ?_
            refine ⟨_, rfl, _, rfl, a, _, _, _, rfl, rfl, SqT.of ha, rfl, _, _, .type "str", .type "str", true, rfl, .ty "str", .base (.str _), kit_ty (by decide +kernel), _, rfl, iteF ?_⟩
            exact ⟨_, rfl, a, _, 0, _, rfl, rfl, SqT.of ha, atI_nat (j := 0) rfl, rfl, _, rfl, iteF' (by decide +kernel) ⟨_, rfl, a, _, 1, _, rfl, rfl, SqT.of ha, atI_nat (j := 1) rfl, rfl, _, rfl, iteT' (by decide +kernel) ⟨_, rfl, a, _, 1, _, rfl, rfl, SqT.of ha, atI_nat (j := 1) rfl, rfl, _, rfl, iteF' (by decide +kernel) (q _ s7)⟩⟩⟩
          | putN g =>
            cases hd_one e1
            refine ⟨_, rfl, iteF' (by decide +kernel) ?_⟩
            refine ⟨_, rfl, a, _, rfl, .inr (SqT.of ha), fun y my => ?_⟩
            refine ⟨upd_same, M4, rfl, by show 4 ≤ 15; decide, ?_⟩
            have z7 := mkd my
            have h7y := upd_same (H := upd H6 y (.dK [])) (a := y) (o := .dK M4)
            have ha := z7 _ _ ha
            have s7 := s6.trans z7
            rw [show mergeK [] M4 = M4 from rfl]
            generalize upd (upd H6 y (.dK [])) y (.dK M4) = H7 at z7 h7y ha s7 ⊢
            refine ⟨_, rfl, a, _, 0, _, rfl, rfl, SqT.of ha, atI_nat (j := 0) rfl, y, _, rfl, DGet.k (k := .inr "put") h7y, rfl, _, rfl, ?_⟩
            refine iteF' (by show (!decide (V.int ((3 : Nat) : Int) = V.int 3)) = false; decide +kernel) ?_
            exact ⟨_, rfl, _, rfl, a, _, _, _, rfl, rfl, SqT.of ha, rfl, _, _, .type "NoneType", .type "str", false, rfl, .ty "str", .base (.non), kit_ty (by decide +kernel), _, rfl, iteT ⟨_, rfl, a, _, 0, _, rfl, rfl, SqT.of ha, atI_nat (j := 0) rfl, rfl, _, rfl, iteT' (by decide +kernel) (q _ s7)⟩⟩
          | putI g i =>
            cases hd_one e1
            refine ⟨_, rfl, iteF' (by decide +kernel) ?_⟩
            refine ⟨_, rfl, a, _, rfl, .inr (SqT.of ha), fun y my => ?_⟩
            refine ⟨upd_same, M4, rfl, by show 4 ≤ 15; decide, ?_⟩
            have z7 := mkd my
            have h7y := upd_same (H := upd H6 y (.dK [])) (a := y) (o := .dK M4)
            have ha := z7 _ _ ha
            have s7 := s6.trans z7
            rw [show mergeK [] M4 = M4 from rfl]
            generalize upd (upd H6 y (.dK [])) y (.dK M4) = H7 at z7 h7y ha s7 ⊢
            refine ⟨_, rfl, a, _, 0, _, rfl, rfl, SqT.of ha, atI_nat (j := 0) rfl, y, _, rfl, DGet.k (k := .inr "put") h7y, rfl, _, rfl, ?_⟩
            refine iteF' (by show (!decide (V.int ((3 : Nat) : Int) = V.int 3)) = false; decide +kernel) ?_
            exact ⟨_, rfl, _, rfl, a, _, _, _, rfl, rfl, SqT.of ha, rfl, _, _, .type "int", .type "str", false, rfl, .ty "str", .base (.int _), kit_ty (by decide +kernel), _, rfl, iteT ⟨_, rfl, a, _, 0, _, rfl, rfl, SqT.of ha, atI_nat (j := 0) rfl, rfl, _, rfl, iteT' (by decide +kernel) (q _ s7)⟩⟩
          | setB =>
            cases hd_one e1
            refine ⟨_, rfl, iteF' (by decide +kernel) ?_⟩
            refine ⟨_, rfl, a, _, rfl, .inr (SqT.of ha), fun y my => ?_⟩
            refine ⟨upd_same, M4, rfl, by show 4 ≤ 15; decide, ?_⟩
            have z7 := mkd my
            have h7y := upd_same (H := upd H6 y (.dK [])) (a := y) (o := .dK M4)
            have ha := z7 _ _ ha
            have s7 := s6.trans z7
            rw [show mergeK [] M4 = M4 from rfl]
            generalize upd (upd H6 y (.dK [])) y (.dK M4) = H7 at z7 h7y ha s7 ⊢
            refine ⟨_, rfl, a, _, 0, _, rfl, rfl, SqT.of ha, atI_nat (j := 0) rfl, y, _, rfl, DGet.k (k := .inr "set") h7y, rfl, _, rfl, ?_⟩
            refine iteF' (by show (!decide (V.int ((3 : Nat) : Int) = V.int 3)) = false; decide +kernel) ?_
            refine ⟨_, rfl, _, rfl, a, _, _, _, rfl, rfl, SqT.of ha, rfl, _, _, .type "str", .type "str", true, rfl, .ty "str", .base (.str _), kit_ty (by decide +kernel), _, rfl, iteF ?_⟩
            exact ⟨_, rfl, a, _, 0, _, rfl, rfl, SqT.of ha, atI_nat (j := 0) rfl, rfl, _, rfl, iteF' (by decide +kernel) ⟨_, rfl, a, _, 1, _, rfl, rfl, SqT.of ha, atI_nat (j := 1) rfl, rfl, _, rfl, iteT' (by decide +kernel) ⟨_, rfl, a, _, 1, _, rfl, rfl, SqT.of ha, atI_nat (j := 1) rfl, rfl, _, rfl, iteT' (by decide +kernel) ⟨_, rfl, a, _, 0, _, rfl, rfl, SqT.of ha, atI_nat (j := 0) rfl, rfl, _, rfl, iteF' (by decide +kernel) ⟨_, rfl, a, _, 1, _, rfl, rfl, SqT.of ha, atI_nat (j := 1) rfl, 47, _, rfl, rfl, q _ s7⟩⟩⟩⟩⟩
          | setI g i =>
            cases hd_one e1
            refine ⟨_, rfl, iteF' (by decide +kernel) ?_⟩
            refine ⟨_, rfl, a, _, rfl, .inr (SqT.of ha), fun y my => ?_⟩
            refine ⟨upd_same, M4, rfl, by show 4 ≤ 15; decide, ?_⟩
            have z7 := mkd my
            have h7y := upd_same (H := upd H6 y (.dK [])) (a := y) (o := .dK M4)
            have ha := z7 _ _ ha
            have s7 := s6.trans z7
            rw [show mergeK [] M4 = M4 from rfl]
            generalize upd (upd H6 y (.dK [])) y (.dK M4) = H7 at z7 h7y ha s7 ⊢
            refine ⟨_, rfl, a, _, 0, _, rfl, rfl, SqT.of ha, atI_nat (j := 0) rfl, y, _, rfl, DGet.k (k := .inr "set") h7y, rfl, _, rfl, ?_⟩
            refine iteF' (by show (!decide (V.int ((3 : Nat) : Int) = V.int 3)) = false; decide +kernel) ?_
            exact ⟨_, rfl, _, rfl, a, _, _, _, rfl, rfl, SqT.of ha, rfl, _, _, .type "int", .type "str", false, rfl, .ty "str", .base (.int _), kit_ty (by decide +kernel), _, rfl, iteT ⟨_, rfl, a, _, 0, _, rfl, rfl, SqT.of ha, atI_nat (j := 0) rfl, rfl, _, rfl, iteF' (by decide +kernel) ⟨_, rfl, _, rfl, a, _, _, _, rfl, rfl, SqT.of ha, rfl, _, rfl, iteT' (int_is _) (q _ s7)⟩⟩⟩
          | oth h0 h1 h2 =>
            unfold heads at h0
            simp only [List.mem_cons, List.not_mem_nil, or_false] at h0
            rcases h0 with rfl | rfl | rfl | rfl | rfl
            · have w0 := True
              exact absurd rfl h1
            · have w0 := True
              cases hd_one e1
              refine ⟨_, rfl, iteF' (by decide +kernel) ?_⟩
              refine ⟨_, rfl, a, _, rfl, .inr (SqT.of ha), fun y my => ?_⟩
              refine ⟨upd_same, M4, rfl, by show 4 ≤ 15; decide, ?_⟩
              have z7 := mkd my
              have h7y := upd_same (H := upd H6 y (.dK [])) (a := y) (o := .dK M4)
              have ha := z7 _ _ ha
              have s7 := s6.trans z7
              rw [show mergeK [] M4 = M4 from rfl]
              generalize upd (upd H6 y (.dK [])) y (.dK M4) = H7 at z7 h7y ha s7 ⊢
              refine ⟨_, rfl, a, _, 0, _, rfl, rfl, SqT.of ha, atI_nat (j := 0) rfl, y, _, rfl, DGet.k (k := .inr "drop") h7y, rfl, _, rfl, ?_⟩
              exact iteT' (by show (!decide (V.int ((3 : Nat) : Int) = V.int 2)) = true; decide +kernel) (q _ s7)
            · have w0 := True
              exact absurd rfl h2
            · have w0 := True
              cases hd_one e1
              refine ⟨_, rfl, iteF' (by decide +kernel) ?_⟩
              refine ⟨_, rfl, a, _, rfl, .inr (SqT.of ha), fun y my => ?_⟩
              refine ⟨upd_same, M4, rfl, by show 4 ≤ 15; decide, ?_⟩
              have z7 := mkd my
              have h7y := upd_same (H := upd H6 y (.dK [])) (a := y) (o := .dK M4)
              have ha := z7 _ _ ha
              have s7 := s6.trans z7
              rw [show mergeK [] M4 = M4 from rfl]
              generalize upd (upd H6 y (.dK [])) y (.dK M4) = H7 at z7 h7y ha s7 ⊢
              refine ⟨_, rfl, a, _, 0, _, rfl, rfl, SqT.of ha, atI_nat (j := 0) rfl, y, _, rfl, DGet.k (k := .inr "tool") h7y, rfl, _, rfl, ?_⟩
              exact iteT' (by show (!decide (V.int ((3 : Nat) : Int) = V.int 2)) = true; decide +kernel) (q _ s7)
            · have w0 := True
              cases hd_one e1
              exact ⟨_, rfl, iteT' (by decide +kernel) (q _ s6)⟩
      | some c =>
        obtain ⟨rfl, ci⟩ := o
        cases c with
        | put p t =>
          have np : Nms p := fun y hy => nm y (ci.1.2.2 y hy)
          have j1 := js_ne np ci.1.1
          have j2 := js_na np ci.1.1
          cases hd_one e1
          refine ⟨_, rfl, iteF' (by decide +kernel) ?_⟩
          refine ⟨_, rfl, a, _, rfl, .inr (SqT.of ha), fun y my => ?_⟩
          refine ⟨upd_same, M4, rfl, by show 4 ≤ 15; decide, ?_⟩
          have z7 := mkd my
          have h7y := upd_same (H := upd H6 y (.dK [])) (a := y) (o := .dK M4)
          have ha := z7 _ _ ha
          have s7 := s6.trans z7
          rw [show mergeK [] M4 = M4 from rfl]
          generalize upd (upd H6 y (.dK [])) y (.dK M4) = H7 at z7 h7y ha s7 ⊢
          refine ⟨_, rfl, a, _, 0, _, rfl, rfl, SqT.of ha, atI_nat (j := 0) rfl, y, _, rfl, DGet.k (k := .inr "put") h7y, rfl, _, rfl, ?_⟩
          refine iteF' (by show (!decide (V.int ((3 : Nat) : Int) = V.int 3)) = false; decide +kernel) ?_
          refine ⟨_, rfl, _, rfl, a, _, _, _, rfl, rfl, SqT.of ha, rfl, _, _, .type "str", .type "str", true, rfl, .ty "str", .base (.str _), kit_ty (by decide +kernel), _, rfl, iteF ?_⟩
          exact ⟨_, rfl, a, _, 0, _, rfl, rfl, SqT.of ha, atI_nat (j := 0) rfl, rfl, _, rfl, iteF' (by decide +kernel) ⟨_, rfl, a, _, 1, _, rfl, rfl, SqT.of ha, atI_nat (j := 1) rfl, rfl, _, rfl, iteNY' j1 ⟨_, rfl, a, _, 1, _, rfl, rfl, SqT.of ha, atI_nat (j := 1) rfl, rfl, _, rfl, iteNY' j2 ⟨_, rfl, a, _, 0, _, rfl, rfl, SqT.of ha, atI_nat (j := 0) rfl, rfl, _, rfl, iteT' (by decide +kernel) (q _ s7)⟩⟩⟩⟩
        | drop p =>
          have np : Nms p := fun y hy => nm y (ci.2.2 y hy)
          have j1 := js_ne np ci.1
          have j2 := js_na np ci.1
          cases hd_one e1
          refine ⟨_, rfl, iteF' (by decide +kernel) ?_⟩
          refine ⟨_, rfl, a, _, rfl, .inr (SqT.of ha), fun y my => ?_⟩
          refine ⟨upd_same, M4, rfl, by show 4 ≤ 15; decide, ?_⟩
          have z7 := mkd my
          have h7y := upd_same (H := upd H6 y (.dK [])) (a := y) (o := .dK M4)
          have ha := z7 _ _ ha
          have s7 := s6.trans z7
          rw [show mergeK [] M4 = M4 from rfl]
          generalize upd (upd H6 y (.dK [])) y (.dK M4) = H7 at z7 h7y ha s7 ⊢
          refine ⟨_, rfl, a, _, 0, _, rfl, rfl, SqT.of ha, atI_nat (j := 0) rfl, y, _, rfl, DGet.k (k := .inr "drop") h7y, rfl, _, rfl, ?_⟩
          refine iteF' (by show (!decide (V.int ((2 : Nat) : Int) = V.int 2)) = false; decide +kernel) ?_
          refine ⟨_, rfl, _, rfl, a, _, _, _, rfl, rfl, SqT.of ha, rfl, _, _, .type "str", .type "str", true, rfl, .ty "str", .base (.str _), kit_ty (by decide +kernel), _, rfl, iteF ?_⟩
          exact ⟨_, rfl, a, _, 0, _, rfl, rfl, SqT.of ha, atI_nat (j := 0) rfl, rfl, _, rfl, iteF' (by decide +kernel) ⟨_, rfl, a, _, 1, _, rfl, rfl, SqT.of ha, atI_nat (j := 1) rfl, rfl, _, rfl, iteNY' j1 ⟨_, rfl, a, _, 1, _, rfl, rfl, SqT.of ha, atI_nat (j := 1) rfl, rfl, _, rfl, iteNY' j2 ⟨_, rfl, a, _, 0, _, rfl, rfl, SqT.of ha, atI_nat (j := 0) rfl, rfl, _, rfl, iteT' (by decide +kernel) (q _ s7)⟩⟩⟩⟩
        | set n t =>
          have hn := nm n ci.1
          have j1 := nm_neq hn
          have j2 := nm_na hn
          cases hd_one e1
          refine ⟨_, rfl, iteF' (by decide +kernel) ?_⟩
          refine ⟨_, rfl, a, _, rfl, .inr (SqT.of ha), fun y my => ?_⟩
          refine ⟨upd_same, M4, rfl, by show 4 ≤ 15; decide, ?_⟩
          have z7 := mkd my
          have h7y := upd_same (H := upd H6 y (.dK [])) (a := y) (o := .dK M4)
          have ha := z7 _ _ ha
          have s7 := s6.trans z7
          rw [show mergeK [] M4 = M4 from rfl]
          generalize upd (upd H6 y (.dK [])) y (.dK M4) = H7 at z7 h7y ha s7 ⊢
          refine ⟨_, rfl, a, _, 0, _, rfl, rfl, SqT.of ha, atI_nat (j := 0) rfl, y, _, rfl, DGet.k (k := .inr "set") h7y, rfl, _, rfl, ?_⟩
          refine iteF' (by show (!decide (V.int ((3 : Nat) : Int) = V.int 3)) = false; decide +kernel) ?_
          cases t with
          | none =>
            refine ⟨_, rfl, _, rfl, a, _, _, _, rfl, rfl, SqT.of ha, rfl, _, _, .type "NoneType", .type "str", false, rfl, .ty "str", .base (.non), kit_ty (by decide +kernel), _, rfl, iteT ⟨_, rfl, a, _, 0, _, rfl, rfl, SqT.of ha, atI_nat (j := 0) rfl, rfl, _, rfl, iteF' (by decide +kernel) ⟨_, rfl, _, rfl, a, _, _, _, rfl, rfl, SqT.of ha, rfl, _, rfl, iteF' (by decide +kernel) ?_⟩⟩⟩
            exact ⟨_, rfl, a, _, 0, _, rfl, rfl, SqT.of ha, atI_nat (j := 0) rfl, rfl, _, rfl, iteF' (by decide +kernel) ⟨_, rfl, a, _, 1, _, rfl, rfl, SqT.of ha, atI_nat (j := 1) rfl, rfl, _, rfl, iteNY' j1 ⟨_, rfl, a, _, 1, _, rfl, rfl, SqT.of ha, atI_nat (j := 1) rfl, rfl, _, rfl, iteNY' j2 ⟨_, rfl, a, _, 0, _, rfl, rfl, SqT.of ha, atI_nat (j := 0) rfl, rfl, _, rfl, iteF' (by decide +kernel) ⟨_, rfl, a, _, 1, _, rfl, rfl, SqT.of ha, atI_nat (j := 1) rfl, 47, _, rfl, rfl, by rw [decide_eq_false (nm_free hn)]; exact q _ s7⟩⟩⟩⟩⟩
          | some t =>
            refine ⟨_, rfl, _, rfl, a, _, _, _, rfl, rfl, SqT.of ha, rfl, _, _, .type "str", .type "str", true, rfl, .ty "str", .base (.str _), kit_ty (by decide +kernel), _, rfl, iteF ?_⟩
            exact ⟨_, rfl, a, _, 0, _, rfl, rfl, SqT.of ha, atI_nat (j := 0) rfl, rfl, _, rfl, iteF' (by decide +kernel) ⟨_, rfl, a, _, 1, _, rfl, rfl, SqT.of ha, atI_nat (j := 1) rfl, rfl, _, rfl, iteNY' j1 ⟨_, rfl, a, _, 1, _, rfl, rfl, SqT.of ha, atI_nat (j := 1) rfl, rfl, _, rfl, iteNY' j2 ⟨_, rfl, a, _, 0, _, rfl, rfl, SqT.of ha, atI_nat (j := 0) rfl, rfl, _, rfl, iteF' (by decide +kernel) ⟨_, rfl, a, _, 1, _, rfl, rfl, SqT.of ha, atI_nat (j := 1) rfl, 47, _, rfl, rfl, by rw [decide_eq_false (nm_free hn)]; exact q _ s7⟩⟩⟩⟩⟩
        | tool t =>
          cases hd_one e1
          refine ⟨_, rfl, iteF' (by decide +kernel) ?_⟩
          refine ⟨_, rfl, a, _, rfl, .inr (SqT.of ha), fun y my => ?_⟩
          refine ⟨upd_same, M4, rfl, by show 4 ≤ 15; decide, ?_⟩
          have z7 := mkd my
          have h7y := upd_same (H := upd H6 y (.dK [])) (a := y) (o := .dK M4)
          have ha := z7 _ _ ha
          have s7 := s6.trans z7
          rw [show mergeK [] M4 = M4 from rfl]
          generalize upd (upd H6 y (.dK [])) y (.dK M4) = H7 at z7 h7y ha s7 ⊢
          refine ⟨_, rfl, a, _, 0, _, rfl, rfl, SqT.of ha, atI_nat (j := 0) rfl, y, _, rfl, DGet.k (k := .inr "tool") h7y, rfl, _, rfl, ?_⟩
          refine iteF' (by show (!decide (V.int ((2 : Nat) : Int) = V.int 2)) = false; decide +kernel) ?_
          refine ⟨_, rfl, _, rfl, a, _, _, _, rfl, rfl, SqT.of ha, rfl, _, _, .type "str", .type "str", true, rfl, .ty "str", .base (.str _), kit_ty (by decide +kernel), _, rfl, iteF ?_⟩
          exact ⟨_, rfl, a, _, 0, _, rfl, rfl, SqT.of ha, atI_nat (j := 0) rfl, rfl, _, rfl, iteT' (by decide +kernel) (q _ s7)⟩
end
end N4

set_option maxHeartbeats 3900000
namespace N4
open PySem PySem.Spec PyProof.Rows L2 TL RP
open C8 (pss_cut tCut pe_gc)
open CB
abbrev sDone : Stmt := top 49
theorem str_is (z : Str) : (!decide (V.str z = V.non)) = true := by
  rw [decide_eq_false (by intro e; cases e)]
  rfl
theorem str_isN (z : Str) : decide (V.str z = V.non) = false := decide_eq_false (by intro e; cases e)
theorem same_upd {H H' : Hp} {d : Addr} {o : HO} (s : Same H H') (n : H d = none) : Same H (upd H' d o) := fun b u hb => by
  have n1 : b ≠ d := fun e => by rw [e, n] at hb; cases hb
  rw [upd_ne n1]
  exact s b u hb
theorem room_iff {fs : Fs} {p : List Str} : room fs p = true ↔ ∀ q, fOf fs q ≠ none → ben p q = false ∧ ben q p = false := by
  unfold room
  constructor
  · intro h q hq
    obtain ⟨e, he, rfl⟩ := List.mem_map.mp (fOf_mem.mp hq)
    have h2 : (fs.any fun e => ben p e.1 || ben e.1 p) = false := by
      cases g : fs.any fun e => ben p e.1 || ben e.1 p with
      | false => rfl
      | true =>
        rw [g] at h
        cases h
    rw [List.any_eq_false] at h2
    have h3 := h2 e he
    rw [Bool.or_eq_true] at h3
    exact ⟨Bool.eq_false_iff.mpr fun z => h3 (.inl z), Bool.eq_false_iff.mpr fun z => h3 (.inr z)⟩
  · intro h
    have h2 : (fs.any fun e => ben p e.1 || ben e.1 p) = false := by
      rw [List.any_eq_false]
      intro e he
      obtain ⟨a, b⟩ := h e.1 (fOf_mem.mpr (List.mem_map_of_mem he))
      rw [a, b]
      decide
    rw [h2]
    rfl
/-- a world of the law's: files and settings in dicts -/
structure Wq (H : Hp) (x : Addr) (zs : List Str) (a : St0) (n : Nat) (fs : Fs) (ss : Ss) : Prop where
  wa : WAt H x fs ss a.z
  g : GoodF zs fs
  gs : GoodS zs ss
  fl : fs.length ≤ n
  sl : ss.length ≤ n
  f : ∀ p, fOf fs p = a.f p
  s : ∀ q, sOf ss q = a.s q
theorem Wq.same {H H' : Hp} {x : Addr} {zs : List Str} {a : St0} {n : Nat} {fs : Fs} {ss : Ss} (h : Wq H x zs a n fs ss) (s : Same H H') : Wq H' x zs a n fs ss := ⟨h.wa.same s, h.g, h.gs, h.fl, h.sl, h.f, h.s⟩
def spDone (K : PySem.W.Frag) : Sp := fun vs H Q _ => ∃ (x : Addr) (v : V) (zs : List Str) (st l : Addr) (k : Option Ch) (H0 : Hp) (a : St0) (n : Nat) (fs : Fs) (ss : Ss), vs = [.ref x, v] ∧ Wq H x zs a n fs ss ∧ n ≤ 40 ∧ Th zs K false st l H0 H v k ∧ (∀ y ∈ zs, IsNm y) ∧
  (stepK zs a k = none → ∀ H', Same H H' → Q .non H') ∧ ∀ b, stepK zs a k = some b → ∀ (x' : Addr) (H' : Hp) (fs' : Fs) (ss' : Ss), Same H H' → Wq H' x' zs b (n + 1) fs' ss' → Q (.ref x') H'
section
variable {P : Program} {w : World} {K : PySem.W.Frag} {mg : Str → Option Value} {base : Heap}
theorem scDone : FnScope ["_law_w", "_law_thing", "_law_files_here", "_law_settings"] ["_law_w", "_law_thing"] (defScope sDone) := ⟨rfl, rfl, rfl, by decide +kernel, rfl, by decide +kernel, by decide +kernel⟩
theorem ok_done {f fIs fRo : Addr} {fd fdIs fdRo : FuncData} (F : Fun K "_law_done" "_law_done" sDone f fd) (T : TB mg) (mDict : mg "dict" = none) (aIsC : At K mg "_law_is_change" fIs fdIs ["_law_thing"]) (GIsC : FnOk P w K mg base CX0 1 fIs fdIs ["_law_thing"] (spIsC K))
    (aRoom : At K mg "_law_has_room" fRo fdRo ["_law_files_here", "_law_path_here"]) (GRoom : FnOk P w K mg base CX0 2 fRo fdRo ["_law_files_here", "_law_path_here"] spRoom) : FnOk P w K mg base CX0 3 f fd ["_law_w", "_law_thing"] (spDone K) := by
  refine F.ok scDone (fun vs H Q E h => ?_) (fun cdv A outer s H vs Q E hr h => ?_)
  · obtain ⟨x, v, zs, st, l, k, H0, a, n, fs, ss, rfl, _⟩ := h
    rfl
  · obtain ⟨x, v, zs, st, l, k, H0, a, n, fs, ss, rfl, W, hn, th, nm, qn, qb⟩ := h
    have hu1 := Nat.lt_of_le_of_lt (Nat.add_le_add_left (show 1 ≤ 64 by decide) _) hr.units
    refine ⟨_, pss_cons (ps_if (pt_not (pt_val (pe_call GIsC (hr.mono (by decide)) rfl aIsC.m aIsC.k aIsC.b .nil pass0 (pa_cons (pv 1) pa_nil)))) (pss_one (ps_ret pe_non)) (pss_nil))
            (pss_cons (ps_par (i := 2) (j := 3) (by rfl) scDone.nd rfl rfl (by decide) rfl rfl (pa_cons (pe_callTy call_dictD (by rfl) mDict (by decide +kernel) (pa_cons (pe_dget hu1 (pv 0) pe_str (fun _ _ => rfl)) pa_nil)) (pa_cons (pe_callTy call_dictD (by rfl) mDict (by decide +kernel) (pa_cons (pe_dget hu1 (pv 0) pe_str (fun _ _ => rfl)) pa_nil)) pa_nil)) (by rfl))
            (pss_cons (ps_if (pt_cmpR op_eq (pe_ix ix_tup (pv 1) pe_int (fun _ _ => rfl)) pe_str (nomark _)) (pss_one (ps_ret (pe_disp (pps_cons pe_str (pv 2) (pps_cons pe_str (pv 3) (pps_cons pe_str (pe_ix ix_tup (pv 1) pe_int (fun _ _ => rfl)) pps_nil))) rfl rfl (by simp) (by decide)))) (pss_nil))
            (pss_cut (ps_if (pt_cmpR op_eq (pe_ix ix_tup (pv 1) pe_int (fun _ _ => rfl)) pe_str (nomark _)) (pss_cons (ps_expr (pe_dpop2 (pv 3) (pe_ix ix_tup (pv 1) pe_int (fun _ _ => rfl)) pe_non ⟨rfl, rfl, rfl, rfl⟩))
            (pss_one (ps_if (pt_cmp (pc_notN (pe_ix ix_tup (pv 1) pe_int (fun _ _ => rfl)))) (pss_one (ps_dput hu1 (pv 3) (pe_ix ix_tup (pv 1) pe_int (fun _ _ => rfl)) (pe_ix ix_tup (pv 1) pe_int (fun _ _ => rfl)) rfl)) (pss_nil)))) (pss_one (ps_if (pt_cmpR op_eq (pe_ix ix_tup (pv 1) pe_int (fun _ _ => rfl)) pe_str (nomark _)) (pss_one (ps_if (pt_cmp (pc_isN (pe_dpop2 (pv 2) (pe_ix ix_tup (pv 1) pe_int (fun _ _ => rfl)) pe_non ⟨rfl, rfl, rfl, rfl⟩))) (pss_one (ps_ret pe_non)) (pss_nil))) (pss_cons (ps_if (pt_not (pt_val (pe_call GRoom (hr.mono (by decide)) rfl aRoom.m aRoom.k aRoom.b .nil pass0 (pa_cons (pv 2) (pa_cons (pe_ix ix_tup (pv 1) pe_int (fun _ _ => rfl)) pa_nil))))) (pss_one (ps_ret pe_non)) (pss_nil))
            (pss_one (ps_dput hu1 (pv 2) (pe_ix ix_tup (pv 1) pe_int (fun _ _ => rfl)) (pe_ix ix_tup (pv 1) pe_int (fun _ _ => rfl)) rfl))))))
            (pss_one (ps_ret (pe_disp (pps_cons pe_str (pv 2) (pps_cons pe_str (pv 3) (pps_cons pe_str (pe_dget hu1 (pv 0) pe_str (fun _ _ => rfl)) pps_nil))) rfl rfl (by simp) (by decide))))))), ?_⟩
    refine ⟨_, rfl, v, zs, st, l, k, H0, rfl, th, nm, fun H1 s1 => ⟨_, rfl, ?_⟩⟩
    cases k with
    | none => exact iteT (qn rfl H1 s1)
    | some c =>
      refine iteF ?_
      have row := th.at
      obtain ⟨t, ht, ci⟩ : ∃ t, v = .ref t ∧ H t = some (.tup (chV c)) ∧ ChIn zs c := by
        cases th with
        | tup n0 n1 n2 h o d f g => exact ⟨_, rfl, by rw [← o.1]; exact h, o.2⟩
        | lst n0 n1 n2 h o d f q => exact q.elim (fun h => by cases h) fun h => by cases h
      subst ht
      obtain ⟨ht, ci⟩ := ci
      clear row th
      obtain ⟨d0, e0, hx, hd0, he0⟩ := W.wa
      have ht := s1 _ _ ht
      refine ⟨_, rfl, x, _, rfl, wd_f (s1 _ _ hx), d0, _, rfl, .inl (s1 _ _ hd0), fun d nd => ?_⟩
      have s2 := same_mk (o := .dK (fsK fs)) nd
      have g1 := upd_same (H := H1) (a := d) (o := .dK (fsK fs))
      have ht := s2 _ _ ht
      have s12 := s1.trans s2
      have nd0 := s1.free nd
      generalize upd H1 d (.dK (fsK fs)) = H2 at s2 g1 ht s12 ⊢
      refine ⟨_, rfl, x, _, rfl, wd_s (s12 _ _ hx), e0, _, rfl, .inl (s12 _ _ he0), fun e ne => ?_⟩
      have s3 := same_mk (o := .dK (ssK ss)) ne
      have g2 := upd_same (H := H2) (a := e) (o := .dK (ssK ss))
      have de : d ≠ e := fun z => by rw [← z, g1] at ne; cases ne
      have g1 := s3 _ _ g1
      have ht := s3 _ _ ht
      have ne0 := s12.free ne
      have s13 := s12.trans s3
      generalize upd H2 e (.dK (ssK ss)) = H3 at s3 g1 g2 ht s13 ⊢
      clear s1 s2 s12 nd ne s3
      refine ⟨_, _, rfl, ?_⟩
      have td : t ≠ d := fun z => by rw [z, g1] at ht; cases ht
      have te : t ≠ e := fun z => by rw [z, g2] at ht; cases ht
      have nf : ∀ e ∈ fs, Nms e.1 := fun e he y hy => nm y ((W.g.path e he).2.2 y hy)
      have af : fOf fs = a.f := funext W.f
      have as : sOf ss = a.s := funext W.s
      have fl := W.fl
      have sl := W.sl
      have fin : ∀ (b : St0) (H7 : Hp) (fs1 : Fs) (ss1 : Ss) (y : Addr), stepK zs a (some c) = some b → H7 y = none → Same H H7 → H7 d = some (.dK (fsK fs1)) → H7 e = some (.dK (ssK ss1)) → GoodF zs fs1 → GoodS zs ss1 → fs1.length ≤ n + 1 → ss1.length ≤ n + 1 → (∀ p, fOf fs1 p = b.f p) → (∀ q, sOf ss1 q = b.s q) →
          Q (.ref y) (upd (upd H7 y (.dK [])) y (.dK [(.inr "files", .ref d), (.inr "settings", .ref e), (.inr "tool", .str b.z)])) := fun b H7 fs1 ss1 y sb my s7 h7d h7e g7 gs7 fl7 sl7 f7 s7' => by
        have yd : d ≠ y := fun z => by rw [← z, h7d] at my; cases my
        have ye : e ≠ y := fun z => by rw [← z, h7e] at my; cases my
        exact qb b sb y _ fs1 ss1 (same_upd (same_upd s7 (s7.free my)) (s7.free my)) ⟨⟨d, e, upd_same, by rw [upd_ne yd, upd_ne yd]; exact h7d, by rw [upd_ne ye, upd_ne ye]; exact h7e⟩, g7, gs7, fl7, sl7, f7, s7'⟩
      let M : St0 → L2.St → Hp → Prop := fun b σ H' => ∃ fs1 ss1, σ = [some (.ref x), some (.ref t), some (.ref d), some (.ref e)] ∧ Same H H' ∧ H' d = some (.dK (fsK fs1)) ∧ H' e = some (.dK (ssK ss1)) ∧ GoodF zs fs1 ∧ GoodS zs ss1 ∧ fs1.length ≤ n + 1 ∧ ss1.length ≤ n + 1 ∧ (∀ p, fOf fs1 p = b.f p) ∧ (∀ q, sOf ss1 q = b.s q)
      cases c with
      | tool tl =>
        refine ⟨_, rfl, t, _, 0, _, rfl, rfl, SqT.of ht, atI_nat (j := 0) rfl, rfl, _, rfl, iteY rfl ?_⟩
        refine fun y my => ?_
        have sy := same_mk (o := .dK []) my
        refine ⟨_, rfl, _, rfl, _, rfl, t, _, 1, _, rfl, rfl, SqT.of (sy _ _ ht), atI_nat (j := 1) rfl, upd_same, [(.inr "files", .ref d), (.inr "settings", .ref e), (.inr "tool", .str tl)], rfl, by show 3 ≤ 15; decide, ?_⟩
        rw [disp3]
        exact fin (a.do (.tool tl)) H3 fs ss y (if_pos ci) my s13 g1 g2 W.g W.gs (by omega) (by omega) W.f W.s
      | set m o =>
        refine ⟨_, rfl, t, _, 0, _, rfl, rfl, SqT.of ht, atI_nat (j := 0) rfl, rfl, _, rfl, iteN (by decide +kernel) ?_⟩
        refine ⟨M (a.do (.set m o)), ?_, ?_⟩
        · refine ⟨_, rfl, t, _, 0, _, rfl, rfl, SqT.of ht, atI_nat (j := 0) rfl, rfl, _, rfl, iteY rfl ?_⟩
          refine ⟨_, rfl, e, rfl, .inl ⟨_, .inl g2⟩, _, rfl, t, _, 1, _, rfl, rfl, SqT.of ht, atI_nat (j := 1) rfl, ssK ss, .inr m, g2, rfl, fun v0 hv0 => ?_, fun hv0 => ?_⟩
          · rw [ssK_drop]
            have gsn := W.gs.sub (dropS_sub ss m)
            have sln : (dropS ss m).length ≤ n := Nat.le_trans (dropS_sub ss m).length_le sl
            have h4t : (upd H3 e (.dK (ssK (dropS ss m)))) t = some (.tup (chV (.set m o))) := by rw [upd_ne te]; exact ht
            refine ⟨_, rfl, t, _, 2, _, rfl, rfl, SqT.of h4t, atI_nat (j := 2) rfl, _, rfl, ?_⟩
            cases o with
            | none => exact iteF' (by decide +kernel) ⟨fs, (dropS ss m), rfl, (same_upd s13 ne0), (by rw [upd_ne de]; exact g1), (upd_same), W.g, gsn, by omega, by omega, W.f, fun q => by rw [sOf_drop, as]; rfl⟩
            | some tx =>
              refine iteT' (str_is _) ⟨_, rfl, t, _, 2, _, rfl, rfl, SqT.of h4t, atI_nat (j := 2) rfl, _, rfl, _, rfl, t, _, 1, _, rfl, rfl, SqT.of h4t, atI_nat (j := 1) rfl, e, _, rfl, DPut.k (k := .inr m) (upd_same) (Nat.lt_of_le_of_lt (show (ssK (dropS ss m)).length ≤ 41 by unfold ssK; rw [List.length_map]; omega) (by decide)), ?_⟩
              rw [show oV (some tx) = V.str tx from rfl, ssK_putS]
              exact ⟨fs, putS (dropS ss m) m tx, rfl, same_upd (same_upd s13 ne0) ne0, by rw [upd_ne de]; exact (by rw [upd_ne de]; exact g1), upd_same, W.g, gsn.putS ci.1 (ci.2 tx rfl), by omega, Nat.le_trans (putS_len (dropS ss m) m tx) (by omega), W.f, fun q => by rw [sOf_put, sOf_drop, as]; show _ = if q = m then some tx else a.s q; by_cases z : q = m <;> simp [z]⟩
          · have gsn := W.gs
            have sn : ∀ q, sOf ss q = if q = m then none else a.s q := fun q => by
              by_cases z : q = m
              · subst z
                rw [if_pos rfl]
                rw [ss_val] at hv0
                cases g : sOf ss q with
                | none => rfl
                | some w => rw [g] at hv0; cases hv0
              · rw [if_neg z, as]
            refine ⟨_, rfl, t, _, 2, _, rfl, rfl, SqT.of ht, atI_nat (j := 2) rfl, _, rfl, ?_⟩
            cases o with
            | none => exact iteF' (by decide +kernel) ⟨fs, ss, rfl, s13, g1, g2, W.g, gsn, by omega, by omega, W.f, fun q => by rw [sn]; rfl⟩
            | some tx =>
              refine iteT' (str_is _) ⟨_, rfl, t, _, 2, _, rfl, rfl, SqT.of ht, atI_nat (j := 2) rfl, _, rfl, _, rfl, t, _, 1, _, rfl, rfl, SqT.of ht, atI_nat (j := 1) rfl, e, _, rfl, DPut.k (k := .inr m) g2 (Nat.lt_of_le_of_lt (show (ssK ss).length ≤ 41 by unfold ssK; rw [List.length_map]; omega) (by decide)), ?_⟩
              rw [show oV (some tx) = V.str tx from rfl, ssK_putS]
              exact ⟨fs, putS ss m tx, rfl, same_upd s13 ne0, by rw [upd_ne de]; exact g1, upd_same, W.g, gsn.putS ci.1 (ci.2 tx rfl), by omega, Nat.le_trans (putS_len ss m tx) (by omega), W.f, fun q => by rw [sOf_put, sn]; show _ = if q = m then some tx else a.s q; by_cases z : q = m <;> simp [z]⟩
        · rintro _ H4 ⟨fs1, ss1, rfl, s14, h4d, h4e, g4, gs4, fl4, sl4, f4, s4⟩
          refine fun y my => ?_
          have sy := same_mk (o := .dK []) my
          have hx4 := s14 _ _ hx
          refine ⟨_, rfl, _, rfl, _, rfl, x, _, rfl, wd_t (sy _ _ hx4), upd_same, [(.inr "files", .ref d), (.inr "settings", .ref e), (.inr "tool", .str a.z)], rfl, by show 3 ≤ 15; decide, ?_⟩
          rw [disp3]
          exact fin (a.do (.set m o)) H4 fs1 ss1 y (if_pos ci) my s14 h4d h4e g4 gs4 fl4 sl4 f4 s4
      | drop p =>
        have np : Nms p := fun y hy => nm y (ci.2.2 y hy)
        refine ⟨_, rfl, t, _, 0, _, rfl, rfl, SqT.of ht, atI_nat (j := 0) rfl, rfl, _, rfl, iteN (by decide +kernel) ?_⟩
        by_cases cc : Can zs a (.drop p)
        · refine ⟨M (a.do (.drop p)), ?_, ?_⟩
          · refine ⟨_, rfl, t, _, 0, _, rfl, rfl, SqT.of ht, atI_nat (j := 0) rfl, rfl, _, rfl, iteN (by decide +kernel) ⟨_, rfl, t, _, 0, _, rfl, rfl, SqT.of ht, atI_nat (j := 0) rfl, rfl, _, rfl, iteY rfl ?_⟩⟩
            refine ⟨_, rfl, d, rfl, .inl ⟨_, .inl g1⟩, _, rfl, t, _, 1, _, rfl, rfl, SqT.of ht, atI_nat (j := 1) rfl, fsK fs, .inr (js p), g1, rfl, fun v0 hv0 => ?_, fun hv0 => ?_⟩
            · rw [fs_val nf np] at hv0
              obtain ⟨tx, hf, rfl⟩ := Option.map_eq_some_iff.mp hv0
              rw [fsK_drop nf np]
              exact ⟨_, rfl, iteF' (str_isN _) ⟨dropF fs p, ss, rfl, same_upd s13 nd0, upd_same, by rw [upd_ne de.symm]; exact g2, W.g.sub (dropF_sub fs p), W.gs, Nat.le_trans (dropF_sub fs p).length_le (by omega), by omega, fun q => by rw [fOf_drop, af]; rfl, W.s⟩⟩
            · rw [fs_val nf np] at hv0
              refine ⟨_, rfl, iteT' (by decide +kernel) (qn ?_ H3 s13)⟩
              refine if_neg fun cc => ?_
              have c2 : a.f p ≠ none := cc.2
              rw [← af] at c2
              cases g : fOf fs p with
              | none => exact c2 g
              | some w => rw [g] at hv0; cases hv0
          · rintro _ H4 ⟨fs1, ss1, rfl, s14, h4d, h4e, g4, gs4, fl4, sl4, f4, s4⟩
            refine fun y my => ?_
            have sy := same_mk (o := .dK []) my
            have hx4 := s14 _ _ hx
            refine ⟨_, rfl, _, rfl, _, rfl, x, _, rfl, wd_t (sy _ _ hx4), upd_same, [(.inr "files", .ref d), (.inr "settings", .ref e), (.inr "tool", .str a.z)], rfl, by show 3 ≤ 15; decide, ?_⟩
            rw [disp3]
            exact fin (a.do (.drop p)) H4 fs1 ss1 y (if_pos cc) my s14 h4d h4e g4 gs4 fl4 sl4 f4 s4
        · refine ⟨fun _ _ => False, ?_, fun _ _ h => h.elim⟩
          · refine ⟨_, rfl, t, _, 0, _, rfl, rfl, SqT.of ht, atI_nat (j := 0) rfl, rfl, _, rfl, iteN (by decide +kernel) ⟨_, rfl, t, _, 0, _, rfl, rfl, SqT.of ht, atI_nat (j := 0) rfl, rfl, _, rfl, iteY rfl ?_⟩⟩
            refine ⟨_, rfl, d, rfl, .inl ⟨_, .inl g1⟩, _, rfl, t, _, 1, _, rfl, rfl, SqT.of ht, atI_nat (j := 1) rfl, fsK fs, .inr (js p), g1, rfl, fun v0 hv0 => ?_, fun hv0 => ?_⟩
            · rw [fs_val nf np] at hv0
              obtain ⟨tx, hf, rfl⟩ := Option.map_eq_some_iff.mp hv0
              exact absurd ⟨ci, by rw [← af, hf]; intro z; cases z⟩ cc
            · rw [fs_val nf np] at hv0
              refine ⟨_, rfl, iteT' (by decide +kernel) (qn ?_ H3 s13)⟩
              refine if_neg fun cc => ?_
              have c2 : a.f p ≠ none := cc.2
              rw [← af] at c2
              cases g : fOf fs p with
              | none => exact c2 g
              | some w => rw [g] at hv0; cases hv0
      | put p tx =>
        have np : Nms p := fun y hy => nm y (ci.1.2.2 y hy)
        refine ⟨_, rfl, t, _, 0, _, rfl, rfl, SqT.of ht, atI_nat (j := 0) rfl, rfl, _, rfl, iteN (by decide +kernel) ?_⟩
        by_cases cc : Can zs a (.put p tx)
        · refine ⟨M (a.do (.put p tx)), ?_, ?_⟩
          · refine ⟨_, rfl, t, _, 0, _, rfl, rfl, SqT.of ht, atI_nat (j := 0) rfl, rfl, _, rfl, iteN (by decide +kernel) ⟨_, rfl, t, _, 0, _, rfl, rfl, SqT.of ht, atI_nat (j := 0) rfl, rfl, _, rfl, iteN (by decide +kernel) ?_⟩⟩
            refine ⟨_, rfl, _, rfl, t, _, 1, _, rfl, rfl, SqT.of ht, atI_nat (j := 1) rfl, d, fs, p, rfl, g1, by omega, (fun e he => ⟨nf e he, by have := (W.g.path e he).2.1; omega⟩), np, (by have := ci.1.2.1; omega), fun H4 s4 => ⟨_, rfl, ?_⟩⟩
            have rm : room fs p = true := room_iff.mpr (by rw [af]; exact cc.2.2)
            rw [rm]
            have ht4 := s4 _ _ ht
            have g14 := s4 _ _ g1
            refine iteF' (by rfl) ⟨_, rfl, t, _, 2, _, rfl, rfl, SqT.of ht4, atI_nat (j := 2) rfl, _, rfl, _, rfl, t, _, 1, _, rfl, rfl, SqT.of ht4, atI_nat (j := 1) rfl, d, _, rfl, DPut.k (k := .inr (js p)) g14 (Nat.lt_of_le_of_lt (show (fsK fs).length ≤ 41 by unfold fsK; rw [List.length_map]; omega) (by decide)), ?_⟩
            rw [fsK_put nf np]
            exact ⟨putF fs p tx, ss, rfl, same_upd (s13.trans s4) nd0, upd_same, by rw [upd_ne de.symm]; exact s4 _ _ g2, W.g.put ci.1.1 ci.1.2.1 ci.1.2.2 ci.2 rm, W.gs, Nat.le_trans (putF_len fs p tx) (by omega), by omega, fun q => by rw [fOf_put, af]; rfl, W.s⟩
          · rintro _ H4 ⟨fs1, ss1, rfl, s14, h4d, h4e, g4, gs4, fl4, sl4, f4, s4⟩
            refine fun y my => ?_
            have sy := same_mk (o := .dK []) my
            have hx4 := s14 _ _ hx
            refine ⟨_, rfl, _, rfl, _, rfl, x, _, rfl, wd_t (sy _ _ hx4), upd_same, [(.inr "files", .ref d), (.inr "settings", .ref e), (.inr "tool", .str a.z)], rfl, by show 3 ≤ 15; decide, ?_⟩
            rw [disp3]
            exact fin (a.do (.put p tx)) H4 fs1 ss1 y (if_pos cc) my s14 h4d h4e g4 gs4 fl4 sl4 f4 s4
        · refine ⟨fun _ _ => False, ?_, fun _ _ h => h.elim⟩
          · refine ⟨_, rfl, t, _, 0, _, rfl, rfl, SqT.of ht, atI_nat (j := 0) rfl, rfl, _, rfl, iteN (by decide +kernel) ⟨_, rfl, t, _, 0, _, rfl, rfl, SqT.of ht, atI_nat (j := 0) rfl, rfl, _, rfl, iteN (by decide +kernel) ?_⟩⟩
            refine ⟨_, rfl, _, rfl, t, _, 1, _, rfl, rfl, SqT.of ht, atI_nat (j := 1) rfl, d, fs, p, rfl, g1, by omega, (fun e he => ⟨nf e he, by have := (W.g.path e he).2.1; omega⟩), np, (by have := ci.1.2.1; omega), fun H4 s4 => ⟨_, rfl, ?_⟩⟩
            have rm : room fs p = false := by
              cases g : room fs p with
              | false => rfl
              | true => exact absurd ⟨ci.1, ci.2, by rw [← af]; exact room_iff.mp g⟩ cc
            rw [rm]
            exact iteT' (by rfl) (qn (if_neg cc) H4 (s13.trans s4))
end
end N4

set_option maxHeartbeats 3900000
namespace N4
open PySem PySem.Spec PyProof.Rows L2 TL RP
open C8 (pss_cut tCut pe_gc)
open CB
abbrev sLaw : Stmt := top 50
/-! a block, statement by statement -/
def Step (X : Cx) (st : Stmt) (A B : L2.St → Hp → Prop) : Prop := ∃ t, PS X st t ∧ ∀ (D : Ends) σ H, A σ H → (∀ σ' H', B σ' H' → D.nx σ' H') → t D σ H
def Steps (X : Cx) (ss : List Stmt) (A B : L2.St → Hp → Prop) : Prop := ∃ t, PSs X ss t ∧ ∀ (D : Ends) σ H, A σ H → (∀ σ' H', B σ' H' → D.nx σ' H') → t D σ H
theorem steps_cons {X : Cx} {st : Stmt} {ss : List Stmt} {A B C : L2.St → Hp → Prop} (h : Step X st A B) (r : Steps X ss B C) : Steps X (st :: ss) A C := by
  obtain ⟨t, p, q⟩ := h
  obtain ⟨u, p2, q2⟩ := r
  exact ⟨_, pss_cut p p2, fun D σ H a k => ⟨B, q _ σ H a fun _ _ b => b, fun σ' H' b => q2 D σ' H' b k⟩⟩
theorem steps_one {X : Cx} {st : Stmt} {A B : L2.St → Hp → Prop} (h : Step X st A B) : Steps X [st] A B := by
  obtain ⟨t, p, q⟩ := h
  exact ⟨_, pss_one p, fun D σ H a k => q D σ H a k⟩
/-- what a block itself asks -/
def tW (X : Cx) (ss : List Stmt) : TS := fun D σ H => ∀ (pins : List (Addr × Obj)) (s : Shared), Inv X pins σ H s → wpAny (model X.prog X.w) X.A (execs ss X.env) (SP X pins D) X.xe s
theorem psW {X : Cx} {ss : List Stmt} : PSs X ss (tW X ss) := ⟨fun pins s σ H D I h => h pins s I⟩
theorem Steps.wish {X : Cx} {ss : List Stmt} {A B : L2.St → Hp → Prop} (h : Steps X ss A B) {D : Ends} {σ : L2.St} {H : Hp} (a : A σ H) (k : ∀ σ' H', B σ' H' → D.nx σ' H') : tW X ss D σ H := by
  obtain ⟨t, p, q⟩ := h
  exact fun pins s I => p.run pins s σ H D I (q D σ H a k)
def forBody : Stmt → List Stmt
  | .For _ _ b _ _ => b
  | _ => []

abbrev bd (i : Nat) : Stmt := (forBody ((defBody sLaw).getD 1 (.Pass ⟨0, 0, 0, 0⟩))).getD i (.Pass ⟨0, 0, 0, 0⟩)
abbrev bd3 (i : Nat) : Stmt := (forBody (bd 3)).getD i (.Pass ⟨0, 0, 0, 0⟩)
/-! the names and places of the law -/
structure LV (P : Program) (w : World) (K : PySem.W.Frag) (mg : Str → Option Value) (base : Heap) (C : Addr) (fa : Str → Addr) (fd : Str → FuncData) : Prop where
  T : TB mg
  mDict : mg "dict" = none
  R : WCl K mg C
  mEq : Meth K C "__eq__" (fa "eq")
  ne : PySem.W.findIn K (.ref C) "__ne__" = some (some (.builtin "object.__ne__"))
  so : PySem.W.subIn K (.ref C) (.type "object") = some true
  bEq : L2.Binds K (fd "eq") ["self", "other"] []
  GEq : FnOk P w K mg base CX0 1 (fa "eq") (fd "eq") ["self", "other"] (spWEq C)
  mFi : Meth K C "files" (fa "files")
  bWF : L2.Binds K (fd "files") ["self"] []
  GWF : FnOk P w K mg base CX0 1 (fa "files") (fd "files") ["self"] (spWFiles C)
  mSe : Meth K C "settings" (fa "settings")
  bWS : L2.Binds K (fd "settings") ["self"] []
  GWS : FnOk P w K mg base CX0 1 (fa "settings") (fd "settings") ["self"] (spWSet C)
  aD : aD' K mg (fa "draw") (fd "draw")
  GD : FnOk P w K mg base CX0 1 (fa "draw") (fd "draw") ["_law_stream", "_law_many"] spDraw
  aP : At K mg "_law_pick" (fa "pick") (fd "pick") ["_law_stream", "_law_things"]
  GP : FnOk P w K mg base CX0 2 (fa "pick") (fd "pick") ["_law_stream", "_law_things"] spPick
  aPo : At K mg "_law_pool" (fa "pool") (fd "pool") ["_law_stream", "_law_many"]
  GPo : FnOk P w K mg base CX0 4 (fa "pool") (fd "pool") ["_law_stream", "_law_many"] spPool
  aWorld : At K mg "_law_world" (fa "world") (fd "world") ["_law_stream", "_law_pool_here", "_law_most"]
  GWorld : FnOk P w K mg base CX0 5 (fa "world") (fd "world") ["_law_stream", "_law_pool_here", "_law_most"] spWorld
  aMade : At K mg "_law_made" (fa "made") (fd "made") ["_law_w"]
  GMade : FnOk P w K mg base CX0 6 (fa "made") (fd "made") ["_law_w"] (spMade C)
  aChange : At K mg "_law_change" (fa "change") (fd "change") ["_law_stream", "_law_pool_here", "_law_w"]
  GChange : FnOk P w K mg base CX0 4 (fa "change") (fd "change") ["_law_stream", "_law_pool_here", "_law_w"] (spChange K)
  aDone : At K mg "_law_done" (fa "done") (fd "done") ["_law_w", "_law_thing"]
  GDone : FnOk P w K mg base CX0 3 (fa "done") (fd "done") ["_law_w", "_law_thing"] (spDone K)
  aSa : At K mg "_law_same" (fa "same") (fd "same") ["_law_found", "_law_due"]
  GSa : FnG P w K mg base CX0 1 (fa "same") (fd "same") ["_law_found", "_law_due"] (spSame K)
theorem scLaw : FnScope ["_law_script", "_law_stream", "_law_turn", "_law_pool_here", "_law_w", "_law_world_here", "_law_now", "_law_row", "_law_bad", "_law_k", "_law_behind", "_law_passed", "_law_kept", "_law_found", "e", "_law_told", "_law_due", "_law_one", "_law_path_here"] ["_law_script"] (defScope sLaw) := ⟨rfl, rfl, rfl, by decide +kernel, rfl, by decide +kernel, by decide +kernel⟩
abbrev XL (P : Program) (w : World) (K : PySem.W.Frag) (mg : Str → Option Value) (base : Heap) (f : Addr) (cdv : Value) (A : Around) (outer : List Env) (s : Shared) (H : Hp) (E : XK) : Cx :=
  (cxOf CX0 P w K mg base ["_law_script", "_law_stream", "_law_turn", "_law_pool_here", "_law_w", "_law_world_here", "_law_now", "_law_row", "_law_bad", "_law_k", "_law_behind", "_law_passed", "_law_kept", "_law_found", "e", "_law_told", "_law_due", "_law_one", "_law_path_here"] "law" (defScope sLaw) f cdv A outer s H E).nox
/-- the turn's world and the one made of it -/
structure Tn (C : Addr) (H : Hp) (st l p x o : Addr) (zs : List Str) (fs : Fs) (ss : Ss) (z : Str) (gf : Fs) (gs : Ss) : Prop where
  nm : ∀ y ∈ zs, IsNm y
  zl : zs.length = 3
  L : Pool H st l p zs
  q : Wq H x zs ⟨fOf fs, sOf ss, z⟩ 6 fs ss
  wo : WoAt C H o gf gs z
  pf : gf.Perm fs
  ps : gs.Perm ss
  srtF : sortedS (gf.map fun x => js x.1) = true
  srtS : sortedS (gs.map (·.1)) = true
  tz : z ∈ tools
theorem Wq.but {H H' : Hp} {st l : Addr} {c : Nat} {x : Addr} {zs : List Str} {a : St0} {n : Nat} {fs : Fs} {ss : Ss} (h : Wq H x zs a n fs ss) (S : Strm H st l c) (B : But st l H H') : Wq H' x zs a n fs ss := ⟨h.wa.but S B, h.g, h.gs, h.fl, h.sl, h.f, h.s⟩
theorem Tn.but {C : Addr} {H H' : Hp} {st l p x o : Addr} {c : Nat} {zs : List Str} {fs : Fs} {ss : Ss} {z : Str} {gf : Fs} {gs : Ss} (h : Tn C H st l p x o zs fs ss z gf gs) (S : Strm H st l c) (B : But st l H H') : Tn C H' st l p x o zs fs ss z gf gs :=
  ⟨h.nm, h.zl, h.L.but B, h.q.but S B, h.wo.but S B, h.pf, h.ps, h.srtF, h.srtS, h.tz⟩
def J0 (v0 : V) (st l : Addr) (c : Nat) : L2.St → Hp → Prop := fun σ H => ∃ x2 x3 x4 x5 x6 x7 x8 x9 x10 x11 x12 x13 x14 x15 x16 x17 x18, σ = [some v0, some (.ref st), x2, x3, x4, x5, x6, x7, x8, x9, x10, x11, x12, x13, x14, x15, x16, x17, x18] ∧ Strm H st l c ∧ c ≤ 5000
def J1 (v0 : V) (st l : Addr) (c : Nat) : L2.St → Hp → Prop := fun σ H => ∃ (p : Addr) (zs : List Str) (x2 x4 x5 x6 x7 x8 x9 x10 x11 x12 x13 x14 x15 x16 x17 x18 : Option V), σ = [some v0, some (.ref st), x2, some (.ref p), x4, x5, x6, x7, x8, x9, x10, x11, x12, x13, x14, x15, x16, x17, x18] ∧ (∃ c' ≤ c + 33, Strm H st l c') ∧ c ≤ 5000 ∧ Pool H st l p zs ∧ zs.length = 3 ∧ zs.Nodup ∧ ∀ y ∈ zs, IsNm y
def J2 (v0 : V) (st l : Addr) (c : Nat) : L2.St → Hp → Prop := fun σ H => ∃ (p x : Addr) (zs : List Str) (fs : Fs) (ss : Ss) (z : Str) (x2 x5 x6 x7 x8 x9 x10 x11 x12 x13 x14 x15 x16 x17 x18 : Option V), σ = [some v0, some (.ref st), x2, some (.ref p), some (.ref x), x5, x6, x7, x8, x9, x10, x11, x12, x13, x14, x15, x16, x17, x18] ∧ (∃ c' ≤ c + 69, Strm H st l c') ∧ c ≤ 5000 ∧ Pool H st l p zs ∧ zs.length = 3 ∧ (∀ y ∈ zs, IsNm y) ∧ Wq H x zs ⟨fOf fs, sOf ss, z⟩ 6 fs ss ∧ z ∈ tools
/-- .. from a heap on in which R was free -/
def Tb (C : Addr) (H : Hp) (st l p x o R : Addr) (zs : List Str) (fs : Fs) (ss : Ss) (z : Str) (gf : Fs) (gs : Ss) : Prop := ∃ (HT : Hp) (c0 : Nat), Tn C HT st l p x o zs fs ss z gf gs ∧ Strm HT st l c0 ∧ HT R = none ∧ But st l HT H
section
variable {C : Addr} {H H' : Hp} {st l p x o R : Addr} {zs : List Str} {fs : Fs} {ss : Ss} {z : Str} {gf : Fs} {gs : Ss}
theorem Tb.tn (h : Tb C H st l p x o R zs fs ss z gf gs) : Tn C H st l p x o zs fs ss z gf gs := by
  obtain ⟨HT, c0, t, S, n, B⟩ := h
  exact t.but S B
theorem Tb.but (h : Tb C H st l p x o R zs fs ss z gf gs) (B : But st l H H') : Tb C H' st l p x o R zs fs ss z gf gs := by
  obtain ⟨HT, c0, t, S, n, B0⟩ := h
  exact ⟨HT, c0, t, S, n, B0.trans B⟩
theorem Tb.put {u : HO} (h : Tb C H st l p x o R zs fs ss z gf gs) : Tb C (upd H R u) st l p x o R zs fs ss z gf gs := by
  obtain ⟨HT, c0, t, S, n, B0⟩ := h
  exact ⟨HT, c0, t, S, n, B0.put n⟩
end
theorem Wq.put {H : Hp} {x R : Addr} {zs : List Str} {a : St0} {n : Nat} {fs : Fs} {ss : Ss} {xs ys : List V} (h : Wq H x zs a n fs ss) (hR : H R = some (.lst xs)) : Wq (upd H R (.lst ys)) x zs a n fs ss := by
  obtain ⟨⟨d, e, h1, h2, h3⟩, q1, q2, q3, q4, q5, q6⟩ := h
  have m : ∀ {b : Addr} {kv : List (L2.Key × V)}, H b = some (.dK kv) → upd H R (.lst ys) b = some (.dK kv) := fun {b kv} hb => by
    rw [upd_ne fun e => by rw [e, hR] at hb; cases hb]
    exact hb
  exact ⟨⟨d, e, m h1, m h2, m h3⟩, q1, q2, q3, q4, q5, q6⟩
/-- the row of what was drawn -/
structure RwT (H : Hp) (K : PySem.W.Frag) (st l R : Addr) (zs : List Str) (ks : List (Option Ch)) (xs : List V) : Prop where
  hR : H R = some (.lst xs)
  r1 : R ≠ st
  r2 : R ≠ l
  len : xs.length = ks.length
  th : ∃ HR : Hp, HR R ≠ none ∧ (∀ a, H a = none → HR a = none) ∧ ∀ (i : Nat) (y : V) (k : Option Ch), xs[i]? = some y → ks[i]? = some k → Th zs K false st l HR H y k
/-- the world behind it -/
structure RwS (H : Hp) (nw : Addr) (zs : List Str) (a0 : St0) (bad : V) (ks : List (Option Ch)) : Prop where
  now : ∃ fs ss, Wq H nw zs (runK zs a0 0 ks).1 (6 + ks.length) fs ss
  bd : bad = match (runK zs a0 0 ks).2 with | none => .non | some i => .int (i : Nat)
def J3 (C : Addr) (K : PySem.W.Frag) (n : Nat) (v0 : V) (st l : Addr) (c : Nat) : L2.St → Hp → Prop := fun σ H => ∃ (p x o nw R : Addr) (bad : V) (zs : List Str) (fs : Fs) (ss : Ss) (z : Str) (gf : Fs) (gs : Ss) (ks : List (Option Ch)) (xs : List V) (x2 x9 x10 x11 x12 x13 x14 x15 x16 x17 x18 : Option V), σ = [some v0, some (.ref st), x2, some (.ref p), some (.ref x), some (.ref o), some (.ref nw), some (.ref R), some bad, x9, x10, x11, x12, x13, x14, x15, x16, x17, x18] ∧ (∃ c' ≤ c + 72 + 10 * n, Strm H st l c') ∧ c ≤ 5001 ∧
  Tb C H st l p x o R zs fs ss z gf gs ∧ ks.length = n ∧ RwT H K st l R zs ks xs ∧ RwS H nw zs ⟨fOf fs, sOf ss, z⟩ bad ks
section
variable {P : Program} {w : World} {K : PySem.W.Frag} {mg : Str → Option Value} {base : Heap} {C : Addr} {fa : Str → Addr} {fd : Str → FuncData}
  {f : Addr} {cdv : Value} {A : Around} {outer : List Env} {s : Shared} {H : Hp} {E : XK} {v0 : V} {st l : Addr} {c : Nat}
theorem step0 (V : LV P w K mg base C fa fd) (hr : Room 10 (A.deeper (envOfC "law" (defScope sLaw) s.heap.objs.size f cdv))) : Step (XL P w K mg base f cdv A outer s H E) (bd 0) (J0 v0 st l c) (J1 v0 st l c) := by
  obtain ⟨T, mDict, R, mEq, ne, so, bEq, GEq, mFi, bWF, GWF, mSe, bWS, GWS, aD, GD, aP, GP, aPo, GPo, aWorld, GWorld, aMade, GMade, aChange, GChange, aDone, GDone, aSa, GSa⟩ := V
  refine ⟨_, ps_set (i := 3) scLaw.nd rfl (Or.inl rfl) (pe_call GPo (hr.mono (by decide)) rfl aPo.m aPo.k aPo.b .nil pass0 (pa_cons (pv 1) (pa_cons pe_int pa_nil))), fun D σ H' hA k => ?_⟩
  obtain ⟨x2, x3, x4, x5, x6, x7, x8, x9, x10, x11, x12, x13, x14, x15, x16, x17, x18, rfl, S, hc⟩ := hA
  exact ⟨_, rfl, st, l, c, 3, rfl, S, by omega, by decide, by decide, fun p zs H1 c1 zl nd nm hp L B S1 hc1 => k _ _ ⟨p, zs, _, _, _, _, _, _, _, _, _, _, _, _, _, _, _, _, rfl, ⟨c1, by have : (3 : Int).toNat = 3 := rfl; omega, S1⟩, hc, L, by omega, nd, nm⟩⟩
theorem step1 (V : LV P w K mg base C fa fd) (hr : Room 10 (A.deeper (envOfC "law" (defScope sLaw) s.heap.objs.size f cdv))) : Step (XL P w K mg base f cdv A outer s H E) (bd 1) (J1 v0 st l c) (J2 v0 st l c) := by
  obtain ⟨T, mDict, R, mEq, ne, so, bEq, GEq, mFi, bWF, GWF, mSe, bWS, GWS, aD, GD, aP, GP, aPo, GPo, aWorld, GWorld, aMade, GMade, aChange, GChange, aDone, GDone, aSa, GSa⟩ := V
  refine ⟨_, ps_set (i := 4) scLaw.nd rfl (Or.inl rfl) (pe_call GWorld (hr.mono (by decide)) rfl aWorld.m aWorld.k aWorld.b .nil pass0 (pa_cons (pv 1) (pa_cons (pv 3) (pa_cons pe_int pa_nil)))), fun D σ H' hA k => ?_⟩
  obtain ⟨p, zs, x2, x4, x5, x6, x7, x8, x9, x10, x11, x12, x13, x14, x15, x16, x17, x18, rfl, ⟨c1, hc1, S⟩, hc, L, zl, nd, nm⟩ := hA
  exact ⟨_, rfl, _, rfl, st, l, p, c1, zs, 6, rfl, S, by omega, L, by omega, by omega, nm, nd, by decide, fun x fs ss z H1 c2 wa g fl gs sl tz B S1 hc2 => k _ _ ⟨p, x, zs, fs, ss, z, _, _, _, _, _, _, _, _, _, _, _, _, _, _, _, rfl, ⟨c2, by omega, S1⟩, hc, L.but B, zl, nm, ⟨wa, g, gs, fl, by omega, fun _ => rfl, fun _ => rfl⟩, tz⟩⟩
theorem step2 (V : LV P w K mg base C fa fd) (hr : Room 10 (A.deeper (envOfC "law" (defScope sLaw) s.heap.objs.size f cdv))) : Step (XL P w K mg base f cdv A outer s H E) (bd 2) (J2 v0 st l c) (J3 C K 0 v0 st l c) := by
  obtain ⟨T, mDict, R, mEq, ne, so, bEq, GEq, mFi, bWF, GWF, mSe, bWS, GWS, aD, GD, aP, GP, aPo, GPo, aWorld, GWorld, aMade, GMade, aChange, GChange, aDone, GDone, aSa, GSa⟩ := V
  refine ⟨_, ps_asg (pe_tup (pa_cons (pe_call GMade (hr.mono (by decide)) rfl aMade.m aMade.k aMade.b .nil pass0 (pa_cons (pv 4) pa_nil)) (pa_cons (pv 4) (pa_cons (pe_lst pa_nil) (pa_cons pe_non pa_nil))))) (pg_tup rfl (pgs_cons (pg_name (i := 5) scLaw.nd rfl (Or.inl rfl)) (pgs_cons (pg_name (i := 6) scLaw.nd rfl (Or.inr rfl)) (pgs_cons (pg_name (i := 7) scLaw.nd rfl (Or.inl rfl)) (pgs_cons (pg_name (i := 8) scLaw.nd rfl (Or.inl rfl)) pgs_nil))))), fun D σ H' hA k => ?_⟩
  obtain ⟨p, x, zs, fs, ss, z, x2, x5, x6, x7, x8, x9, x10, x11, x12, x13, x14, x15, x16, x17, x18, rfl, ⟨c1, hc1, S⟩, hc, L, zl, nm, q, tz⟩ := hA
  refine ⟨_, rfl, x, fs, ss, zs, z, rfl, q.wa, q.g, q.gs, nm, by have := q.fl; omega, by have := q.sl; omega, fun o H1 gf gs ho s1 pf ps srt srt2 wo => ?_⟩
  refine ⟨_, rfl, by exact Nat.zero_le _, fun R nR => ?_⟩
  have s2 := same_mk (o := .lst []) nR
  have gR := upd_same (H := H1) (a := R) (o := .lst [])
  have S1 := S.up s1
  have nR2 := S1.ne_new nR
  have T1 : Tn C H1 st l p x o zs fs ss z gf gs := ⟨nm, zl, L.but (But.same s1), q.same s1, wo, pf, ps, srt, srt2, tz⟩
  have s12 := s1.trans s2
  have B2 : But st l H1 (upd H1 R (.lst [])) := But.same s2
  generalize upd H1 R (.lst []) = H2 at s2 gR s12 B2 ⊢
  refine ⟨by show 4 ≤ sizeLine; decide, fun t nt => ?_⟩
  have s3 := same_mk (o := .tup [.ref o, .ref x, .ref R, .non]) nt
  have gt := upd_same (H := H2) (a := t) (o := .tup [.ref o, .ref x, .ref R, .non])
  have gR := s3 _ _ gR
  have s13 := s12.trans s3
  have B3 := B2.trans (But.same s3)
  generalize upd H2 t (.tup [.ref o, .ref x, .ref R, .non]) = H3 at s3 gt gR s13 B3 ⊢
  refine ⟨t, _, rfl, SqT.of gt, rfl, _, _, rfl, _, _, rfl, _, _, rfl, _, _, rfl, rfl, ?_⟩
  exact k _ _ ⟨p, x, o, x, R, .non, zs, fs, ss, z, gf, gs, [], [], _, _, _, _, _, _, _, _, _, _, _, rfl, ⟨c1, by omega, S.up s13⟩, by omega, ⟨H1, c1, T1, S1, nR, B3⟩, rfl,
    ⟨gR, nR2.1, nR2.2, rfl, ⟨H3, by rw [gR]; exact (by intro z; cases z), fun a h => h, fun i y k h => by simp at h⟩⟩, ⟨⟨fs, ss, q.same s13⟩, rfl⟩⟩
end
end N4

set_option maxHeartbeats 3900000
namespace N4
open PySem PySem.Spec PyProof.Rows L2 TL RP
open C8 (pss_cut tCut pe_gc)
open CB
theorem RwT.same {H H' : Hp} {K : PySem.W.Frag} {st l R : Addr} {zs : List Str} {ks : List (Option Ch)} {xs : List V} (h : RwT H K st l R zs ks xs) (s : Same H H') : RwT H' K st l R zs ks xs := by
  obtain ⟨hR, r1, r2, ln, HR, n1, n2, n3⟩ := h
  exact ⟨s _ _ hR, r1, r2, ln, HR, n1, fun a ha => n2 a (s.free ha), fun i y k hy hk => (n3 i y k hy hk).but (But.same s)⟩
theorem RwS.same {H H' : Hp} {nw : Addr} {zs : List Str} {a0 : St0} {bad : V} {ks : List (Option Ch)} (h : RwS H nw zs a0 bad ks) (s : Same H H') : RwS H' nw zs a0 bad ks := by
  obtain ⟨⟨f, g, q⟩, b⟩ := h
  exact ⟨⟨f, g, q.same s⟩, b⟩
/-- what the next change leaves -/
def Bh (H : Hp) (zs : List Str) (a0 : St0) (ks : List (Option Ch)) (k : Option Ch) (bh : V) : Prop :=
  ((runK zs a0 0 ks).2 ≠ none → bh = .non) ∧ ((runK zs a0 0 ks).2 = none → (stepK zs (runK zs a0 0 ks).1 k = none → bh = .non) ∧ ∀ b, stepK zs (runK zs a0 0 ks).1 k = some b → ∃ nb fs ss, bh = .ref nb ∧ Wq H nb zs b (6 + ks.length + 1) fs ss)
theorem Wq.up {H : Hp} {x : Addr} {zs : List Str} {a : St0} {n m : Nat} {fs : Fs} {ss : Ss} (h : Wq H x zs a n fs ss) (l : n ≤ m) : Wq H x zs a m fs ss := ⟨h.wa, h.g, h.gs, Nat.le_trans h.fl l, Nat.le_trans h.sl l, h.f, h.s⟩
/-- the run of a row and one change more -/
theorem run_next {zs : List Str} {a0 : St0} {ks : List (Option Ch)} {k : Option Ch} : runK zs a0 0 (ks ++ [k]) = (match (runK zs a0 0 ks).2 with
    | some j => runK zs a0 0 ks
    | none => match stepK zs (runK zs a0 0 ks).1 k with
      | some b => (b, none)
      | none => ((runK zs a0 0 ks).1, some ks.length)) := by
  have h := runK_snoc (zs := zs) ks a0 0 k
  rw [Nat.zero_add] at h
  exact h
def I0 (C : Addr) (K : PySem.W.Frag) (v0 : V) (st l : Addr) (c i : Nat) : L2.St → Hp → Prop := fun σ H => ∃ (p x o nw R : Addr) (bad : V) (zs : List Str) (fs : Fs) (ss : Ss) (z : Str) (gf : Fs) (gs : Ss) (ks : List (Option Ch)) (xs : List V) (x2 x10 x11 x12 x13 x14 x15 x16 x17 x18 : Option V), σ = [some v0, some (.ref st), x2, some (.ref p), some (.ref x), some (.ref o), some (.ref nw), some (.ref R), some bad, some (.int (i : Nat)), x10, x11, x12, x13, x14, x15, x16, x17, x18] ∧ (∃ c' ≤ c + 72 + 10 * i, Strm H st l c') ∧ c ≤ 5001 ∧
  Tb C H st l p x o R zs fs ss z gf gs ∧ ks.length = i ∧ RwT H K st l R zs ks xs ∧ RwS H nw zs ⟨fOf fs, sOf ss, z⟩ bad ks
def I1 (C : Addr) (K : PySem.W.Frag) (v0 : V) (st l : Addr) (c i : Nat) : L2.St → Hp → Prop := fun σ H => ∃ (p x o nw R : Addr) (bad : V) (zs : List Str) (fs : Fs) (ss : Ss) (z : Str) (gf : Fs) (gs : Ss) (ks : List (Option Ch)) (xs : List V) (k : Option Ch) (x2 x10 x11 x12 x13 x14 x15 x16 x17 x18 : Option V), σ = [some v0, some (.ref st), x2, some (.ref p), some (.ref x), some (.ref o), some (.ref nw), some (.ref R), some bad, some (.int (i : Nat)), x10, x11, x12, x13, x14, x15, x16, x17, x18] ∧ (∃ c' ≤ c + 72 + 10 * (i + 1), Strm H st l c') ∧ c ≤ 5001 ∧
  Tb C H st l p x o R zs fs ss z gf gs ∧ ks.length = i ∧ (∃ y ys, xs = ys ++ [y] ∧ Th zs K false st l (fun _ => none) H y k) ∧ RwT H K st l R zs (ks ++ [k]) xs ∧ RwS H nw zs ⟨fOf fs, sOf ss, z⟩ bad ks
def I2 (C : Addr) (K : PySem.W.Frag) (v0 : V) (st l : Addr) (c i : Nat) : L2.St → Hp → Prop := fun σ H => ∃ (p x o nw R : Addr) (bad : V) (zs : List Str) (fs : Fs) (ss : Ss) (z : Str) (gf : Fs) (gs : Ss) (ks : List (Option Ch)) (xs : List V) (k : Option Ch) (bh : V) (x2 x11 x12 x13 x14 x15 x16 x17 x18 : Option V), σ = [some v0, some (.ref st), x2, some (.ref p), some (.ref x), some (.ref o), some (.ref nw), some (.ref R), some bad, some (.int (i : Nat)), some bh, x11, x12, x13, x14, x15, x16, x17, x18] ∧ (∃ c' ≤ c + 72 + 10 * (i + 1), Strm H st l c') ∧ c ≤ 5001 ∧
  Tb C H st l p x o R zs fs ss z gf gs ∧ ks.length = i ∧ RwT H K st l R zs (ks ++ [k]) xs ∧ RwS H nw zs ⟨fOf fs, sOf ss, z⟩ bad ks ∧ Bh H zs ⟨fOf fs, sOf ss, z⟩ ks k bh
def I3 (C : Addr) (K : PySem.W.Frag) (v0 : V) (st l : Addr) (c i : Nat) : L2.St → Hp → Prop := fun σ H => ∃ (p x o nw R : Addr) (bad : V) (zs : List Str) (fs : Fs) (ss : Ss) (z : Str) (gf : Fs) (gs : Ss) (ks : List (Option Ch)) (xs : List V) (k : Option Ch) (bh : V) (x2 x11 x12 x13 x14 x15 x16 x17 x18 : Option V), σ = [some v0, some (.ref st), x2, some (.ref p), some (.ref x), some (.ref o), some (.ref nw), some (.ref R), some bad, some (.int (i : Nat)), some bh, x11, x12, x13, x14, x15, x16, x17, x18] ∧ (∃ c' ≤ c + 72 + 10 * (i + 1), Strm H st l c') ∧ c ≤ 5001 ∧
  Tb C H st l p x o R zs fs ss z gf gs ∧ ks.length = i ∧ RwT H K st l R zs (ks ++ [k]) xs ∧ (∃ fN sN, Wq H nw zs (runK zs ⟨fOf fs, sOf ss, z⟩ 0 ks).1 (6 + ks.length) fN sN) ∧ (bad = match (runK zs ⟨fOf fs, sOf ss, z⟩ 0 (ks ++ [k])).2 with | none => .non | some i => .int (i : Nat)) ∧ Bh H zs ⟨fOf fs, sOf ss, z⟩ ks k bh
section
variable {P : Program} {w : World} {K : PySem.W.Frag} {mg : Str → Option Value} {base : Heap} {C : Addr} {fa : Str → Addr} {fd : Str → FuncData}
  {f : Addr} {cdv : Value} {A : Around} {outer : List Env} {s : Shared} {H : Hp} {E : XK} {v0 : V} {st l : Addr} {c i : Nat}
theorem in0 (V : LV P w K mg base C fa fd) (hr : Room 10 (A.deeper (envOfC "law" (defScope sLaw) s.heap.objs.size f cdv))) (hi : i < 7) : Step (XL P w K mg base f cdv A outer s H E) (bd3 0) (I0 C K v0 st l c i) (I1 C K v0 st l c i) := by
  obtain ⟨T, mDict, R, mEq, ne, so, bEq, GEq, mFi, bWF, GWF, mSe, bWS, GWS, aD, GD, aP, GP, aPo, GPo, aWorld, GWorld, aMade, GMade, aChange, GChange, aDone, GDone, aSa, GSa⟩ := V
  refine ⟨_, ps_expr (pe_bm PySem.F.plainAttrs_list PySem.F.slot_list_append PySem.F.type_list_append mt_append (pv 7) (pa_cons (pe_call GChange (hr.mono (by decide)) rfl aChange.m aChange.k aChange.b .nil pass0 (pa_cons (pv 1) (pa_cons (pv 3) (pa_cons (pv 6) pa_nil)))) pa_nil)), fun D σ H' hA k => ?_⟩
  obtain ⟨p, x, o, nw, R, bad, zs, fs, ss, z, gf, gs, ks, xs, x2, x10, x11, x12, x13, x14, x15, x16, x17, x18, rfl, ⟨c1, hc1, S⟩, hc, TB, kl, rt, rs⟩ := hA
  obtain ⟨fN, sN, q⟩ := rs.now
  have tn := TB.tn
  refine ⟨_, rfl, .inl ⟨rfl, _, SqL.of rt.hR⟩, _, rfl, _, rfl, _, rfl, st, l, p, nw, c1, zs, fN, sN, _, rfl, S, by omega, tn.L, tn.zl, tn.nm, q.wa, q.g, by have := q.fl; omega, fun y k' H1 c2 th B S1 hc2 => ?_⟩
  have hR1 := B _ _ rt.hR rt.r1 rt.r2
  have yR : y ≠ .ref R := th.old (by rw [rt.hR]; intro z; cases z)
  refine ⟨R, xs, y, rfl, rfl, hR1, ?_, ?_⟩
  · rw [rt.len, kl]
    exact Nat.lt_of_lt_of_le (show i < 1000 by omega) (by decide)
  obtain ⟨HR, n1, n2, n3⟩ := rt.th
  refine k _ _ ⟨p, x, o, nw, R, bad, zs, fs, ss, z, gf, gs, ks, xs ++ [y], k', _, _, _, _, _, _, _, _, _, _, rfl, ⟨c2, by omega, S1.put ⟨rt.r1, rt.r2⟩⟩, hc, (TB.but B).put, kl, ⟨y, xs, rfl, (th.base fun _ _ => rfl).put yR⟩, ⟨upd_same, rt.r1, rt.r2, by rw [List.length_append, List.length_append, rt.len]; rfl, ⟨HR, n1, fun a ha => ?_, fun j w k2 hw hk => ?_⟩⟩, ⟨⟨fN, sN, (q.but S B).put hR1⟩, rs.bd⟩⟩
  · have aR : a ≠ R := fun e => by rw [e, upd_same] at ha; cases ha
    rw [upd_ne aR] at ha
    exact n2 a (but_free B S1 ha)
  · by_cases hj : j < ks.length
    · rw [List.getElem?_append_left (by rw [rt.len]; exact hj)] at hw
      rw [List.getElem?_append_left hj] at hk
      have t := n3 j w k2 hw hk
      exact (t.but B).put (t.old n1)
    · have ej : j = ks.length := by
        have := (List.getElem?_eq_some_iff.mp hk).1
        rw [List.length_append] at this
        have : j < ks.length + 1 := this
        omega
      subst ej
      rw [List.getElem?_append_right (Nat.le_refl _), Nat.sub_self] at hk
      rw [List.getElem?_append_right (by rw [rt.len]; exact Nat.le_refl _), rt.len, Nat.sub_self] at hw
      cases hk
      cases hw
      exact (th.base n2).put yR
theorem in1 (V : LV P w K mg base C fa fd) (hr : Room 10 (A.deeper (envOfC "law" (defScope sLaw) s.heap.objs.size f cdv))) (hi : i < 7) : Step (XL P w K mg base f cdv A outer s H E) (bd3 1) (I1 C K v0 st l c i) (I2 C K v0 st l c i) := by
  obtain ⟨T, mDict, R, mEq, ne, so, bEq, GEq, mFi, bWF, GWF, mSe, bWS, GWS, aD, GD, aP, GP, aPo, GPo, aWorld, GWorld, aMade, GMade, aChange, GChange, aDone, GDone, aSa, GSa⟩ := V
  refine ⟨_, ps_set (i := 10) scLaw.nd rfl (Or.inl rfl) (pe_ifExp (pt_cmp (pc_isN (pv 8))) (pe_call GDone (hr.mono (by decide)) rfl aDone.m aDone.k aDone.b .nil pass0 (pa_cons (pv 6) (pa_cons (pe_ix ix_list (pv 7) (pe_un un_neg pe_int) (fun _ _ => rfl)) pa_nil))) pe_non), fun D σ H' hA k => ?_⟩
  obtain ⟨p, x, o, nw, R, bad, zs, fs, ss, z, gf, gs, ks, xs, kk, x2, x10, x11, x12, x13, x14, x15, x16, x17, x18, rfl, ⟨c1, hc1, S⟩, hc, TB, kl, ⟨y, ys, rfl, ty⟩, rt, rs⟩ := hA
  obtain ⟨fN, sN, q⟩ := rs.now
  have tn := TB.tn
  have bd := rs.bd
  cases e2 : (runK zs ⟨fOf fs, sOf ss, z⟩ 0 ks).2 with
  | some j =>
    rw [e2] at bd
    subst bd
    refine ⟨_, rfl, _, rfl, iteF' (decide_eq_false (by intro e; cases e)) ?_⟩
    exact k _ _ ⟨p, x, o, nw, R, _, zs, fs, ss, z, gf, gs, ks, ys ++ [y], kk, .non, _, _, _, _, _, _, _, _, _, rfl, ⟨c1, hc1, S⟩, hc, TB, kl, rt, ⟨rs.now, by rw [e2]⟩, ⟨fun _ => rfl, fun h => by rw [e2] at h; cases h⟩⟩
  | none =>
    rw [e2] at bd
    subst bd
    refine ⟨_, rfl, _, rfl, iteT' (by decide +kernel) ?_⟩
    have last : atI (ys ++ [y]) (-1) = some y := atI_last ys y
    refine ⟨_, rfl, _, rfl, _, rfl, R, _, _, _, rfl, rfl, SqL.of rt.hR, last, nw, y, zs, st, l, kk, _, _, 6 + ks.length, fN, sN, rfl, q, by omega, ty, tn.nm, fun sn H1 s1 => ?_, fun b sb nb H1 f2 s2 s1 W => ?_⟩
    · exact k _ _ ⟨p, x, o, nw, R, _, zs, fs, ss, z, gf, gs, ks, ys ++ [y], kk, .non, _, _, _, _, _, _, _, _, _, rfl, ⟨c1, hc1, S.up s1⟩, hc, TB.but (But.same s1), kl, rt.same s1, ⟨⟨fN, sN, q.same s1⟩, by rw [e2]⟩, ⟨fun h => absurd e2 h, fun _ => ⟨fun _ => rfl, fun b sb => by rw [sn] at sb; cases sb⟩⟩⟩
    · exact k _ _ ⟨p, x, o, nw, R, _, zs, fs, ss, z, gf, gs, ks, ys ++ [y], kk, .ref nb, _, _, _, _, _, _, _, _, _, rfl, ⟨c1, hc1, S.up s1⟩, hc, TB.but (But.same s1), kl, rt.same s1, ⟨⟨fN, sN, q.same s1⟩, by rw [e2]⟩, ⟨fun h => absurd e2 h, fun _ => ⟨fun h => (by rw [sb] at h; cases h), fun b2 sb2 => ⟨nb, f2, s2, rfl, by rw [sb] at sb2; cases sb2; exact W⟩⟩⟩⟩
theorem in2 (V : LV P w K mg base C fa fd) (hr : Room 10 (A.deeper (envOfC "law" (defScope sLaw) s.heap.objs.size f cdv))) (hi : i < 7) : Step (XL P w K mg base f cdv A outer s H E) (bd3 2) (I2 C K v0 st l c i) (I3 C K v0 st l c i) := by
  obtain ⟨T, mDict, R, mEq, ne, so, bEq, GEq, mFi, bWF, GWF, mSe, bWS, GWS, aD, GD, aP, GP, aPo, GPo, aWorld, GWorld, aMade, GMade, aChange, GChange, aDone, GDone, aSa, GSa⟩ := V
  refine ⟨_, ps_set (i := 8) scLaw.nd rfl (Or.inl rfl) (pe_ifExp (PW.pt (pw_and (pt_cmp (pc_isN (pv 8))) (pw_and1 (pt_cmp (pc_isN (pv 10)))))) (pv 9) (pv 8)), fun D σ H' hA k => ?_⟩
  obtain ⟨p, x, o, nw, R, bad, zs, fs, ss, z, gf, gs, ks, xs, kk, bh, x2, x11, x12, x13, x14, x15, x16, x17, x18, rfl, ⟨c1, hc1, S⟩, hc, TB, kl, rt, rs, bo⟩ := hA
  have bd := rs.bd
  have rn := run_next (zs := zs) (a0 := ⟨fOf fs, sOf ss, z⟩) (ks := ks) (k := kk)
  have out : ∀ b2 : V, b2 = (match (runK zs ⟨fOf fs, sOf ss, z⟩ 0 (ks ++ [kk])).2 with | none => .non | some i => .int (i : Nat)) → _ := fun b2 h => k _ H' ⟨p, x, o, nw, R, b2, zs, fs, ss, z, gf, gs, ks, xs, kk, bh, x2, x11, x12, x13, x14, x15, x16, x17, x18, rfl, ⟨c1, hc1, S⟩, hc, TB, kl, rt, rs.now, h, bo⟩
  cases e2 : (runK zs ⟨fOf fs, sOf ss, z⟩ 0 ks).2 with
  | some j =>
    rw [e2] at bd rn
    subst bd
    refine ⟨_, rfl, _, rfl, iteF' (decide_eq_false (by intro e; cases e)) ⟨_, rfl, out _ ?_⟩⟩
    rw [rn]
    show _ = match (runK zs ⟨fOf fs, sOf ss, z⟩ 0 ks).2 with | none => V.non | some i => .int (i : Nat)
    rw [e2]
  | none =>
    rw [e2] at bd rn
    subst bd
    refine ⟨_, rfl, _, rfl, iteT' (by decide +kernel) ?_⟩
    cases e3 : stepK zs (runK zs ⟨fOf fs, sOf ss, z⟩ 0 ks).1 kk with
    | none =>
      obtain rfl := (bo.2 e2).1 e3
      refine ⟨_, rfl, _, rfl, iteT' (by decide +kernel) ⟨_, rfl, out _ ?_⟩⟩
      rw [rn]
      show V.int (i : Nat) = match (match stepK zs (runK zs ⟨fOf fs, sOf ss, z⟩ 0 ks).1 kk with | some b => (b, none) | none => ((runK zs ⟨fOf fs, sOf ss, z⟩ 0 ks).1, some ks.length)).2 with | none => V.non | some i => .int (i : Nat)
      rw [e3, kl]
    | some b =>
      obtain ⟨nb, f2, s2, rfl, W⟩ := (bo.2 e2).2 b e3
      refine ⟨_, rfl, _, rfl, iteF' (decide_eq_false (by intro e; cases e)) ⟨_, rfl, out _ ?_⟩⟩
      rw [rn]
      show V.non = match (match stepK zs (runK zs ⟨fOf fs, sOf ss, z⟩ 0 ks).1 kk with | some b => (b, none) | none => ((runK zs ⟨fOf fs, sOf ss, z⟩ 0 ks).1, some ks.length)).2 with | none => V.non | some i => .int (i : Nat)
      rw [e3]
theorem in3 (V : LV P w K mg base C fa fd) (hr : Room 10 (A.deeper (envOfC "law" (defScope sLaw) s.heap.objs.size f cdv))) (hi : i < 7) : Step (XL P w K mg base f cdv A outer s H E) (bd3 3) (I3 C K v0 st l c i) (J3 C K (i + 1) v0 st l c) := by
  obtain ⟨T, mDict, R, mEq, ne, so, bEq, GEq, mFi, bWF, GWF, mSe, bWS, GWS, aD, GD, aP, GP, aPo, GPo, aWorld, GWorld, aMade, GMade, aChange, GChange, aDone, GDone, aSa, GSa⟩ := V
  refine ⟨_, ps_set (i := 6) scLaw.nd rfl (Or.inr rfl) (pe_ifExp (pt_cmp (pc_isN (pv 10))) (pv 6) (pv 10)), fun D σ H' hA k => ?_⟩
  obtain ⟨p, x, o, nw, R, bad, zs, fs, ss, z, gf, gs, ks, xs, kk, bh, x2, x11, x12, x13, x14, x15, x16, x17, x18, rfl, ⟨c1, hc1, S⟩, hc, TB, kl, rt, ⟨fN, sN, q⟩, bd, bo⟩ := hA
  have rn := run_next (zs := zs) (a0 := ⟨fOf fs, sOf ss, z⟩) (ks := ks) (k := kk)
  have out : ∀ n2 : Addr, (∃ f2 s2, Wq H' n2 zs (runK zs ⟨fOf fs, sOf ss, z⟩ 0 (ks ++ [kk])).1 (6 + (ks ++ [kk]).length) f2 s2) → _ := fun n2 h => k _ H' ⟨p, x, o, n2, R, bad, zs, fs, ss, z, gf, gs, ks ++ [kk], xs, x2, some (.int (i : Nat)), some bh, x11, x12, x13, x14, x15, x16, x17, x18, rfl, ⟨c1, hc1, S⟩, hc, TB, by rw [List.length_append, kl]; rfl, rt, ⟨h, bd⟩⟩
  have ln : (ks ++ [kk]).length = ks.length + 1 := by rw [List.length_append]; rfl
  cases e2 : (runK zs ⟨fOf fs, sOf ss, z⟩ 0 ks).2 with
  | some j =>
    obtain rfl := bo.1 (by rw [e2]; intro z; cases z)
    rw [e2] at rn
    refine ⟨_, rfl, _, rfl, iteT' (by decide +kernel) ⟨_, rfl, out _ ⟨fN, sN, ?_⟩⟩⟩
    rw [rn, ln]
    exact q.up (by omega)
  | none =>
    rw [e2] at rn
    cases e3 : stepK zs (runK zs ⟨fOf fs, sOf ss, z⟩ 0 ks).1 kk with
    | none =>
      obtain rfl := (bo.2 e2).1 e3
      refine ⟨_, rfl, _, rfl, iteT' (by decide +kernel) ⟨_, rfl, out _ ⟨fN, sN, ?_⟩⟩⟩
      rw [rn, ln]
      show Wq H' nw zs (match stepK zs (runK zs ⟨fOf fs, sOf ss, z⟩ 0 ks).1 kk with | some b => (b, none) | none => ((runK zs ⟨fOf fs, sOf ss, z⟩ 0 ks).1, some ks.length)).1 _ fN sN
      rw [e3]
      exact q.up (by omega)
    | some b =>
      obtain ⟨nb, f2, s2, rfl, W⟩ := (bo.2 e2).2 b e3
      refine ⟨_, rfl, _, rfl, iteF' (decide_eq_false (by intro e; cases e)) ⟨_, rfl, out _ ⟨f2, s2, ?_⟩⟩⟩
      rw [rn, ln]
      show Wq H' nb zs (match stepK zs (runK zs ⟨fOf fs, sOf ss, z⟩ 0 ks).1 kk with | some b => (b, none) | none => ((runK zs ⟨fOf fs, sOf ss, z⟩ 0 ks).1, some ks.length)).1 _ f2 s2
      rw [e3]
      exact W.up (by omega)
theorem inner (V : LV P w K mg base C fa fd) (hr : Room 10 (A.deeper (envOfC "law" (defScope sLaw) s.heap.objs.size f cdv))) (hi : i < 7) : Steps (XL P w K mg base f cdv A outer s H E) (forBody (bd 3)) (I0 C K v0 st l c i) (J3 C K (i + 1) v0 st l c) :=
  steps_cons (in0 V hr hi) (steps_cons (in1 V hr hi) (steps_cons (in2 V hr hi) (steps_one (in3 V hr hi))))
def J3n (C : Addr) (K : PySem.W.Frag) (v0 : V) (st l : Addr) (c : Nat) : L2.St → Hp → Prop := fun σ H => ∃ n ≤ 6, J3 C K n v0 st l c σ H
theorem step3 (VV : LV P w K mg base C fa fd) (hr : Room 10 (A.deeper (envOfC "law" (defScope sLaw) s.heap.objs.size f cdv))) (h5 : c ≤ 5000) : Step (XL P w K mg base f cdv A outer s H E) (bd 3) (J3 C K 0 v0 st l c) (J3n C K v0 st l (c + 1)) := by
  obtain ⟨T, mDict, R, mEq, ne, so, bEq, GEq, mFi, bWF, GWF, mSe, bWS, GWS, aD, GD, aP, GP, aPo, GPo, aWorld, GWorld, aMade, GMade, aChange, GChange, aDone, GDone, aSa, GSa⟩ := id VV
  refine ⟨_, ps_for PassesOwn.never rfl (pi_range1 rfl T.range (pa_cons (pe_call GD (hr.mono (by decide)) rfl aD.m aD.k aD.b .nil pass0 (pa_cons (pv 1) (pa_cons pe_int pa_nil))) pa_nil)) (pg_name (i := 9) scLaw.nd rfl (Or.inl rfl)) (psW (ss := forBody (bd 3))), fun D σ H' hA k => ?_⟩
  obtain ⟨p, x, o, nw, R, bad, zs, fs, ss, z, gf, gs, ks, xs, x2, x9, x10, x11, x12, x13, x14, x15, x16, x17, x18, rfl, ⟨c1, hc1, S⟩, hc, TB, kl, rt, rs⟩ := hA
  refine ⟨_, rfl, st, l, c1, 7, rfl, S, by omega, by decide, by decide, fun n H1 n0 n1 B1 S1 => ?_⟩
  obtain ⟨n, rfl⟩ := Int.eq_ofNat_of_zero_le n0
  have hn : n < 7 := by omega
  have k0 : ks = [] := List.length_eq_zero_iff.mp kl
  subst k0
  have x0 : xs = [] := List.length_eq_zero_iff.mp rt.len
  subst x0
  obtain ⟨fN, sN, q⟩ := rs.now
  have rt1 : RwT H1 K st l R zs [] [] := ⟨B1 _ _ rt.hR rt.r1 rt.r2, rt.r1, rt.r2, rfl, ⟨H1, (by rw [B1 _ _ rt.hR rt.r1 rt.r2]; intro z; cases z), fun a h => h, fun j y k2 h => by simp at h⟩⟩
  refine ⟨n, rfl, by omega, by omega, for_range (lo := 0) (n := n) (fun i σ H' => J3 C K i v0 st l (c + 1) σ H')
    ⟨p, x, o, nw, R, bad, zs, fs, ss, z, gf, gs, [], [], _, _, _, _, _, _, _, _, _, _, _, rfl, ⟨c1 + 1, by omega, S1⟩, by omega, TB.but B1, rfl, rt1, ⟨⟨fN, sN, q.but S B1⟩, rs.bd⟩⟩ ?_ (fun σ H' h => k σ H' ⟨n, by omega, h⟩)⟩
  rintro i _ H2 hi ⟨p, x, o, nw, R, bad, zs, fs, ss, z, gf, gs, ks, xs, x2, x9, x10, x11, x12, x13, x14, x15, x16, x17, x18, rfl, ⟨c2, hc2, S2⟩, hc, TB, kl, rt, rs⟩
  refine Steps.wish (inner VV hr (by omega)) ⟨p, x, o, nw, R, bad, zs, fs, ss, z, gf, gs, ks, xs, _, _, _, _, _, _, _, _, _, _, by rw [Int.zero_add]; rfl, ⟨c2, hc2, S2⟩, hc, TB, kl, rt, rs⟩ fun σ' H' h => h
end
end N4

set_option maxHeartbeats 3900000
namespace N4
open PySem PySem.Spec PyProof.Rows L2 TL RP
open C8 (pss_cut tCut pe_gc)
open CB
theorem isiK {X : Cx} {K0 : PySem.W.Frag} (hK : X.K = K0) : CallR X (.builtin "isinstance") (rIsi K0) := by
  subst hK
  exact call_isi
theorem list_ofK {X : Cx} {K0 : PySem.W.Frag} (hK : X.K = K0) : CallR X (.type "list") (fun xs H Q => ∃ p ys, xs = [V.ref p] ∧ (SqL K0 H p ys ∨ SqT K0 H p ys) ∧ ∀ l, H l = none → Q (.ref l) (upd H l (.lst ys))) := by
  subst hK
  exact call_list_of
/-- the row that is passed, each change as it was drawn or in a list -/
structure Pw (H : Hp) (K : PySem.W.Frag) (st l : Addr) (zs : List Str) (ks : List (Option Ch)) (ys : List V) : Prop where
  len : ys.length = ks.length
  th : ∀ (j : Nat) (y : V) (k : Option Ch), ys[j]? = some y → ks[j]? = some k → Th zs K true st l (fun _ => none) H y k
theorem Pw.but {H H' : Hp} {K : PySem.W.Frag} {st l : Addr} {zs : List Str} {ks : List (Option Ch)} {ys : List V} (h : Pw H K st l zs ks ys) (B : But st l H H') : Pw H' K st l zs ks ys := ⟨h.len, fun j y k hy hk => (h.th j y k hy hk).but B⟩
def J4 (C : Addr) (K : PySem.W.Frag) (v0 : V) (st l : Addr) (c : Nat) : L2.St → Hp → Prop := fun σ H => ∃ (p x o nw R D : Addr) (bad : V) (zs : List Str) (fs : Fs) (ss : Ss) (z : Str) (gf : Fs) (gs : Ss) (ks : List (Option Ch)) (ys : List V) (x2 x9 x10 x12 x13 x14 x15 x16 x17 x18 : Option V), σ = [some v0, some (.ref st), x2, some (.ref p), some (.ref x), some (.ref o), some (.ref nw), some (.ref R), some bad, x9, x10, some (.ref D), x12, x13, x14, x15, x16, x17, x18] ∧ (∃ c' ≤ c + 140, Strm H st l c') ∧ c ≤ 5001 ∧
  Tn C H st l p x o zs fs ss z gf gs ∧ ks.length ≤ 6 ∧ RwS H nw zs ⟨fOf fs, sOf ss, z⟩ bad ks ∧ Pw H K st l zs ks ys ∧ H D = some (.lst ys) ∧ D ≠ st ∧ D ≠ l
theorem RwS.but {H H' : Hp} {st l : Addr} {c : Nat} {nw : Addr} {zs : List Str} {a0 : St0} {bad : V} {ks : List (Option Ch)} (h : RwS H nw zs a0 bad ks) (S : Strm H st l c) (B : But st l H H') : RwS H' nw zs a0 bad ks := by
  obtain ⟨⟨f, g, q⟩, b⟩ := h
  exact ⟨⟨f, g, q.but S B⟩, b⟩
section
variable {P : Program} {w : World} {K : PySem.W.Frag} {mg : Str → Option Value} {base : Heap} {C : Addr} {fa : Str → Addr} {fd : Str → FuncData}
  {f : Addr} {cdv : Value} {A : Around} {outer : List Env} {s : Shared} {H : Hp} {E : XK} {v0 : V} {st l : Addr} {c i : Nat}
theorem step4 (V : LV P w K mg base C fa fd) (hr : Room 10 (A.deeper (envOfC "law" (defScope sLaw) s.heap.objs.size f cdv))) : Step (XL P w K mg base f cdv A outer s H E) (bd 4) (J3n C K v0 st l c) (J4 C K v0 st l c) := by
  obtain ⟨T, mDict, R, mEq, ne, so, bEq, GEq, mFi, bWF, GWF, mSe, bWS, GWS, aD, GD, aP, GP, aPo, GPo, aWorld, GWorld, aMade, GMade, aChange, GChange, aDone, GDone, aSa, GSa⟩ := V
  refine ⟨_, ps_setLc (i := 11) (own := [("_law_one", 17)]) (g := gName 17) (tt := tYes) rfl scLaw.nd rfl rfl (sw_true rfl rfl rfl (by decide +kernel)) (pi_list (pv 7)) (blkOk_by (own := [("_law_one", 17)]) (N := ["_law_script", "_law_stream", "_law_turn", "_law_pool_here", "_law_w", "_law_world_here", "_law_now", "_law_row", "_law_bad", "_law_k", "_law_behind", "_law_passed", "_law_kept", "_law_found", "e", "_law_told", "_law_due", "_law_one", "_law_path_here"]) (sc := defScope sLaw) (by decide +kernel)) (fun _ _ _ _ _ => (pg_name (i := 17) scLaw.nd rfl (Or.inl rfl))) (fun _ _ _ _ _ => pts_nil) (fun _ _ _ _ _ => (by exact (pe_ifExp (PW.pt (pw_and (pt_val (pe_callB (isiK (K0 := K) rfl) (by rfl) T.isinstance (by decide +kernel) (pa_cons (pv 17) (pa_cons (pe_bltn (v := .ty "tuple") (by rfl) T.tuple (by decide +kernel) rfl) pa_nil)))) (pw_and1 (pt_cmpR op_eq (pe_call GD (hr.mono (by decide)) rfl aD.m aD.k aD.b .nil pass0 (pa_cons (pv 1) (pa_cons pe_int pa_nil))) pe_int (nomark _))))) (pe_callTy (list_ofK (K0 := K) rfl) (by rfl) T.list (by decide +kernel) (pa_cons (pv 17) pa_nil)) (pv 17)))), fun D σ H' hA k => ?_⟩
  obtain ⟨n, hn, p, x, o, nw, R, bad, zs, fs, ss, z, gf, gs, ks, xs, x2, x9, x10, x11, x12, x13, x14, x15, x16, x17, x18, rfl, ⟨c1, hc1, S⟩, hc, TB, kl, rt, rs⟩ := hA
  refine ⟨_, rfl, R, rfl, ⟨_, SqL.of rt.hR⟩, fun D hD => ?_⟩
  have nD := S.ne_new hD
  obtain ⟨HR, n1, n2, n3⟩ := rt.th
  have DR : R ≠ D := fun e => by rw [← e, rt.hR] at hD; cases hD
  refine lc_it (walk_list (K := K) (a := R) (xs := xs)) (fun i H2 => ∃ ys c2, ys.length = i ∧ H2 D = some (.lst ys) ∧ But st l H' H2 ∧ Strm H2 st l c2 ∧ c2 ≤ c1 + i ∧ (∀ (j : Nat) (y : V) (k : Option Ch), ys[j]? = some y → ks[j]? = some k → Th zs K true st l (fun _ => none) H2 y k) ∧ ∀ y ∈ ys, y ≠ .ref D)
    ⟨[], c1, rfl, upd_same, But.same (same_mk hD), S.up (same_mk hD), Nat.le_refl _, fun j y k h => by simp at h, fun y h => by cases h⟩ (fun i H2 _ q => by
      obtain ⟨ys, c2, q1, q2, q3, _⟩ := q
      exact SqL.of (q3 _ _ rt.hR rt.r1 rt.r2)) ?_ ?_
  · rintro i y H2 H3 hi ⟨ys, c2, yl, h2D, B2, S2, hc2, yt, yn⟩ ⟨rfl, hy⟩
    have hik : i < ks.length := by rw [← rt.len]; exact hi
    have hk : ks[i]? = some ks[i] := List.getElem?_eq_getElem hik
    have t0 := n3 i y _ hy hk
    generalize ks[i] = kk at hk t0
    have yD : y ≠ .ref D := t0.new hD
    have t2 := t0.but B2
    refine ⟨wipe1 _, ?_⟩
    have fin : ∀ (v : V) (H4 : Hp) (c4 : Nat), But st l H3 H4 → Strm H4 st l c4 → c4 ≤ c2 + 1 → Th zs K true st l (fun _ => none) H4 v kk → v ≠ .ref D → ∃ acc, H4 D = some (.lst acc) ∧ acc.length < sizeLine ∧ ∃ ys c2, ys.length = i + 1 ∧ upd H4 D (.lst (acc ++ [v])) D = some (.lst ys) ∧ But st l H' (upd H4 D (.lst (acc ++ [v]))) ∧ Strm (upd H4 D (.lst (acc ++ [v]))) st l c2 ∧ c2 ≤ c1 + (i + 1) ∧ (∀ (j : Nat) (y : V) (k : Option Ch), ys[j]? = some y → ks[j]? = some k → Th zs K true st l (fun _ => none) (upd H4 D (.lst (acc ++ [v]))) y k) ∧ ∀ y ∈ ys, y ≠ .ref D := fun v H4 c4 B4 S4 hc4 tv vD => by
      refine ⟨ys, B4 _ _ h2D nD.1 nD.2, Nat.lt_of_lt_of_le (show ys.length < 1000 by omega) (by decide), ys ++ [v], c4, by rw [List.length_append, yl]; rfl, upd_same, (B2.trans B4).put hD, S4.put nD, by omega, fun j y2 k2 hy2 hk2 => ?_, fun y2 hm => ?_⟩
      · by_cases hj : j < ys.length
        · rw [List.getElem?_append_left hj] at hy2
          exact ((yt j y2 k2 hy2 hk2).but B4).put (yn y2 (List.mem_of_getElem? hy2))
        · have hj2 : j < (ys ++ [v]).length := (List.getElem?_eq_some_iff.mp hy2).1
          rw [List.length_append] at hj2
          have ej : j = ys.length := by
            have : j < ys.length + 1 := hj2
            omega
          subst ej
          rw [List.getElem?_append_right (Nat.le_refl _), Nat.sub_self] at hy2
          cases hy2
          rw [yl, hk] at hk2
          cases hk2
          exact tv.put vD
      · rcases List.mem_append.mp hm with q | q
        · exact yn y2 q
        · rw [List.mem_singleton.mp q]
          exact vD
    have stay := fin y H3 c2 (But.same (Same.refl H3)) S2 (by omega) (t2.wide.base fun _ _ => rfl) yD
    cases t2 with
    | non => exact ⟨_, rfl, _, _, .type "NoneType", .type "tuple", false, rfl, .ty "tuple", .base .non, kit_ty (by decide +kernel), _, rfl, iteF ⟨_, rfl, stay⟩⟩
    | int i f => exact ⟨_, rfl, _, _, .type "int", .type "tuple", false, rfl, .ty "tuple", .base (.int i), kit_ty (by decide +kernel), _, rfl, iteF ⟨_, rfl, stay⟩⟩
    | str z f => exact ⟨_, rfl, _, _, .type "str", .type "tuple", false, rfl, .ty "tuple", .base (.str z), kit_ty (by decide +kernel), _, rfl, iteF ⟨_, rfl, stay⟩⟩
    | dct n0 m1 m2 h => exact ⟨_, rfl, _, _, .type "dict", .type "tuple", false, rfl, .ty "tuple", .base (.dK h), kit_ty (by decide +kernel), _, rfl, iteF ⟨_, rfl, stay⟩⟩
    | lst n0 m1 m2 h o d f q => exact ⟨_, rfl, _, _, .type "list", .type "tuple", false, rfl, .ty "tuple", .base (.lst h), kit_ty (by decide +kernel), _, rfl, iteF ⟨_, rfl, stay⟩⟩
    | @tup a us ds kk n0 m1 m2 h o d f g =>
      refine ⟨_, rfl, _, _, .type "tuple", .type "tuple", true, rfl, .ty "tuple", .base (.tup h), kit_ty (by decide +kernel), _, rfl, iteT ?_⟩
      refine ⟨_, rfl, st, l, c2, 3, rfl, S2, by omega, by decide, by decide, fun m H4 m0 m1' B4 S4 => ⟨rfl, _, rfl, ite2 (fun _ => ?_) (fun _ => ?_)⟩⟩
      · have h4 := B4 _ _ h m1 m2
        refine ⟨_, rfl, a, _, rfl, .inr (SqT.of h4), fun q nq => ?_⟩
        have nq2 := S4.ne_new nq
        have qD : q ≠ D := fun e => by
          rw [e, B4 _ _ h2D nD.1 nD.2] at nq
          cases nq
        exact fin (.ref q) _ (c2 + 1) (B4.trans (But.same (same_mk nq))) (S4.up (same_mk nq)) (Nat.le_refl _) (.lst rfl nq2.1 nq2.2 upd_same o d g (.inl rfl)) (fun e => qD (V.ref.inj e))
      · exact ⟨_, rfl, fin (.ref a) H4 (c2 + 1) B4 S4 (Nat.le_refl _) (Th.but (.tup rfl m1 m2 h o d f g) B4) yD⟩
  · rintro H2 ⟨ys, c2, yl, h2D, B2, S2, hc2, yt, yn⟩
    have tn := TB.tn
    have xl : xs.length = ks.length := rt.len
    refine k _ _ ⟨p, x, o, nw, R, D, bad, zs, fs, ss, z, gf, gs, ks, ys, _, _, _, _, _, _, _, _, _, _, rfl, ⟨c2, by omega, S2⟩, by omega, tn.but S B2, by omega, rs.but S B2, ⟨by rw [yl, xl], yt⟩, h2D, nD.1, nD.2⟩
end
end N4

set_option maxHeartbeats 3900000
namespace N4
open PySem PySem.Spec PyProof.Rows L2 TL RP
open C8 (pss_cut tCut pe_gc)
open CB
/-- what is shown of all -/
theorem Pw.shown {K : PySem.W.Frag} {H : Hp} {st l : Addr} {zs : List Str} : ∀ {ys : List V} {ks : List (Option Ch)}, Pw H K st l zs ks ys → ∃ ds : List PyData, DqAll K H ys ds ∧ (∀ d ∈ ds, Fine d 2 1000) ∧ ds.length = ys.length
  | [], _, _ => ⟨[], .nil, (fun _ h => nomatch h), rfl⟩
  | y :: ys, [], h => by
    have := h.len
    cases this
  | y :: ys, k :: ks, h => by
    obtain ⟨d, f, q⟩ := (h.th 0 y k rfl rfl).shown
    obtain ⟨ds, q1, q2, q3⟩ := Pw.shown (ys := ys) (ks := ks) ⟨Nat.succ.inj h.len, fun j y k hy hk => h.th (j + 1) y k hy hk⟩
    exact ⟨d :: ds, .cons (q H fun _ _ _ h => h) q1, List.forall_mem_cons.mpr ⟨f, q2⟩, by rw [List.length_cons, List.length_cons, q3]⟩
theorem Pw.row {K : PySem.W.Frag} {H : Hp} {st l P : Addr} {zs : List Str} {ys : List V} {ks : List (Option Ch)} (h : Pw H K st l zs ks ys) (hP : H P = some (.tup ys) ∨ H P = some (.lst ys)) : RowK zs H (.ref P) ks :=
  ⟨ys, ⟨P, rfl, hP⟩, h.len, fun i x k hx hk => (h.th i x k hx hk).at⟩
def J5 (C : Addr) (K : PySem.W.Frag) (v0 : V) (st l : Addr) (c : Nat) : L2.St → Hp → Prop := fun σ H => ∃ (p x o nw R D : Addr) (bad : V) (zs : List Str) (fs : Fs) (ss : Ss) (z : Str) (gf : Fs) (gs : Ss) (ks : List (Option Ch)) (ys : List V) (x2 x9 x10 x12 x13 x14 x15 x16 x17 x18 : Option V), σ = [some v0, some (.ref st), x2, some (.ref p), some (.ref x), some (.ref o), some (.ref nw), some (.ref R), some bad, x9, x10, some (.ref D), x12, x13, x14, x15, x16, x17, x18] ∧ (∃ c' ≤ c + 141, Strm H st l c') ∧ c ≤ 5001 ∧
  Tn C H st l p x o zs fs ss z gf gs ∧ ks.length ≤ 6 ∧ RwS H nw zs ⟨fOf fs, sOf ss, z⟩ bad ks ∧ Pw H K st l zs ks ys ∧ (H D = some (.tup ys) ∨ H D = some (.lst ys))
/-- the row as it is passed, and what is shown of it -/
structure Kd (H : Hp) (K : PySem.W.Frag) (zs : List Str) (ks : List (Option Ch)) (D : Addr) (d : PyData) : Prop where
  row : RowK zs H (.ref D) ks
  dq : Dq K H (.ref D) d
  fi : Fine d 20 100000
theorem Kd.same {H H' : Hp} {K : PySem.W.Frag} {zs : List Str} {ks : List (Option Ch)} {D : Addr} {d : PyData} (h : Kd H K zs ks D d) (s : Same H H') : Kd H' K zs ks D d := ⟨h.row.up s, h.dq.up fun a o e => s a o e, h.fi⟩
theorem Tn.same {C : Addr} {H H' : Hp} {st l p x o : Addr} {zs : List Str} {fs : Fs} {ss : Ss} {z : Str} {gf : Fs} {gs : Ss} (h : Tn C H st l p x o zs fs ss z gf gs) (s : Same H H') : Tn C H' st l p x o zs fs ss z gf gs :=
  ⟨h.nm, h.zl, h.L.but (But.same s), h.q.same s, h.wo.same s, h.pf, h.ps, h.srtF, h.srtS, h.tz⟩
def J6 (C : Addr) (K : PySem.W.Frag) (v0 : V) (st l : Addr) (c : Nat) : L2.St → Hp → Prop := fun σ H => ∃ (p x o nw R D : Addr) (bad : V) (d : PyData) (zs : List Str) (fs : Fs) (ss : Ss) (z : Str) (gf : Fs) (gs : Ss) (ks : List (Option Ch)) (x2 x9 x10 x14 x15 x16 x17 x18 : Option V), σ = [some v0, some (.ref st), x2, some (.ref p), some (.ref x), some (.ref o), some (.ref nw), some (.ref R), some bad, x9, x10, some (.ref D), some (.str d.shown), some .non, x14, x15, x16, x17, x18] ∧ (∃ c' ≤ c + 141, Strm H st l c') ∧ c ≤ 5001 ∧
  Tn C H st l p x o zs fs ss z gf gs ∧ ks.length ≤ 6 ∧ RwS H nw zs ⟨fOf fs, sOf ss, z⟩ bad ks ∧ Kd H K zs ks D d
section
variable {P : Program} {w : World} {K : PySem.W.Frag} {mg : Str → Option Value} {base : Heap} {C : Addr} {fa : Str → Addr} {fd : Str → FuncData}
  {f : Addr} {cdv : Value} {A : Around} {outer : List Env} {s : Shared} {H : Hp} {E : XK} {v0 : V} {st l : Addr} {c i : Nat}
theorem step5 (V : LV P w K mg base C fa fd) (hr : Room 10 (A.deeper (envOfC "law" (defScope sLaw) s.heap.objs.size f cdv))) : Step (XL P w K mg base f cdv A outer s H E) (bd 5) (J4 C K v0 st l c) (J5 C K v0 st l c) := by
  obtain ⟨T, mDict, R, mEq, ne, so, bEq, GEq, mFi, bWF, GWF, mSe, bWS, GWS, aD, GD, aP, GP, aPo, GPo, aWorld, GWorld, aMade, GMade, aChange, GChange, aDone, GDone, aSa, GSa⟩ := V
  refine ⟨_, ps_set (i := 11) scLaw.nd rfl (Or.inl rfl) (pe_call GP (hr.mono (by decide)) rfl aP.m aP.k aP.b .nil pass0 (pa_cons (pv 1) (pa_cons (pe_lst (pa_cons (pv 11) (pa_cons (pe_callTy call_tuple_of (by rfl) T.tuple (by decide +kernel) (pa_cons (pv 11) pa_nil)) pa_nil))) pa_nil))), fun D σ H' hA k => ?_⟩
  obtain ⟨p, x, o, nw, R, D, bad, zs, fs, ss, z, gf, gs, ks, ys, x2, x9, x10, x12, x13, x14, x15, x16, x17, x18, rfl, ⟨c1, hc1, S⟩, hc, tn, kl, rs, pw, hD, d1, d2⟩ := hA
  refine ⟨_, rfl, _, rfl, _, rfl, D, ys, rfl, .inl ⟨SqL.of hD, fun t nt => ?_⟩⟩
  have s1 := same_mk (o := .tup ys) nt
  have gt := upd_same (H := H') (a := t) (o := .tup ys)
  have hD := s1 _ _ hD
  have nt2 := S.ne_new nt
  have S1 := S.up s1
  generalize upd H' t (.tup ys) = H1 at s1 gt hD S1 ⊢
  refine ⟨by show 2 ≤ sizeLine; decide, fun q nq => ?_⟩
  have s2 := same_mk (o := .lst [.ref D, .ref t]) nq
  have nq2 := S1.ne_new nq
  have s12 := s1.trans s2
  refine .inl ⟨st, l, c1, q, _, rfl, S1.up s2, by omega, upd_same, nq2.1, nq2.2, by show 0 < 2; decide, by show 2 < 1000; decide, fun i v H3 hv B3 S3 => ?_⟩
  have B := (But.same (st := st) (l := l) s12).trans B3
  have hD3 := B3 _ _ (s2 _ _ hD) d1 d2
  have gt3 := B3 _ _ (s2 _ _ gt) nt2.1 nt2.2
  have i2 : i = 0 ∨ i = 1 := by
    have := (List.getElem?_eq_some_iff.mp hv).1
    have : i < 2 := this
    omega
  rcases i2 with rfl | rfl
  · cases hv
    exact k _ _ ⟨p, x, o, nw, R, D, bad, zs, fs, ss, z, gf, gs, ks, ys, _, _, _, _, _, _, _, _, _, _, rfl, ⟨c1 + 1, by omega, S3⟩, hc, tn.but S B, kl, rs.but S B, pw.but B, .inr hD3⟩
  · cases hv
    exact k _ _ ⟨p, x, o, nw, R, t, bad, zs, fs, ss, z, gf, gs, ks, ys, _, _, _, _, _, _, _, _, _, _, rfl, ⟨c1 + 1, by omega, S3⟩, hc, tn.but S B, kl, rs.but S B, pw.but B, .inl gt3⟩
theorem step6 (V : LV P w K mg base C fa fd) (hg : A.guards = some []) (mRepr : mg "repr" = none) (SM : (base.get? sysModules).isSome = true) (hr : Room 10 (A.deeper (envOfC "law" (defScope sLaw) s.heap.objs.size f cdv))) : Step (XL P w K mg base f cdv A outer s H E) (bd 6) (J5 C K v0 st l c) (J6 C K v0 st l c) := by
  obtain ⟨T, mDict, R, mEq, ne, so, bEq, GEq, mFi, bWF, GWF, mSe, bWS, GWS, aD, GD, aP, GP, aPo, GPo, aWorld, GWorld, aMade, GMade, aChange, GChange, aDone, GDone, aSa, GSa⟩ := V
  have hu := hr.units
  refine ⟨_, ps_par (i := 12) (j := 13) (by rfl) scLaw.nd rfl rfl (by decide) rfl rfl (pa_cons (pe_callB (call_repr SM hg hu) (by rfl) mRepr (by decide +kernel) (pa_cons (pv 11) pa_nil)) (pa_cons pe_non pa_nil)) (by rfl), fun D σ H' hA k => ?_⟩
  obtain ⟨p, x, o, nw, R, D, bad, zs, fs, ss, z, gf, gs, ks, ys, x2, x9, x10, x12, x13, x14, x15, x16, x17, x18, rfl, ⟨c1, hc1, S⟩, hc, tn, kl, rs, pw, hD⟩ := hA
  obtain ⟨ds, q1, q2, q3⟩ := pw.shown
  have dl : ds.length ≤ 6 := by rw [q3, pw.len]; exact kl
  obtain ⟨d, dq, fi⟩ : ∃ d, Dq K H' (.ref D) d ∧ Fine d 20 100000 := by
    rcases hD with hD | hD
    · exact ⟨.tuple ds, .tup hD q1, (Fine.tup (m := 100000) q2 (by have : ds.length * (1000 + 2) ≤ 6 * 1002 := Nat.mul_le_mul dl (Nat.le_refl _); omega)).up (by decide) (Nat.le_refl _)⟩
    · exact ⟨.list ds, .lst hD q1, (Fine.lst (m := 100000) q2 (by have : ds.length * (1000 + 2) ≤ 6 * 1002 := Nat.mul_le_mul dl (Nat.le_refl _); omega)).up (by decide) (Nat.le_refl _)⟩
  refine ⟨_, rfl, .ref D, d, rfl, dq, fi.sh, fi.dp, Nat.le_trans fi.sz (by decide), _, _, rfl, ?_⟩
  exact k _ _ ⟨p, x, o, nw, R, D, bad, d, zs, fs, ss, z, gf, gs, ks, _, _, _, _, _, _, _, _, rfl, ⟨c1, hc1, S⟩, hc, tn, kl, rs, ⟨pw.row hD, dq, fi⟩⟩
end
end N4

set_option maxHeartbeats 3900000
namespace N4
open PySem PySem.Spec PyProof.Rows L2 TL RP
open C8 (pss_cut tCut pe_gc)
open CB
/-- the world that after gave, or none -/
def Fnd (C : Addr) (H : Hp) (zs : List Str) (a0 : St0) (ks : List (Option Ch)) (fv : V) : Prop :=
  ((runK zs a0 0 ks).2 = none ∧ ∃ o' fs' ss', fv = .ref o' ∧ Wd C H o' zs (runK zs a0 0 ks).1 (6 + ks.length) fs' ss') ∨ ((∃ i, (runK zs a0 0 ks).2 = some i) ∧ fv = .non)
theorem Fnd.same {C : Addr} {H H' : Hp} {zs : List Str} {a0 : St0} {ks : List (Option Ch)} {fv : V} (h : Fnd C H zs a0 ks fv) (s : Same H H') : Fnd C H' zs a0 ks fv := by
  rcases h with ⟨e, o', f, g, e2, W⟩ | h
  · exact .inl ⟨e, o', f, g, e2, W.same s⟩
  · exact .inr h
def J8 (C : Addr) (K : PySem.W.Frag) (v0 : V) (st l : Addr) (c : Nat) : L2.St → Hp → Prop := fun σ H => ∃ (p x o nw R D : Addr) (bad fv : V) (d : PyData) (zs : List Str) (fs : Fs) (ss : Ss) (z : Str) (gf : Fs) (gs : Ss) (ks : List (Option Ch)) (x2 x9 x10 x14 x15 x16 x17 x18 : Option V), σ = [some v0, some (.ref st), x2, some (.ref p), some (.ref x), some (.ref o), some (.ref nw), some (.ref R), some bad, x9, x10, some (.ref D), some (.str d.shown), some fv, x14, x15, x16, x17, x18] ∧ (∃ c' ≤ c + 141, Strm H st l c') ∧ c ≤ 5001 ∧
  Tn C H st l p x o zs fs ss z gf gs ∧ ks.length ≤ 6 ∧ RwS H nw zs ⟨fOf fs, sOf ss, z⟩ bad ks ∧ Kd H K zs ks D d ∧ Fnd C H zs ⟨fOf fs, sOf ss, z⟩ ks fv
def JE (v0 : V) (st l : Addr) (c : Nat) : L2.St → Hp → Prop := fun σ H => ∃ (x2 x3 x4 x5 x6 x7 x8 x9 x10 x11 x12 x13 x14 x15 x16 x17 x18 : Option V), σ = [some v0, some (.ref st), x2, x3, x4, x5, x6, x7, x8, x9, x10, x11, x12, x13, x14, x15, x16, x17, x18] ∧ ∃ c' ≤ c + 141, Strm H st l c'
section
variable {P : Program} {w : World} {K : PySem.W.Frag} {mg : Str → Option Value} {base : Heap} {C : Addr} {fa : Str → Addr} {fd : Str → FuncData}
  {f : Addr} {cdv : Value} {A : Around} {outer : List Env} {s : Shared} {H : Hp} {E : XK} {v0 : V} {st l : Addr} {c i : Nat}
theorem step8 (V : LV P w K mg base C fa fd) (hg : A.guards = some []) (mRepr : mg "repr" = none) (SM : (base.get? sysModules).isSome = true) (hr : Room 10 (A.deeper (envOfC "law" (defScope sLaw) s.heap.objs.size f cdv))) : Step (XL P w K mg base f cdv A outer s H E) (bd 8) (J8 C K v0 st l c) (J8 C K v0 st l c) := by
  obtain ⟨T, mDict, R, mEq, ne, so, bEq, GEq, mFi, bWF, GWF, mSe, bWS, GWS, aD, GD, aP, GP, aPo, GPo, aWorld, GWorld, aMade, GMade, aChange, GChange, aDone, GDone, aSa, GSa⟩ := V
  have hu := hr.units
  have hu2 := Nat.lt_of_le_of_lt (Nat.add_le_add_left (show 1 ≤ 64 by decide) _) hr.units
  refine ⟨_, ps_if (PW.pt (pw_or (pt_cmpR op_ne (pe_cmp (pc_isN (pv 13)) rfl) (pe_cmp (pc_notN (pv 8)) rfl) (nomark _)) (pw_or (pt_cmpR op_ne (pe_callB (call_repr SM hg hu) (by rfl) mRepr (by decide +kernel) (pa_cons (pv 11) pa_nil)) (pv 12) (nomark _)) (pw_or1 (pt_cmpR (OW.op_neO GEq (hr.mono (by decide)) hu2 bEq pass0 mEq ne so) (pv 5) (pe_call GMade (hr.mono (by decide)) rfl aMade.m aMade.k aMade.b .nil pass0 (pa_cons (pv 4) pa_nil)) (nomark _)))))) (pss_one (ps_ret pe_bl)) (pss_nil), fun DD σ H' hA k => ?_⟩
  obtain ⟨p, x, o, nw, R, D, bad, fv, d, zs, fs, ss, z, gf, gs, ks, x2, x9, x10, x14, x15, x16, x17, x18, rfl, ⟨c1, hc1, S⟩, hc, tn, kl, rs, kd, fn⟩ := hA
  have key : (!decide (V.bl (decide (fv = .non)) = V.bl (!decide (bad = .non)))) = false := by
    have bd := rs.bd
    rcases fn with ⟨e, o', f', g', rfl, W⟩ | ⟨⟨i, e⟩, rfl⟩
    · rw [e] at bd
      subst bd
      rw [decide_eq_false (show ¬ V.ref o' = V.non by intro z; cases z)]
      rfl
    · rw [e] at bd
      subst bd
      rw [decide_eq_false (show ¬ V.int (i : Nat) = V.non by intro z; cases z)]
      rfl
  refine ⟨_, rfl, _, rfl, rfl, _, rfl, iteF' key ?_⟩
  refine ⟨_, rfl, .ref D, d, rfl, kd.dq, kd.fi.sh, kd.fi.dp, Nat.le_trans kd.fi.sz (by decide), _, rfl, rfl, _, rfl, iteF' (by rw [decide_eq_true rfl]; rfl) ?_⟩
  have q := tn.q
  refine ⟨_, rfl, _, rfl, x, fs, ss, zs, z, rfl, q.wa, q.g, q.gs, tn.nm, by have := q.fl; omega, by have := q.sl; omega, fun o2 H1 gf2 gs2 ho2 s1 pf2 ps2 _ _ wo2 => ?_⟩
  have t1 := tn.same s1
  obtain ⟨q1, q2, q3, h1, h2, h3⟩ := id t1.wo
  obtain ⟨p1, p2, p3, k1, k2, k3⟩ := id wo2
  refine ⟨o, o2, q1, p1, _, _, rfl, rfl, h1, k1, o, o2, gf, gf2, gs, gs2, zs, z, rfl, t1.wo, wo2, tn.pf.trans pf2.symm, tn.ps.trans ps2.symm, q.g.perm tn.pf, q.gs.perm tn.ps, tn.nm, true, rfl, _, rfl, iteF ?_⟩
  exact k _ _ ⟨p, x, o, nw, R, D, bad, fv, d, zs, fs, ss, z, gf, gs, ks, _, _, _, _, _, _, _, _, rfl, ⟨c1, hc1, S.up s1⟩, hc, t1, kl, rs.same s1, kd.same s1, fn.same s1⟩
end
end N4

set_option maxHeartbeats 3900000
namespace N4
open PySem PySem.Spec PyProof.Rows L2 TL RP
open C8 (pss_cut tCut pe_gc)
open CB
theorem fs_sorted_eq {fs a b : Fs} (nf : ∀ e ∈ fs, Nms e.1) (nd : (fs.map (·.1)).Nodup) (pa : a.Perm fs) (pb : b.Perm fs) (sa : sortedS (a.map fun x => js x.1) = true) (sb : sortedS (b.map fun x => js x.1) = true) : a = b := by
  have pw : ∀ c : Fs, c.Perm fs → sortedS (c.map fun x => js x.1) = true → c.Pairwise (fun x y : List Str × Str => (js x.1).cps.toList < (js y.1).cps.toList) := fun c pc sc => by
    have ndj : (c.map fun x => js x.1).Nodup := by
      have := js_nd (ps := c.map (·.1)) (fun q hq => by
        obtain ⟨x, hx, rfl⟩ := List.mem_map.mp hq
        exact nf x (pc.mem_iff.mp hx)) ((pc.map _).nodup_iff.mpr nd)
      rw [List.map_map] at this
      exact this
    have p := sorted_pw sc ndj
    rw [List.pairwise_map] at p
    exact p
  exact strict_ext (fun x y : List Str × Str => (js x.1).cps.toList < (js y.1).cps.toList) (fun a h => List.lt_irrefl _ h) (fun a b h g => List.lt_irrefl _ (lt_tr _ _ _ h g)) a b (pw a pa sa) (pw b pb sb) fun x => pa.mem_iff.trans pb.mem_iff.symm
theorem ss_sorted_eq {ss a b : Ss} (nd : (ss.map (·.1)).Nodup) (pa : a.Perm ss) (pb : b.Perm ss) (sa : sortedS (a.map (·.1)) = true) (sb : sortedS (b.map (·.1)) = true) : a = b := by
  have pw : ∀ c : Ss, c.Perm ss → sortedS (c.map (·.1)) = true → c.Pairwise (fun x y : Str × Str => x.1.cps.toList < y.1.cps.toList) := fun c pc sc => by
    have p := sorted_pw sc ((pc.map _).nodup_iff.mpr nd)
    rw [List.pairwise_map] at p
    exact p
  exact strict_ext (fun x y : Str × Str => x.1.cps.toList < y.1.cps.toList) (fun a h => List.lt_irrefl _ h) (fun a b h g => List.lt_irrefl _ (lt_tr _ _ _ h g)) a b (pw a pa sa) (pw b pb sb) fun x => pa.mem_iff.trans pb.mem_iff.symm
/-- rows of two texts as data -/
def twoD (e : Str × Str) : PyData := .tuple [.str e.1, .str e.2]
theorem dq_two {K : PySem.W.Frag} {H : Hp} : ∀ (ts : List Addr) (es : List (Str × Str)), TupsAt H ts (es.map fun e => [V.str e.1, V.str e.2]) → DqAll K H (ts.map V.ref) (es.map twoD)
  | [], [], _ => .nil
  | [], e :: es, h => absurd h.1 (by simp)
  | t :: ts, [], h => absurd h.1 (by simp)
  | t :: ts, e :: es, h => .cons (.tup (h.2 0 t _ rfl rfl) (.cons (.str _) (.cons (.str _) .nil))) (dq_two ts es ⟨by have q := h.1; rw [List.map_cons, List.length_cons, List.length_cons] at q; omega, fun i t' e' ht he => h.2 (i + 1) t' e' ht he⟩)
theorem tups_paired {H : Hp} : ∀ (ts : List Addr) (kvs : List (L2.Key × V)) (g : List (List V)), Paired (fun (t : Addr) (q : L2.Key × V) => H t = some (.tup [kV q.1, q.2])) ts kvs → g = kvs.map (fun q => [kV q.1, q.2]) → TupsAt H ts g
  | _, _, _, .nil, e => by
    subst e
    exact .nil
  | _, _, _, .cons h r, e => by
    subst e
    exact (TupsAt.one h).app (tups_paired _ _ _ r rfl)
theorem runK_tools {zs : List Str} : ∀ (r : List (Option Ch)) (a : St0) (i : Nat), a.z ∈ tools → (runK zs a i r).1.z ∈ tools
  | [], a, i, h => h
  | x :: r, a, i, h => by
    show (match stepK zs a x with | some b => runK zs b (i + 1) r | none => (a, some i)).1.z ∈ tools
    cases e : stepK zs a x with
    | none => exact h
    | some b =>
      have hb : b.z ∈ tools := by
        cases x with
        | none => cases e
        | some c =>
          by_cases cc : Can zs a c
          · rw [show stepK zs a (some c) = some (a.do c) from if_pos cc] at e
            cases e
            cases c with
            | put p t => exact h
            | drop p => exact h
            | set n t => exact h
            | tool t => exact cc
          · rw [show stepK zs a (some c) = none from if_neg cc] at e
            cases e
      exact runK_tools r b (i + 1) hb
theorem fine_two {a b : Str} (ha : Fine (.str a) 0 310) (hb : Fine (.str b) 0 310) : Fine (twoD (a, b)) 1 626 := Fine.pair ha hb
theorem fine_rows {es : List (Str × Str)} (h : ∀ e ∈ es, Fine (.str e.1) 0 310 ∧ Fine (.str e.2) 0 310) (n : es.length ≤ 20) : Fine (.list (es.map twoD)) 2 20000 :=
  Fine.lst (dep := 1) (n := 626) (m := 20000) (fun d hd => by
    obtain ⟨e, he, rfl⟩ := List.mem_map.mp hd
    exact fine_two (h e he).1 (h e he).2) (by rw [List.length_map]; have : es.length * (626 + 2) ≤ 20 * 628 := Nat.mul_le_mul n (Nat.le_refl _); omega)
def rowF (fs : Fs) : List (Str × Str) := fs.map fun e => (js e.1, e.2)
theorem fineF {zs : List Str} {fs : Fs} (g : GoodF zs fs) (nm : ∀ y ∈ zs, IsNm y) : ∀ e ∈ rowF fs, Fine (.str e.1) 0 310 ∧ Fine (.str e.2) 0 310 := fun e he => by
  obtain ⟨x, hx, rfl⟩ := List.mem_map.mp he
  have np : Nms x.1 := fun y hy => nm y ((g.path x hx).2.2 y hy)
  obtain ⟨q1, q2, q3⟩ := texts_fine x.2 (g.text x hx)
  refine ⟨(fine_str (n := 30) (fun c hc => ?_) ?_).up (Nat.le_refl _) (by decide), (Fine.mk q1 q2 q3).up (Nat.le_refl _) (by decide)⟩
  · rw [tl_js] at hc
    have := jl_small np c hc
    omega
  · show (js x.1).length ≤ 30
    have := js_len np
    have := (g.path x hx).2.1
    omega
theorem fineS {zs : List Str} {ss : Ss} (g : GoodS zs ss) (nm : ∀ y ∈ zs, IsNm y) : ∀ e ∈ ss, Fine (.str e.1) 0 310 ∧ Fine (.str e.2) 0 310 := fun e he => by
  obtain ⟨q1, q2, q3⟩ := texts_fine e.2 (g.text e he)
  exact ⟨(fine_nm (nm e.1 (g.name e he))).up (Nat.le_refl _) (by decide), (Fine.mk q1 q2 q3).up (Nat.le_refl _) (by decide)⟩
section
variable {P : Program} {w : World} {K : PySem.W.Frag} {mg : Str → Option Value} {base : Heap} {C : Addr} {fa : Str → Addr} {fd : Str → FuncData}
  {f : Addr} {cdv : Value} {A : Around} {outer : List Env} {s : Shared} {H : Hp} {E : XK} {v0 : V} {st l : Addr} {c i : Nat}
theorem step9 (V : LV P w K mg base C fa fd) (I : WIs K C) (hg : A.guards = some []) (hr : Room 10 (A.deeper (envOfC "law" (defScope sLaw) s.heap.objs.size f cdv))) : Step (XL P w K mg base f cdv A outer s H E) (bd 9) (J8 C K v0 st l c) (JE v0 st l c) := by
  obtain ⟨T, mDict, R, mEq, ne, so, bEq, GEq, mFi, bWF, GWF, mSe, bWS, GWS, aD, GD, aP, GP, aPo, GPo, aWorld, GWorld, aMade, GMade, aChange, GChange, aDone, GDone, aSa, GSa⟩ := V
  have hu := hr.units
  have hu1 := Nat.lt_of_le_of_lt (Nat.add_le_add_left (show 1 ≤ 64 by decide) _) hr.units
  refine ⟨_, (ps_if (pt_cmp (pc_notN (pv 13))) (pss_cons (ps_set (i := 15) scLaw.nd rfl (Or.inl rfl) (pe_lst (pa_cons (LiI.pe_listItems rfl (pe_meth0 (pv 13) R.cl mFi GWF (hr.mono (by decide)) bWF .nil pass0) (by rfl) T.list (by decide +kernel)) (pa_cons (LiI.pe_listItems rfl (pe_meth0 (pv 13) R.cl mSe GWS (hr.mono (by decide)) bWS .nil pass0) (by rfl) T.list (by decide +kernel)) (pa_cons (pe_fld (pv 13) rfl) pa_nil))))) (pss_cons (ps_set (i := 16) scLaw.nd rfl (Or.inl rfl) (pe_lst (pa_cons (pe_lc (own := [("_law_path_here", 18)]) (g := gName 18) (tt := tYes) rfl scLaw.nd (pi_list (pe_callB (call_sortedD rfl) (by rfl) T.sorted (by decide +kernel) (pa_cons (pe_dget hu1 (pv 6) pe_str (fun _ _ => rfl)) pa_nil))) (blkOk_by (own := [("_law_path_here", 18)]) (N := ["_law_script", "_law_stream", "_law_turn", "_law_pool_here", "_law_w", "_law_world_here", "_law_now", "_law_row", "_law_bad", "_law_k", "_law_behind", "_law_passed", "_law_kept", "_law_found", "e", "_law_told", "_law_due", "_law_one", "_law_path_here"]) (sc := defScope sLaw) (by decide +kernel)) (fun _ _ _ _ _ => (pg_name (i := 18) scLaw.nd rfl (Or.inl rfl))) (fun _ _ _ _ _ => pts_nil) (fun _ _ _ _ _ => (by exact (pe_tup (pa_cons (pv 18) (pa_cons (pe_dget hu1 (pe_dget hu1 (pv 6) pe_str (fun _ _ => rfl)) (pv 18) (fun _ _ => rfl)) pa_nil)))))) pa_nil))) (pss_cons (ps_expr (pe_bm PySem.F.plainAttrs_list PySem.F.slot_list_extend PySem.F.type_list_extend mt_extend (pv 16) (pa_cons (pe_lst (pa_cons (pe_lc (own := [("_law_one", 17)]) (g := gName 17) (tt := tYes) rfl scLaw.nd (pi_list (pe_callB (call_sortedD rfl) (by rfl) T.sorted (by decide +kernel) (pa_cons (pe_dget hu1 (pv 6) pe_str (fun _ _ => rfl)) pa_nil))) (blkOk_by (own := [("_law_one", 17)]) (N := ["_law_script", "_law_stream", "_law_turn", "_law_pool_here", "_law_w", "_law_world_here", "_law_now", "_law_row", "_law_bad", "_law_k", "_law_behind", "_law_passed", "_law_kept", "_law_found", "e", "_law_told", "_law_due", "_law_one", "_law_path_here"]) (sc := defScope sLaw) (by decide +kernel)) (fun _ _ _ _ _ => (pg_name (i := 17) scLaw.nd rfl (Or.inl rfl))) (fun _ _ _ _ _ => pts_nil) (fun _ _ _ _ _ => (by exact (pe_tup (pa_cons (pv 17) (pa_cons (pe_dget hu1 (pe_dget hu1 (pv 6) pe_str (fun _ _ => rfl)) (pv 17) (fun _ _ => rfl)) pa_nil)))))) (pa_cons (pe_dget hu1 (pv 6) pe_str (fun _ _ => rfl)) pa_nil))) pa_nil))) (pss_one (ps_if (PW.pt (pw_or (pt_not (pt_val (pe_callB call_isi (by rfl) T.isinstance (by decide +kernel) (pa_cons (pv 13) (pa_cons (pe_glob (v := .ref C) rfl R.mg rfl) pa_nil))))) (pw_or1 (pt_not (pt_val (pe_callG GSa hg (hr.mono (by decide)) rfl aSa.m aSa.k aSa.b pass0 (pa_cons (pv 15) (pa_cons (pv 16) pa_nil)))))))) (pss_one (ps_ret pe_bl)) (pss_nil)))))) (pss_nil)), fun DD σ H' hA k => ?_⟩
  obtain ⟨p, x, o, nw, R0, D, bad, fv, d, zs, fs, ss, z, gf, gs, ks, x2, x9, x10, x14, x15, x16, x17, x18, rfl, ⟨c1, hc1, S⟩, hc, tn, kl, rs, kd, fn⟩ := hA
  rcases fn with ⟨e, o', f', g', rfl, W⟩ | ⟨⟨i, e⟩, rfl⟩
  · refine ⟨_, rfl, _, rfl, iteT' (by rw [decide_eq_false (by intro z; cases z)]; rfl) ?_⟩
    obtain ⟨fN, sN, q⟩ := rs.now
    obtain ⟨dx, d1, d2, h1, h2, h3⟩ := id W.wo
    refine ⟨_, rfl, o', dx, _, rfl, h1, lk_fi _ _ _, o', f', g', _, rfl, W.wo, fun a1 na1 => ?_⟩
    refine ⟨a1, _, rfl, upd_same, fun H1 l1 t1 s1 nl1 nt1 nlt1 hl1 pr1 => ?_⟩
    have sA : Same H' H1 := (same_mk na1).trans s1
    have W1 := W.same sA
    refine ⟨_, rfl, o', dx, _, rfl, sA _ _ h1, lk_se _ _ _, o', f', g', _, rfl, W1.wo, fun a2 na2 => ?_⟩
    refine ⟨a2, _, rfl, upd_same, fun H2 l2 t2 s2 nl2 nt2 nlt2 hl2 pr2 => ?_⟩
    have sB : Same H1 H2 := (same_mk na2).trans s2
    have sAB := sA.trans sB
    have W2 := W1.same sB
    have hl1 := sB _ _ hl1
    have tF : TupsAt H1 t1 ((rowF f').map fun e => [V.str e.1, V.str e.2]) := tups_paired t1 (fsK f') _ pr1 (by unfold rowF fsK; rw [List.map_map, List.map_map]; rfl)
    have tS : TupsAt H2 t2 (g'.map fun e => [V.str e.1, V.str e.2]) := tups_paired t2 (ssK g') _ pr2 (by unfold ssK; rw [List.map_map]; rfl)
    have tF := tF.same sB
    refine ⟨_, rfl, o', C, dx, _, _, rfl, sAB _ _ h1, R.cl, R.n3, lk_3, by show 3 ≤ sizeLine; decide, fun l3 nl3 => ?_⟩
    have s3 := same_mk (o := .lst [.ref l1, .ref l2, .str (runK zs ⟨fOf fs, sOf ss, z⟩ 0 ks).1.z]) nl3
    have g3 := upd_same (H := H2) (a := l3) (o := .lst [.ref l1, .ref l2, .str (runK zs ⟨fOf fs, sOf ss, z⟩ 0 ks).1.z])
    have s13 := sAB.trans s3
    have hl1 := s3 _ _ hl1
    have hl2 := s3 _ _ hl2
    have tF := tF.same s3
    have tS := tS.same s3
    generalize upd H2 l3 (.lst [.ref l1, .ref l2, .str (runK zs ⟨fOf fs, sOf ss, z⟩ 0 ks).1.z]) = H3 at s3 g3 s13 hl1 hl2 tF tS ⊢
    have q3 := q.same s13
    have nf : ∀ x ∈ fN, Nms x.1 := fun x hx y hy => tn.nm y ((q.g.path x hx).2.2 y hy)
    obtain ⟨dN, eN, hx, hd, he⟩ := q3.wa
    have keysF : (fsK fN).map (·.1) = (fN.map fun x => js x.1).map Sum.inr := by
      unfold fsK
      rw [List.map_map, List.map_map]
      rfl
    have keysS : (ssK sN).map (·.1) = (sN.map (·.1)).map Sum.inr := by
      unfold ssK
      rw [List.map_map, List.map_map]
      rfl
    have fl := q.fl
    have sl := q.sl
    refine ⟨_, rfl, nw, _, rfl, wd_f hx, dN, fsK fN, fN.map fun x => js x.1, rfl, .inl hd, keysF, by rw [List.length_map]; omega, fun ys p4 pm srt hp4 => ?_⟩
    obtain ⟨fM, rfl, pf⟩ := perm_lift pm
    have s4 := same_mk (o := .lst ((fM.map fun x => js x.1).map V.str)) hp4
    have s14 := s13.trans s4
    have hl4 : upd H3 p4 (.lst ((fM.map fun x => js x.1).map V.str)) p4 = some (.lst (fM.map fun x => V.str (js x.1))) := by rw [upd_same, List.map_map]; rfl
    generalize upd H3 p4 (.lst ((fM.map fun x => js x.1).map V.str)) = H4 at s4 s14 hl4 ⊢
    refine ⟨p4, rfl, ⟨_, SqL.of hl4⟩, fun D1 hD1 => ?_⟩
    have fMl := pf.length_eq
    refine lcTp (walk_list (K := K) (a := p4) (xs := fM.map fun x => V.str (js x.1))) fM (fun x => .str (js x.1)) (fun x => [.str (js x.1), .str x.2]) (fun _ => true) (by rw [List.length_map]) (by rw [List.length_map]; omega) (fun i H x H' y => ⟨y.1, y.2⟩) hD1 (fun H' s' => SqL.of (s' _ _ hl4)) (fun x hx H5 s5 Q1 k1 => k1 H5 (Same.refl H5)) ?_ ?_
    · intro x hxm _ H5 s5 Q1 k1
      have s35 := s4.trans s5
      have dg := DGet.k (k := .inr (js x.1)) (s35 _ _ hd)
      have hm := pf.mem_iff.mp hxm
      rw [fs_val nf (nf x hm), fs_get nf q.g.nd x hm] at dg
      exact ⟨_, rfl, _, rfl, nw, _, rfl, wd_f (s35 _ _ hx), _, rfl, dN, _, rfl, dg, by show 2 ≤ sizeLine; decide, fun t nt => k1 t _ (same_mk nt) upd_same⟩
    · intro H5 ts1 s5 hD5 ta1
      have s15 := s14.trans s5
      have s35 := s4.trans s5
      have hl1 := s35 _ _ hl1
      have hl2 := s35 _ _ hl2
      have tF := tF.same s35
      have tS := tS.same s35
      have g3 := s35 _ _ g3
      have hx := s35 _ _ hx
      have he := s35 _ _ he
      refine ⟨by show 1 ≤ sizeLine; decide, fun l4 nl4 => ?_⟩
      have m1 : l1 ≠ l4 := fun e => by rw [← e, hl1] at nl4; cases nl4
      have m2 : l2 ≠ l4 := fun e => by rw [← e, hl2] at nl4; cases nl4
      have m3 : l3 ≠ l4 := fun e => by rw [← e, g3] at nl4; cases nl4
      have m4 : D1 ≠ l4 := fun e => by rw [← e, hD5] at nl4; cases nl4
      have s6 := same_mk (o := .lst [.ref D1]) nl4
      have g4 := upd_same (H := H5) (a := l4) (o := .lst [.ref D1])
      have s16 := s15.trans s6
      have hl1 := s6 _ _ hl1
      have hl2 := s6 _ _ hl2
      have tF := tF.same s6
      have tS := tS.same s6
      have g3 := s6 _ _ g3
      have hx := s6 _ _ hx
      have he := s6 _ _ he
      have hD5 := s6 _ _ hD5
      have ta1 := ta1.same s6
      have nl4' := s15.free nl4
      generalize upd H5 l4 (.lst [.ref D1]) = H6 at s6 g4 s16 hl1 hl2 tF tS g3 hx he hD5 ta1 ⊢
      refine ⟨_, rfl, .inl ⟨rfl, _, SqL.of g4⟩, ?_⟩
      refine ⟨_, rfl, nw, _, rfl, wd_s hx, eN, ssK sN, sN.map (·.1), rfl, .inl he, keysS, by rw [List.length_map]; omega, fun ys p5 pm2 srt2 hp5 => ?_⟩
      obtain ⟨sM, rfl, ps⟩ := perm_lift pm2
      have s7 := same_mk (o := .lst ((sM.map (·.1)).map V.str)) hp5
      have hl5 : upd H6 p5 (.lst ((sM.map (·.1)).map V.str)) p5 = some (.lst (sM.map fun x => V.str x.1)) := by rw [upd_same, List.map_map]; rfl
      generalize upd H6 p5 (.lst ((sM.map (·.1)).map V.str)) = H7 at s7 hl5 ⊢
      refine ⟨p5, rfl, ⟨_, SqL.of hl5⟩, fun D2 hD2 => ?_⟩
      have sMl := ps.length_eq
      have m5 : D2 ≠ l4 := fun e => by rw [e, s7 _ _ g4] at hD2; cases hD2
      refine lcTp (walk_list (K := K) (a := p5) (xs := sM.map fun x => V.str x.1)) sM (fun x => .str x.1) (fun x => [.str x.1, .str x.2]) (fun _ => true) (by rw [List.length_map]) (by rw [List.length_map]; omega) (fun i H x H' y => ⟨y.1, y.2⟩) hD2 (fun H' s' => SqL.of (s' _ _ hl5)) (fun x hx H8 s8 Q1 k1 => k1 H8 (Same.refl H8)) ?_ ?_
      · intro x hxm _ H8 s8 Q1 k1
        have s68 := s7.trans s8
        have dg := DGet.k (k := .inr x.1) (s68 _ _ he)
        have hm := ps.mem_iff.mp hxm
        rw [ss_val, ss_get q.gs.nd x hm] at dg
        exact ⟨_, rfl, _, rfl, nw, _, rfl, wd_s (s68 _ _ hx), _, rfl, eN, _, rfl, dg, by show 2 ≤ sizeLine; decide, fun t nt => k1 t _ (same_mk nt) upd_same⟩
      · intro H8 ts2 s8 hD8 ta2
        have s68 := s7.trans s8
        refine ⟨_, rfl, nw, _, rfl, wd_t (s68 _ _ hx), by show 2 ≤ sizeLine; decide, fun l6 nl6 => ?_⟩
        have s9 := same_mk (o := .lst [.ref D2, .str (runK zs ⟨fOf fs, sOf ss, z⟩ 0 ks).1.z]) nl6
        have g6 := upd_same (H := H8) (a := l6) (o := .lst [.ref D2, .str (runK zs ⟨fOf fs, sOf ss, z⟩ 0 ks).1.z])
        have s69 := s68.trans s9
        have hD8 := s9 _ _ hD8
        have ta2 := ta2.same s9
        generalize upd H8 l6 (.lst [.ref D2, .str (runK zs ⟨fOf fs, sOf ss, z⟩ 0 ks).1.z]) = H9 at s9 g6 s69 hD8 ta2 ⊢
        have hl1 := s69 _ _ hl1
        have hl2 := s69 _ _ hl2
        have tF := tF.same s69
        have tS := tS.same s69
        have g3 := s69 _ _ g3
        have g4 := s69 _ _ g4
        have hD5 := s69 _ _ hD5
        have ta1 := ta1.same s69
        have s19 := s16.trans s69
        refine ⟨l4, l6, _, _, rfl, rfl, g4, g6, by show 1 + 2 ≤ sizeLine; decide, ?_⟩
        have sE : Same H' (upd H9 l4 (.lst ([.ref D1] ++ [.ref D2, .str (runK zs ⟨fOf fs, sOf ss, z⟩ 0 ks).1.z]))) := same_upd s19 nl4'
        have tF := tF.put (o := .lst ([.ref D1] ++ [.ref D2, .str (runK zs ⟨fOf fs, sOf ss, z⟩ 0 ks).1.z])) g4
        have tS := tS.put (o := .lst ([.ref D1] ++ [.ref D2, .str (runK zs ⟨fOf fs, sOf ss, z⟩ 0 ks).1.z])) g4
        have ta1 := ta1.put (o := .lst ([.ref D1] ++ [.ref D2, .str (runK zs ⟨fOf fs, sOf ss, z⟩ 0 ks).1.z])) g4
        have ta2 := ta2.put (o := .lst ([.ref D1] ++ [.ref D2, .str (runK zs ⟨fOf fs, sOf ss, z⟩ 0 ks).1.z])) g4
        have hF : ∀ {b : Addr} {u : HO}, H9 b = some u → b ≠ l4 → upd H9 l4 (.lst ([.ref D1] ++ [.ref D2, .str (runK zs ⟨fOf fs, sOf ss, z⟩ 0 ks).1.z])) b = some u := fun hb n => by rw [upd_ne n]; exact hb
        have hl1 := hF hl1 m1
        have hl2 := hF hl2 m2
        have g3 := hF g3 m3
        have hD5 := hF hD5 m4
        have hD8 := hF hD8 m5
        have g4 := upd_same (H := H9) (a := l4) (o := .lst ([.ref D1] ++ [.ref D2, .str (runK zs ⟨fOf fs, sOf ss, z⟩ 0 ks).1.z]))
        clear hF
        generalize upd H9 l4 (.lst ([.ref D1] ++ [.ref D2, .str (runK zs ⟨fOf fs, sOf ss, z⟩ 0 ks).1.z])) = HE at tF tS ta1 ta2 hl1 hl2 g3 hD5 hD8 g4 sE ⊢
        have nf' : ∀ x ∈ f', Nms x.1 := fun x hx y hy => tn.nm y ((W.g.path x hx).2.2 y hy)
        have eF : f' = fM := fs_sorted_eq nf q.g.nd (fs_perm nf' nf W.g.nd q.g.nd fun p => by rw [W.f, q.f]) pf W.srtF srt
        have eS : g' = sM := ss_sorted_eq q.gs.nd (ss_perm W.gs.nd q.gs.nd fun p => by rw [W.s, q.s]) ps W.srtS srt2
        subst eF
        subst eS
        have ta1 : TupsAt HE ts1 ((rowF f').map fun e => [V.str e.1, V.str e.2]) := by
          have e : (f'.filter fun _ => true) = f' := List.filter_eq_self.mpr fun _ _ => rfl
          rw [e] at ta1
          unfold rowF
          rw [List.map_map]
          exact ta1
        have ta2 : TupsAt HE ts2 (g'.map fun e => [V.str e.1, V.str e.2]) := by
          have e : (g'.filter fun _ => true) = g' := List.filter_eq_self.mpr fun _ _ => rfl
          rw [e] at ta2
          exact ta2
        have WE := W.same sE
        obtain ⟨ex, e1, e2, i1, i2, i3⟩ := id WE.wo
        refine ⟨_, rfl, _, _, .ref C, .ref C, true, rfl, .own C, .base (.ins i1 R.cl I.ha I.hn I.ht I.hm), I.kC, _, rfl, iteF ?_⟩
        have tz := runK_tools (zs := zs) ks ⟨fOf fs, sOf ss, z⟩ 0 tn.tz
        obtain ⟨w1, w2, w3⟩ := tools_fine _ tz
        refine ⟨_, rfl, _, rfl, .ref l3, .ref l4, .list [.list ((rowF f').map twoD), .list (g'.map twoD), .str (runK zs ⟨fOf fs, sOf ss, z⟩ 0 ks).1.z], rfl, .lst g3 (.cons (.lst hl1 (dq_two t1 _ tF)) (.cons (.lst hl2 (dq_two t2 _ tS)) (.cons (.str _) .nil))), .lst g4 (.cons (.lst hD5 (dq_two ts1 _ ta1)) (.cons (.lst hD8 (dq_two ts2 _ ta2)) (.cons (.str _) .nil))), ?_, _, rfl, iteF (k _ _ ⟨_, _, _, _, _, _, _, _, _, _, _, _, _, _, _, _, _, rfl, c1, hc1, S.up sE⟩)⟩
        have fl' := W.fl
        have sl' := W.sl
        refine (Fine.lst (dep := 2) (n := 20000) (m := 100000) (List.forall_mem_cons.mpr ⟨fine_rows (fineF W.g tn.nm) (by unfold rowF; rw [List.length_map]; omega), List.forall_mem_cons.mpr ⟨fine_rows (fineS W.gs tn.nm) (by omega), List.forall_mem_cons.mpr ⟨(Fine.mk w1 w2 w3).up (by decide) (by decide), fun d hd => absurd hd (by simp)⟩⟩⟩) (by show 2 + 3 * (20000 + 2) ≤ 100000; decide)).up (by decide) (Nat.le_refl _)
  · exact ⟨_, rfl, _, rfl, iteF' (by decide +kernel) (k _ _ ⟨_, _, _, _, _, _, _, _, _, _, _, _, _, _, _, _, _, rfl, c1, hc1, S⟩)⟩
end
end N4

set_option maxHeartbeats 3900000
namespace N4
open PySem PySem.Spec PyProof.Rows L2 TL RP
open C8 (pss_cut tCut pe_gc)
open CB
theorem runK_lt {zs : List Str} : ∀ (r : List (Option Ch)) (a : St0) (i j : Nat), (runK zs a i r).2 = some j → j < i + r.length
  | [], a, i, j, h => by cases h
  | x :: r, a, i, j, h => by
    have h2 : (match stepK zs a x with | some b => runK zs b (i + 1) r | none => (a, some i)).2 = some j := h
    cases e : stepK zs a x with
    | none =>
      rw [e] at h2
      have h3 : some i = some j := h2
      cases h3
      show i < i + (r.length + 1)
      omega
    | some b =>
      rw [e] at h2
      have := runK_lt r b (i + 1) j h2
      show j < i + (r.length + 1)
      omega
theorem fine_six {i : Nat} (h : i < 6) : Fine (.int (i : Nat)) 20 100000 := by
  have q : i = 0 ∨ i = 1 ∨ i = 2 ∨ i = 3 ∨ i = 4 ∨ i = 5 := by omega
  rcases q with rfl | rfl | rfl | rfl | rfl | rfl <;> exact ⟨by decide +kernel, by decide +kernel, by decide +kernel⟩
theorem takes0N {X : Cx} : L2N.Takes X (fun _ _ _ _ => False) := fun _ _ x => by
  obtain ⟨_, _, _, _, _, _, _, _, _, _, _, _, _, _, _, _, z⟩ := x
  exact z.elim
theorem pass0At {X : Cx} {E : L2.St → XK} : ∀ σ, PassesAt CX0 X σ (E σ) := fun σ pins H s e s' I c => (C8.pass0 (X := X) (E := E σ)) pins σ H s e s' I c
theorem lk_af (u v t : V) : List.lookup ("after" : Str) [(("contents" : Str), u), ("chosen", v), ("tool", t)] = none := by
  have h1 : (("after" : Str) == ("contents" : Str)) = false := by decide +kernel
  have h2 : (("after" : Str) == ("chosen" : Str)) = false := by decide +kernel
  have h3 : (("after" : Str) == ("tool" : Str)) = false := by decide +kernel
  simp only [List.lookup, h1, h2, h3]
section
variable {P : Program} {w : World} {K : PySem.W.Frag} {mg : Str → Option Value} {base : Heap} {C : Addr} {fa : Str → Addr} {fd : Str → FuncData}
theorem ok_sameH {f : Addr} {fd : FuncData} (F : Fun K "_law_same" "_law_same" sSame f fd) (mRepr : mg "repr" = none) (SM : (base.get? sysModules).isSome = true) : HG.FnHG P w K mg base CX0 1 f fd ["_law_found", "_law_due"] (spSame K) := by
  refine HG.okHG F scSame (fun vs H Q E h => ?_) (fun cdv A outer s H vs Q E p hg hot hr h => ?_)
  · obtain ⟨v, u, d, rfl, _⟩ := h
    rfl
  · obtain ⟨v, u, d, rfl, h1, h2, fi, k⟩ := h
    have hun := hr.un
    have hu : (A.deeper (envOfC "_law_same" (defScope sSame) s.heap.objs.size f cdv)).units + 64 < cLine := by omega
    have sz' : d.shown.length ≤ sizeLine := Nat.le_trans fi.sz (by decide)
    refine ⟨_, pss_one (ps_ret (pe_cmpR op_eq (pe_callB (call_repr SM hg hu) (by rfl) mRepr (by decide +kernel) (pa_cons (pv 0) pa_nil)) (pe_callB (call_repr SM hg hu) (by rfl) mRepr (by decide +kernel) (pa_cons (pv 1) pa_nil)) (nomark _))), ?_⟩
    refine ⟨_, rfl, v, d, rfl, h1, fi.sh, fi.dp, sz', _, rfl, u, d, rfl, h2, fi.sh, fi.dp, sz', rfl, ?_⟩
    show Q (.bl (decide (V.str d.shown = V.str d.shown))) H
    rw [decide_eq_true rfl]
    exact k
end
section
variable {P : Program} {w : World} {K : PySem.W.Frag} {mg : Str → Option Value} {base : Heap} {C CB fB : Addr} {fa : Str → Addr} {fd : Str → FuncData}
  {f : Addr} {cdv : Value} {A : Around} {outer : List Env} {s : Shared} {H : Hp} {E : XK} {v0 : V} {st l : Addr} {c i : Nat}
theorem step7 (V : LV P w K mg base C fa fd) (B : BCl K mg CB fB) (mAf : Meth K C "after" (fa "after")) (bAf : L2.Binds K (fd "after") ["self", "changes"] []) (GAf : FnOk P w K mg base (L2N.CX P w) 8 (fa "after") (fd "after") ["self", "changes"] (spWAfX C CB))
    (GSaH : HG.FnHG P w K mg base CX0 1 (fa "same") (fd "same") ["_law_found", "_law_due"] (spSame K)) (hg : A.guards = some []) (hr : Room 10 (A.deeper (envOfC "law" (defScope sLaw) s.heap.objs.size f cdv))) : Step (XL P w K mg base f cdv A outer s H E) (bd 7) (J6 C K v0 st l c) (J8 C K v0 st l c) := by
  obtain ⟨T, mDict, R, mEq, ne, so, bEq, GEq, mFi, bWF, GWF, mSe, bWS, GWS, aD, GD, aP, GP, aPo, GPo, aWorld, GWorld, aMade, GMade, aChange, GChange, aDone, GDone, aSa, GSa⟩ := V
  have hr8 : Room 8 _ := hr.mono (by decide)
  have hr1 : Room 1 _ := hr.mono (by decide)
  refine ⟨_, L2N.ps_try_as (i := 14) (Wout := fun _ _ _ _ => False) rfl rfl scLaw.nd rfl rfl ⟨rfl, by decide, Or.inl B.mg⟩ takes0N
    (fun W pn xe tk _ => pss_one (ps_set (i := 13) scLaw.nd rfl (Or.inl rfl) (by exact (pe_methX (pv 5) R.cl mAf GAf hr8 bAf (fun σ => L2N.passAt tk σ) (pa_cons (pv 11) pa_nil)))))
    (fun a oe cls d pn hz hf => pss_one (ps_if (pt_not (pt_val (by exact (HG.pe_callHG (E := fun _ _ _ _ => False) GSaH hg (L2H.roomH_mark hr1 (some (.ref a))) (by obtain ⟨vs, hd⟩ := hf; exact ⟨(a, oe), ⟨rfl, vs, hd, hz.2.2 vs hd⟩, List.mem_cons_self⟩) rfl aSa.m aSa.k aSa.b pass0At (pa_cons (pe_xf B.xf B.no hz.zc hf (pv 14)) (pa_cons (pv 8) pa_nil)))))) (pss_one (ps_ret pe_bl)) (pss_nil))), fun DD σ H' hA k => ?_⟩
  obtain ⟨p, x, o, nw, R0, D, bad, d, zs, fs, ss, z, gf, gs, ks, x2, x9, x10, x14, x15, x16, x17, x18, rfl, ⟨c1, hc1, S⟩, hc, tn, kl, rs, kd⟩ := hA
  obtain ⟨dx, d1, d2, h1, h2, h3⟩ := id tn.wo
  have q := tn.q
  have nf : ∀ e ∈ fs, Nms e.1 := fun e he y hy => tn.nm y ((q.g.path e he).2.2 y hy)
  have W : Wd C H' o zs ⟨fOf fs, sOf ss, z⟩ 6 gf gs := ⟨tn.wo, q.g.perm tn.pf, q.gs.perm tn.ps, by rw [tn.pf.length_eq]; exact q.fl, by rw [tn.ps.length_eq]; exact q.sl, fun p => fOf_perm nf tn.pf q.g.nd, fun p => sOf_perm tn.ps q.gs.nd, tn.srtF, tn.srtS⟩
  refine ⟨_, rfl, o, dx, _, rfl, h1, lk_af _ _ _, _, rfl, o, .ref D, zs, ⟨fOf fs, sOf ss, z⟩, 6, gf, gs, ks, rfl, W, kd.row, tn.nm, by omega, fun e o' H1 f' g' s1 W1 => ?_, fun i e dd H1 s1 hd hxd => ?_⟩
  · exact k _ _ ⟨p, x, o, nw, R0, D, bad, .ref o', d, zs, fs, ss, z, gf, gs, ks, _, _, _, _, _, _, _, _, rfl, ⟨c1, hc1, S.up s1⟩, hc, tn.same s1, kl, rs.same s1, kd.same s1, .inl ⟨e, o', f', g', rfl, W1⟩⟩
  · have bd := rs.bd
    rw [e] at bd
    subst bd
    refine ⟨true, B.te, fun _ a ha => ?_, fun q => Bool.noConfusion q⟩
    have hi : i < 6 := by
      have := runK_lt ks ⟨fOf fs, sOf ss, z⟩ 0 i e
      omega
    refine ⟨_, rfl, rfl, rfl, dd, _, .int i, rfl, hxd, by simp [List.lookup], _, rfl, .int i, .int i, .int i, rfl, .int _, .int _, fine_six hi, _, rfl, iteF ?_⟩
    exact k _ _ ⟨p, x, o, nw, R0, D, .int i, .non, d, zs, fs, ss, z, gf, gs, ks, _, _, _, _, _, _, _, _, rfl, ⟨c1, hc1, S.up s1⟩, hc, tn.same s1, kl, (rs.same s1), kd.same s1, .inr ⟨⟨i, e⟩, rfl⟩⟩
end
end N4

set_option maxHeartbeats 3900000
namespace N4
open PySem PySem.Spec PyProof.Rows L2 TL RP
open C8 (pss_cut tCut pe_gc)
open CB
def spLaw (K : PySem.W.Frag) : Sp := fun vs H Q _ => ∃ (a : Addr) (ns : List Int), vs = [.ref a] ∧ ns.length ≤ 63 ∧ SqL K H a (ns.map V.int) ∧ ∀ H', Q (.bl true) H'
section
variable {P : Program} {w : World} {K : PySem.W.Frag} {mg : Str → Option Value} {base : Heap} {C CB fB : Addr} {fa : Str → Addr} {fd : Str → FuncData}
theorem JE.up {v0 : V} {st l : Addr} {c : Nat} {σ : L2.St} {H : Hp} (h : JE v0 st l (c + 1) σ H) : ∃ c' ≤ c + 142, ∃ x2 x3 x4 x5 x6 x7 x8 x9 x10 x11 x12 x13 x14 x15 x16 x17 x18, σ = [some v0, some (.ref st), x2, x3, x4, x5, x6, x7, x8, x9, x10, x11, x12, x13, x14, x15, x16, x17, x18] ∧ Strm H st l c' := by
  obtain ⟨x2, x3, x4, x5, x6, x7, x8, x9, x10, x11, x12, x13, x14, x15, x16, x17, x18, e, c', hc, S⟩ := h
  exact ⟨c', by omega, x2, x3, x4, x5, x6, x7, x8, x9, x10, x11, x12, x13, x14, x15, x16, x17, x18, e, S⟩
/-- the last steps, from the next stretch of the stream on -/
theorem turn {f : Addr} {cdv : Value} {A : Around} {outer : List Env} {s : Shared} {H : Hp} {E : XK} (V : LV P w K mg base C fa fd) (I : WIs K C) (B : BCl K mg CB fB) (mAf : Meth K C "after" (fa "after")) (bAf : L2.Binds K (fd "after") ["self", "changes"] []) (GAf : FnOk P w K mg base (L2N.CX P w) 8 (fa "after") (fd "after") ["self", "changes"] (spWAfX C CB))
    (GSaH : HG.FnHG P w K mg base CX0 1 (fa "same") (fd "same") ["_law_found", "_law_due"] (spSame K)) (mRepr : mg "repr" = none) (SM : (base.get? sysModules).isSome = true) (hg : A.guards = some []) (hr : Room 10 (A.deeper (envOfC "law" (defScope sLaw) s.heap.objs.size f cdv))) (v0 : L2.V) (st l : Addr) (c : Nat) (h5 : c ≤ 5000) :
    Steps (XL P w K mg base f cdv A outer s H E) (forBody ((defBody sLaw).getD 1 (.Pass ⟨0, 0, 0, 0⟩))) (J0 v0 st l c) (JE v0 st l (c + 1)) :=
  steps_cons (step0 V hr) (steps_cons (step1 V hr) (steps_cons (step2 V hr) (steps_cons (step3 V hr h5) (steps_cons (step4 V hr) (steps_cons (step5 V hr) (steps_cons (step6 V hg mRepr SM hr) (steps_cons (step7 V B mAf bAf GAf GSaH hg hr) (steps_cons (step8 V hg mRepr SM hr) (steps_one (step9 V I hg hr))))))))))
theorem ok_law {f : Addr} {fdl : FuncData} (F : Fun K "law" "law" sLaw f fdl) (VV : LV P w K mg base C fa fd) (I : WIs K C) (B : BCl K mg CB fB) (mAf : Meth K C "after" (fa "after")) (bAf : L2.Binds K (fd "after") ["self", "changes"] []) (GAf : FnOk P w K mg base (L2N.CX P w) 8 (fa "after") (fd "after") ["self", "changes"] (spWAfX C CB))
    (GSaH : HG.FnHG P w K mg base CX0 1 (fa "same") (fd "same") ["_law_found", "_law_due"] (spSame K)) (mRepr : mg "repr" = none) (SM : (base.get? sysModules).isSome = true) : FnG P w K mg base CX0 11 f fdl ["_law_script"] (spLaw K) := by
  refine okG F scLaw (fun vs H Q E h => ?_) (fun cdv A outer s H vs Q E hg hr h => ?_)
  · obtain ⟨a, ns, rfl, _⟩ := h
    rfl
  · have V0 := VV
    have T := VV.T
    obtain ⟨a, ns, rfl, hl, hS, fin⟩ := h
    refine ⟨_, pss_cut (ps_set (i := 1) scLaw.nd rfl (Or.inr rfl) (pe_lst (pa_cons (pe_callTy call_list_of (by rfl) T.list (by decide +kernel) (pa_cons (pv 0) pa_nil)) (pa_cons pe_int (pa_cons pe_int (pa_cons pe_int pa_nil))))))
      (pss_cut (ps_for PassesOwn.never rfl (pi_range1 rfl T.range (pa_cons pe_int pa_nil)) (pg_name (i := 2) scLaw.nd rfl (Or.inl rfl)) (psW (ss := forBody ((defBody sLaw).getD 1 (.Pass ⟨0, 0, 0, 0⟩)))))
      (pss_one (ps_ret pe_bl))), ?_⟩
    refine ⟨fun σ H' => ∃ st l, σ = [some (.ref a), some (.ref st), none, none, none, none, none, none, none, none, none, none, none, none, none, none, none, none, none] ∧ Strm H' st l 0,
      ⟨_, rfl, a, _, rfl, .inl hS, fun l hl0 => ⟨by show 4 ≤ sizeLine; decide, fun st hst => ⟨st, l, rfl, ?_⟩⟩⟩, ?_⟩
    · have e : upd (upd H l (.lst (ns.map V.int))) st (.lst [.ref l, .int 0, .int 0, .int 0]) l = some (.lst (ns.map V.int)) := same_mk hst _ _ upd_same
      exact ⟨ns, 0, 0, ⟨upd_same, e⟩, hl, by decide, by decide, by decide⟩
    rintro _ H0 ⟨st, l, rfl, S0⟩
    refine ⟨fun _ _ => True, ?_, ?_⟩
    · refine ⟨6, rfl, by decide, by decide, for_range (lo := 0) (n := 6) (fun i σ H' => ∃ x2 x3 x4 x5 x6 x7 x8 x9 x10 x11 x12 x13 x14 x15 x16 x17 x18 c, σ = [some (.ref a), some (.ref st), x2, x3, x4, x5, x6, x7, x8, x9, x10, x11, x12, x13, x14, x15, x16, x17, x18] ∧ Strm H' st l c ∧ c ≤ 142 * i)
        ⟨none, none, none, none, none, none, none, none, none, none, none, none, none, none, none, none, none, 0, rfl, S0, Nat.le_refl _⟩ ?_ (fun _ _ _ => trivial)⟩
      rintro i _ H1 hi ⟨x2, x3, x4, x5, x6, x7, x8, x9, x10, x11, x12, x13, x14, x15, x16, x17, x18, c, rfl, S1, hc⟩
      refine Steps.wish (turn V0 I B mAf bAf GAf GSaH mRepr SM hg hr (.ref a) st l c (by omega)) ⟨_, _, _, _, _, _, _, _, _, _, _, _, _, _, _, _, _, rfl, S1, by omega⟩ ?_
      intro σ' H' h
      obtain ⟨c', hc', y2, y3, y4, y5, y6, y7, y8, y9, y10, y11, y12, y13, y14, y15, y16, y17, y18, e, S'⟩ := h.up
      exact ⟨y2, y3, y4, y5, y6, y7, y8, y9, y10, y11, y12, y13, y14, y15, y16, y17, y18, c', e, S', by omega⟩
    · rintro σ H1 _
      exact fin _
end
end N4

set_option maxHeartbeats 3900000
/-! The end of a law whose defs are called where no repr is under way; tables of code objects. -/
namespace EG
open PySem PySem.Spec PyProof.Rows L2 LamX RP
section
variable {P : Program} {w : World} {K : PySem.W.Frag} {tabs : List Addr} {a : Addr} {ob : Obj} {xs : List V}
/-- tracked at the start: the empty tables, and the script where the written part does not hold it -/
def track (K : PySem.W.Frag) (tabs : List Addr) (a : Addr) (ob : Obj) (xs : List V) : Hp := fun b =>
  if b ∈ tabs then some (.tbl #[]) else if b = a ∧ K.lookup a = none then some (.frz ob (.lst xs)) else none
theorem track_cases (b : Addr) : (b ∈ tabs ∧ track K tabs a ob xs b = some (.tbl #[])) ∨ (b ∉ tabs ∧ b = a ∧ K.lookup a = none ∧ track K tabs a ob xs b = some (.frz ob (.lst xs))) ∨
    (b ∉ tabs ∧ (b = a → K.lookup a ≠ none) ∧ track K tabs a ob xs b = none) := by
  unfold track
  by_cases h1 : b ∈ tabs
  · exact .inl ⟨h1, if_pos h1⟩
  · by_cases h2 : b = a ∧ K.lookup a = none
    · exact .inr (.inl ⟨h1, h2.1, h2.2, by rw [if_neg h1, if_pos h2]⟩)
    · exact .inr (.inr ⟨h1, fun e z => h2 ⟨e, z⟩, by rw [if_neg h1, if_neg h2]⟩)
end
theorem end_call {P : Program} {w : World} {K : PySem.W.Frag} {mg mb : Str → Option Value} {k : Nat} {fa a : Addr} {cs : List (Addr × Addr)} {fd : FuncData} {x : Str} {sp : Sp} {s : Shared} {us : List Value} {ns : List Int}
    (kin : K.In s.heap) (gn : s.heap.Ns mainGlobals mg) (bn : s.heap.Ns builtinsNs mb) (bb : ∀ y : Str, y ≠ "__name__" → mb y = bootBuiltins y) (nl : s.heap.NoLimit) (ng : s.gens = #[])
    (tE : ∀ p ∈ cs, s.heap.get? p.2 = some { cls := .none, data := .fields #[] }) (tK : ∀ p ∈ cs, K.lookup p.2 = none) (tC : ∀ p ∈ cs, PySem.W.CodeHd s.heap p.1 p.2)
    (sys : ∃ (o : Obj) (es : Array DictEntry) (n : Nat), s.heap.get? sysModules = some o ∧ o.data = .dict es n)
    (mod : ∃ (m : Addr) (o : Obj), mg "__builtins__" = some (.ref m) ∧ m ≠ builtinsNs ∧ s.heap.get? m = some o ∧ o.cls = .type "module" ∧ o.dict = some builtinsNs ∧ o.data = .plain)
    (ia : s.heap.get? a = some { cls := .type "list", data := .seq us.toArray }) (ii : IntsAre us ns) (il : ns.length ≤ sizeLine) (room : Room k callerA)
    (F : ∀ base : Heap, K.In base → base.Ns mainGlobals mg → (∀ p ∈ cs, TabB base mg p.1 p.2) → (base.get? sysModules).isSome = true → FnG P w K mg base CX0 k fa fd [x] sp) (hb : ∀ (t : Shared) (u : Value), BindsTo t fd ⟨[u], []⟩ [(x, u)])
    (hsp : ∀ H : Hp, (∀ p ∈ cs, H p.2 = some (.tbl #[])) → SqL K H a (ns.map V.int) → sp [.ref a] H (fun v _ => v = .bl true) fun _ _ _ => False) :
    codeAny (model P w) callerA (.call (.ref fa) ⟨[.ref a], []⟩) (fun r t => r = .ok (.ret (.bool true)) ∧ OldK s.heap t.heap ∧ t.os = s.os ∧ AllBare t.gens) s := by
  have rv := vals_ints ii
  have tE' : ∀ b ∈ cs.map (·.2), s.heap.get? b = some { cls := .none, data := .fields #[] } := fun b hb => by
    obtain ⟨p, hp, rfl⟩ := List.mem_map.mp hb
    exact tE p hp
  generalize hob : ({ cls := .type "list", data := .seq us.toArray } : Obj) = ob at ia
  have na : a ∉ cs.map (·.2) := fun z => by
    have q := (tE' a z).symm.trans ia
    rw [← hob] at q
    cases q
  generalize hH : track K (cs.map (·.2)) a ob (ns.map V.int) = H
  have tc := fun b => track_cases (K := K) (tabs := cs.map (·.2)) (a := a) (ob := ob) (xs := ns.map V.int) b
  rw [hH] at tc
  -- what the heap holds is as tracked
  have ok : HOk P w H s.heap := fun b o e => by
    rcases tc b with ⟨h1, h2⟩ | ⟨h1, h2, h3, h4⟩ | ⟨_, _, h4⟩
    · rw [h2] at e
      cases e
      exact tE' b h1
    · rw [h4] at e
      cases e
      subst h2
      exact ⟨ia, by rw [List.length_map]; exact il, us, _, rv, ia.trans (congrArg some hob.symm)⟩
    · rw [h4] at e
      cases e
  -- other objects are not tracked
  have free : ∀ {b : Addr} {o : Obj}, s.heap.get? b = some o → o ≠ ob → o.data ≠ .fields #[] → H b = none := fun {b o} e d1 d2 => by
    rcases tc b with ⟨h1, _⟩ | ⟨_, h2, _, _⟩ | ⟨_, _, h4⟩
    · rw [tE' b h1] at e
      cases e
      exact (d2 rfl).elim
    · rw [h2, ia] at e
      exact (d1 (Option.some.inj e).symm).elim
    · exact h4
  have down : ∀ {b : Addr} {o : Obj}, s.heap.get? b = some o → o ≠ ob → o.data ≠ .fields #[] → (hidT s.heap H).get? b = some o := fun e d1 d2 => hidT_get e (free e d1 d2)
  have dict : ∀ {b : Addr} {m : Str → Option Value}, s.heap.Ns b m → (hidT s.heap H).Ns b m := fun {b m} ⟨o, es, ep, e, d, r⟩ =>
    ⟨o, es, ep, down e (fun z => by rw [z, ← hob] at d; cases d) (fun z => by rw [d] at z; cases z), d, r⟩
  have kB : K.In (hidT s.heap H) := fun b o e => hidT_get (kin b o e) (by
    rcases tc b with ⟨h1, _⟩ | ⟨_, h2, h3, _⟩ | ⟨_, _, h4⟩
    · obtain ⟨p, hp, rfl⟩ := List.mem_map.mp h1
      rw [tK p hp] at e
      cases e
    · rw [h2, h3] at e
      cases e
    · exact h4)
  have tabB : ∀ p ∈ cs, TabB (hidT s.heap H) mg p.1 p.2 := fun p hp => by
    obtain ⟨m, o, m1, m2, m3, m4, m5, m6⟩ := mod
    have dm : m ≠ mainGlobals := fun z => by
      obtain ⟨o', es, ep, e, d, _⟩ := gn
      rw [z, e] at m3
      cases m3
      rw [d] at m6
      cases m6
    have dp : m ≠ p.2 := fun z => by
      rw [z, tE p hp] at m3
      cases m3
      cases m6
    obtain ⟨oc, vs, file, tf, fl, tg, inF, tx, tt, c1, c2, c3, c4, cr⟩ := tC p hp
    have cne : oc ≠ ob := fun z => by
      rw [z, ← hob] at c3
      cases c3
    have cnf : oc.data ≠ .fields #[] := fun z => by
      rw [c3] at z
      cases z
      simp at c4
    have mne : o ≠ ob := fun z => by
      rw [z, ← hob] at m6
      cases m6
    have mnf : o.data ≠ .fields #[] := fun z => by
      rw [m6] at z
      cases z
    refine ⟨⟨oc, vs, file, tf, fl, tg, inF, tx, tt, down c1 cne cnf, c2, c3, c4, cr⟩, ⟨m, o, m1, m2, dm, dp, down m3 mne mnf, m4, m5, m6⟩, fun z => ?_⟩
    obtain ⟨o', es, ep, e, d, _⟩ := gn
    rw [z, tE p hp] at e
    cases e
    cases d
  have sysB : ((hidT s.heap H).get? sysModules).isSome = true := by
    obtain ⟨o, es, n, h1, h2⟩ := sys
    have q := down h1 (fun z => by rw [z, ← hob] at h2; cases h2) (fun z => by rw [h2] at z; cases z)
    rw [q]
    rfl
  have e0 : Env0 P w K mg (hidT s.heap H) callerA [] s H :=
    ⟨rfl, ⟨kB, dict gn, ⟨mb, dict bn, bb⟩, let ⟨mc, l1, l2⟩ := nl; ⟨mc, dict l1, l2⟩⟩, fun b o e => of_hidT e, Nat.le_of_eq (hidT_size _ _), trivial, fun b z => absurd (show b ∈ ([] : List Addr) from z) (by simp), ok, .of_eq ng⟩
  have seq : SqL K H a (ns.map V.int) := by
    rcases tc a with ⟨h1, _⟩ | ⟨_, _, _, h4⟩ | ⟨_, h3, _⟩
    · exact (na h1).elim
    · exact .inl (.inr ⟨ob, h4⟩)
    · cases q : K.lookup a with
      | none => exact (h3 rfl q).elim
      | some o =>
        have z := kin a o q
        rw [ia] at z
        cases z
        rw [← hob] at q
        exact .inr ⟨_, us.toArray, _, q, rfl, rfl, rfl, by rw [List.size_toArray, ii.length]; exact il, by simpa using rv⟩
  have tabs : ∀ p ∈ cs, H p.2 = some (.tbl #[]) := fun p hp => by
    have hm : p.2 ∈ cs.map (·.2) := List.mem_map.mpr ⟨p, hp, rfl⟩
    rcases tc p.2 with ⟨_, h2⟩ | ⟨h1, _⟩ | ⟨h1, _⟩
    · exact h2
    · exact (h1 hm).elim
    · exact (h1 hm).elim
  refine codeAny_mono ((F _ kB (dict gn) tabB sysB).run callerA [] s H ⟨[.ref a], []⟩ [.ref a] [.ref a] _ _ rfl room e0 (hb s (.ref a)) (.cons rfl .nil) (hsp H tabs seq)) fun r t h => ?_
  cases r with
  | error e => exact (show False from h).elim
  | ok fl =>
    cases fl with
    | next => exact False.elim h
    | brk => exact False.elim h
    | cont => exact False.elim h
    | ret u =>
      obtain ⟨v, H', os, bare, un, ok', r', q⟩ := h
      have q' : v = .bl true := q
      subst q'
      obtain rfl : u = Value.bool true := r'
      have old : ∀ b o, b ∉ cs.map (·.2) → s.heap.get? b = some o → t.heap.get? b = some o := fun b o nb e => by
        rcases tc b with ⟨h1, _⟩ | ⟨_, h2, h3, h4⟩ | ⟨_, _, h4⟩
        · exact (nb h1).elim
        · have z := un.frzs b _ _ h4
          obtain ⟨e2, _⟩ := ok' b _ z
          rw [h2, ia] at e
          cases e
          exact e2
        · exact un.keep b o e h4 (fun z => absurd (show b ∈ ([] : List Addr) from z) (by simp)) (by simp)
      have more : ∀ p ∈ cs, ∃ m : Array Value, t.heap.get? p.2 = some { cls := .none, data := .fields m } := fun p hp => by
        obtain ⟨m, z⟩ := un.tbls p.2 #[] (tabs p hp)
        exact ⟨_, ok' p.2 _ z⟩
      refine ⟨rfl, ⟨fun b o e => ?_, fun b o e => ?_⟩, os, bare⟩
      · by_cases z : b ∈ cs.map (·.2)
        · obtain ⟨p, hp, rfl⟩ := List.mem_map.mp z
          obtain ⟨m, hm⟩ := more p hp
          rw [tE p hp] at e
          cases e
          exact .inr (.inl ⟨((tC p hp).tab (tE p hp)).isCodeTable, rfl, #[], m, rfl, by rw [Array.empty_append]; exact hm⟩)
        · exact .inl (old b o z e)
      · by_cases z : b ∈ cs.map (·.2)
        · obtain ⟨p, hp, rfl⟩ := List.mem_map.mp z
          obtain ⟨m, hm⟩ := more p hp
          exact ⟨_, hm⟩
        · exact ⟨o, old b o z e⟩
/-- a law: F gives the written part, the tables, the function object, the promise over every base -/
theorem walkG {l : PySem.W.OpenLaw} {n k : Nat} {q : Program} {loose : List Str} {XP : (Str → Option Value) → Heap → Prop} {YP : World → Heap → Prop} {d : DefRec} {x : Str}
    (hn : l.most = some n) (hn2 : n ≤ sizeLine) (hdf : d.params.defaults = []) (room : Room k callerA)
    (F : ∀ (w : World) (mg : Str → Option Value) (fa : Addr) (h : Heap), YP w h → h.Ns mainGlobals mg → mg d.name = some (.ref fa) →
      ∃ (K : PySem.W.Frag) (cs : List (Addr × Addr)) (fd : FuncData) (sp : Sp), K.In h ∧ (∀ p ∈ cs, h.get? p.2 = some { cls := .none, data := .fields #[] }) ∧ (∀ p ∈ cs, K.lookup p.2 = none) ∧ (∀ p ∈ cs, PySem.W.CodeHd h p.1 p.2) ∧ (∃ (o : Obj) (es : Array DictEntry) (n : Nat), h.get? sysModules = some o ∧ o.data = .dict es n) ∧
        (∀ (s : Shared) (u : Value), BindsTo s fd ⟨[u], []⟩ [(x, u)]) ∧
        (∀ (H : Hp) (a : Addr) (ns : List Int), ns.length ≤ n → (∀ z ∈ ns, Builtin.Int.intBits z ≤ 1048576) → (∀ p ∈ cs, H p.2 = some (.tbl #[])) → SqL K H a (ns.map V.int) → sp [.ref a] H (fun v _ => v = .bl true) fun _ _ _ => False) ∧
        ∀ base : Heap, K.In base → base.Ns mainGlobals mg → (∀ p ∈ cs, TabB base mg p.1 p.2) → (base.get? sysModules).isSome = true → FnG l.prog w K mg base CX0 k fa fd [x] sp) :
    PySem.W.WalkO q loose XP YP l.row.toRowW d [] (fun f vs => PySem.call f vs) := by
  refine Att.attach_callB hn hdf fun w s₀ s mg mb fa o pm cd doc a vs ns G Y ho hd hcd hmg hobj hints hlen hbits hg => ?_
  obtain ⟨K, cs, fd, sp, KX, h1, h2, h3, h4, hb, hsp, hF⟩ := F w mg fa _ Y G.T.g hmg
  exact end_call KX G.T.g G.T.b G.T.builtins G.T.nolimit hg h1 h2 h3 h4 G.T.bmain hobj hints (Nat.le_trans hlen hn2) room hF hb fun H => hsp H a ns hlen hbits
end EG

set_option maxHeartbeats 0
namespace N4
open PySem PySem.Spec PyProof.Rows L2 EG RP
def oexB (K : PySem.W.Frag) (C : Addr) : Bool := match K.lookup C with
  | some ⟨.type t, _, .cls cd, sl⟩ => decide (t = "type") && ((match cd.mro with
      | .ref C' :: bm => decide (C' = C) && PySem.HandSPX.refsVE bm
      | _ => false) && (cd.hasDict && (!cd.hasDel && (match sl.toList with
      | [_, _, _, _, some (.builtin n), _] => decide (n = "ValueError.__new__")
      | _ => false))))
  | _ => false
theorem oexB_ok {K : PySem.W.Frag} {C : Addr} (h : oexB K C = true) : ∃ nm q N bs bm sn sub ab col dd k0 k1 k2 k3 k5, K.lookup C = some (excClassObj nm q C N bs bm true sn sub ab col dd k0 k1 k2 k3 k5 "ValueError.__new__") ∧ PySem.HandSPX.refsVE bm = true := by
  unfold oexB at h
  split at h
  · rename_i t dd cd sl ho
    obtain ⟨h1, h⟩ := He.ba h
    obtain ⟨h2, h⟩ := He.ba h
    obtain ⟨h3, h⟩ := He.ba h
    obtain ⟨h4, h5⟩ := He.ba h
    split at h2
    · rename_i C' bm hm
      split at h5
      · rename_i k0 k1 k2 k3 n k5 hs
        obtain ⟨h6, h7⟩ := He.ba h2
        have e1 : t = "type" := of_decide_eq_true h1
        have e2 : C' = C := of_decide_eq_true h6
        have e3 : n = "ValueError.__new__" := of_decide_eq_true h5
        have e4 : sl = #[k0, k1, k2, k3, some (.builtin n), k5] := by
          have := congrArg List.toArray hs
          simpa using this
        obtain ⟨nm, bs, mro, ns, qn, hd, sn, sub, ab, col, del⟩ := cd
        dsimp only at hm h3 h4
        have e5 : del = false := by simpa using h4
        rw [e1, e4, hm, h3, e5, e2, e3] at ho
        exact ⟨nm, qn, ns, bs, bm, sn, sub, ab, col, dd, k0, k1, k2, k3, k5, ho, h7⟩
      · cases h5
    · cases h2
  · cases h
def eqV (a b : Option (Option Value)) : Bool := decide (a = b)
def wrldB (K : PySem.W.Frag) (C : Addr) : Bool :=
  eqV (PySem.W.findIn K (.ref C) "__class__") (some (some (.builtin "object.__class__"))) && (decide (PySem.W.specialIn K (.builtin "object.__class__") "__get__" = some (some (.builtin "getset_descriptor.__get__"))) &&
  (decide (PySem.W.takesIn K (.builtin "object.__class__") = some true) && (decide (PySem.W.mroIn K C (.type "object") = some true) && (eqV (PySem.W.findIn K (.ref C) "__ne__") (some (some (.builtin "object.__ne__"))) &&
  (decide (PySem.W.subIn K (.ref C) (.type "object") = some true) && decide (PySem.W.kitOne K (.ref C) (.ref C) = some true))))))
def chgB (K : PySem.W.Frag) (C : Addr) : Bool := oexB K C && (eqV (PySem.W.findIn K (.ref C) "__setattr__") (some (some (.builtin "object.__setattr__"))) && (decide (PySem.W.subIn K (.ref C) (.type "BaseException") = some true) && (decide (PySem.W.typeIn K (.ref C) = some (.type "type")) &&
  (PySem.W.keepIn K (.ref C) && (eqV (PySem.W.findIn K (.ref C) "__init__") (some (some (.ref (He.ma K C "__init__")))) && (decide (PySem.W.typeIn K (.ref (He.ma K C "__init__")) = some (.type "function")) && (eqV (PySem.W.findIn K (.ref C) "index") (some none) &&
  (xfB K C && decide (PySem.W.exmOne K (.ref C) (.ref C) = some true)))))))))
def exB (K : PySem.W.Frag) : Bool := wrldB K (He.ga K "World") && chgB K (He.ga K "BadChange")
def dG (x : Str) (i : Nat) : He.DefD := ⟨(x, none), x, x, defArgs (top i), defBody (top i), defScope (top i), [], []⟩
def dI (x m q : Str) (i j : Nat) (ds : List He.Dv) : He.DefD := ⟨(x, some m), m, q, defArgs (inClass (top i) j), defBody (inClass (top i) j), defScope (inClass (top i) j), ds, []⟩
def fnL : List He.DefD := ([dG "is_name" 12, dG "is_path" 13, dG "is_place" 14, dG "beginning" 15, dG "paths_above" 16, dG "rest_in" 17, dG "is_row" 19, dG "as_look" 20, dG "can_look" 21, dG "check_files" 24, dG "check_settings" 25, dG "listing" 26] : List He.DefD) ++ ([dG "entry_of" 27, dG "is_change" 28, dG "is_short_change" 29, dG "is_long_change" 30, dG "can_be_done" 31, dG "changed" 32, dG "_law_draw" 34, dG "_law_pick" 35, dG "_law_same" 36, dG "_law_fresh" 37, dG "_law_pool" 38, dG "_law_path" 39] : List He.DefD) ++ ([dG "_law_beneath" 40, dG "_law_has_room" 41, dG "_law_text" 42, dG "_law_files" 43, dG "_law_world" 44, dG "_law_made" 45, dG "_law_odd_change" 46, dG "_law_change" 47, dG "_law_is_change" 48, dG "_law_done" 49, dG "law" 50, dI "World" "__init__" "World.__init__" 23 0 [.non, .str ""]] : List He.DefD) ++ ([dI "World" "files" "World.files" 23 1 [], dI "World" "settings" "World.settings" 23 2 [], dI "World" "answer" "World.answer" 23 3 [], dI "World" "after" "World.after" 23 4 [], dI "World" "__contains__" "World.__contains__" 23 6 [], dI "World" "__eq__" "World.__eq__" 23 7 [], dI "BadChange" "__init__" "BadChange.__init__" 6 0 []] : List He.DefD)
def gloL : List Str := (["is_name", "is_path", "is_place", "beginning", "paths_above", "rest_in", "is_row", "as_look", "can_look", "check_files", "check_settings", "listing"] : List PySem.Str) ++ (["entry_of", "is_change", "is_short_change", "is_long_change", "can_be_done", "changed", "_law_draw", "_law_pick", "_law_same", "_law_fresh", "_law_pool", "_law_path"] : List PySem.Str) ++ (["_law_beneath", "_law_has_room", "_law_text", "_law_files", "_law_world", "_law_made", "_law_odd_change", "_law_change", "_law_is_change", "_law_done", "law", "World"] : List PySem.Str) ++ (["BadChange"] : List PySem.Str)
def freeL : List Str := (["int", "len", "range", "list", "tuple", "any", "all", "sorted", "isinstance", "enumerate", "zip", "str"] : List Str) ++ (["repr", "dict"] : List Str)
def conL : List He.Fa := [.str "STROKE" "/", .str "ROOT" "", .str "LETTERS" "abcdefghijklmnopqrstuvwxyz", .int "LONGEST" 8, .cls "World", .noat "World" "contents", .noat "World" "chosen", .noat "World" "tool"] ++ ([.mkr "World", .meth "World" "answer", .meth "World" "__eq__", .meth "World" "files", .meth "World" "settings", .meth "World" "after", .meth "World" "__contains__"] : List He.Fa)
def faL : List He.Fa := (gloL.map fun x => He.Fa.glo x) ++ ((freeL.map fun x => He.Fa.free x) ++ conL)
def isD (o : Option Obj) : Bool := match o with
  | some ⟨_, _, .dict _ _, _⟩ => true
  | _ => false
def hkL : PySem.W.Hook where
  α := He.AlX × Bool
  obs := fun s => (He.obsX 5 faL fnL [] [] exB s.heap.get?, isD (s.heap.get? sysModules))
  val := fun w => (He.valX fnL [] w, true)
  says := fun w h => (∃ K : PySem.W.Frag, K.In h ∧ He.SaysX faL fnL [] [] exB w h K) ∧ ∃ (o : Obj) (es : Array DictEntry) (n : Nat), h.get? sysModules = some o ∧ o.data = .dict es n
  of := fun w s e => by
    refine ⟨(He.hookX 5 faL fnL [] [] exB).of w s (congrArg (fun z : He.AlX × Bool => z.1) e), ?_⟩
    have e2 : isD (s.heap.get? sysModules) = true := congrArg (fun z : He.AlX × Bool => z.2) e
    unfold isD at e2
    split at e2
    · rename_i c d es n sl ho
      exact ⟨_, es, n, ho, rfl⟩
    · cases e2
  keeps := fun w h h' ⟨a, o, es, n, h1, h2⟩ k => ⟨(He.hookX 5 faL fnL [] [] exB).keeps w h h' a k, o, es, n, k _ _ h1, h2⟩
abbrev RL : PySem.W.OpenRow := PySem.W.OpenLaw.row PySem.Challenge.rw_trueagain_k04_changes_done
def obL (s : PySem.W.SharedT) : hkL.α := (He.obsX 5 faL fnL [] [] exB (HandSHeadRun.getT s), isD (HandSHeadRun.getT s sysModules))
theorem obL_eq (s : PySem.W.SharedT) : obL s = hkL.obs s.abs := by
  have e : HandSHeadRun.getT s = s.abs.heap.get? := funext (HandSHeadRun.getT_eq s)
  show (He.obsX 5 faL fnL [] [] exB (HandSHeadRun.getT s), isD (HandSHeadRun.getT s sysModules)) = _
  rw [e]
  rfl
def looseL : List PySem.Str := (["AgainError", "BadPath", "Blocked", "BadName", "BadLook", "BadChange", "is_name", "is_path", "is_place", "beginning", "paths_above", "rest_in"] : List PySem.Str) ++ (["is_row", "as_look", "can_look", "World", "check_files", "check_settings", "listing", "entry_of", "is_change", "is_short_change", "is_long_change", "can_be_done"] : List PySem.Str) ++ (["changed", "_law_draw", "_law_pick", "_law_same", "_law_fresh", "_law_pool", "_law_path", "_law_beneath", "_law_has_room", "_law_text", "_law_files", "_law_world"] : List PySem.Str) ++ (["_law_made", "_law_odd_change", "_law_change", "_law_is_change", "_law_done", "LETTERS", "LONGEST", "STROKE", "ROOT"] : List PySem.Str)
theorem runL (w : World) : HandSHeadRun.RunEq RL (PySem.W.view RL.prog [50]) hkL obL 20000 looseL w := by
  intro os
  kernel_rfl
end N4

set_option maxHeartbeats 0
namespace N4
open PySem PySem.Spec PyProof.Rows L2 EG RP
theorem fun_of {K : PySem.W.Frag} {x q : Str} {st : Stmt} {f : Addr} {fd : FuncData} (F : FunD K x q (defArgs st) (defBody st) (defScope st) [] [] f fd) : Fun K x q st f fd := by
  obtain ⟨oc, od, dV, kV, doc, pm, an, cdv, ct, osl, rfl, lk, hcd, hD, hK⟩ := F.ex
  rcases hD with ⟨_, rfl⟩ | ⟨e, _⟩
  · exact ⟨⟨oc, od, kV, doc, pm, an, cdv, ct, osl, rfl, lk, hcd⟩, F.kp⟩
  · exact absurd rfl e
theorem lookS_of {K : PySem.W.Frag} {C : Addr} {mg : Str → Option Value} (h : chgB K C = true) (m : mg "BadChange" = some (.ref C)) : BCl K mg C (He.ma K C "__init__") := by
  obtain ⟨h1, h⟩ := He.ba h
  obtain ⟨h2, h⟩ := He.ba h
  obtain ⟨h3, h⟩ := He.ba h
  obtain ⟨h4, h⟩ := He.ba h
  obtain ⟨h5, h⟩ := He.ba h
  obtain ⟨h6, h⟩ := He.ba h
  obtain ⟨h7, h⟩ := He.ba h
  obtain ⟨h8, h⟩ := He.ba h
  obtain ⟨h9, h10⟩ := He.ba h
  exact ⟨m, ⟨oexB_ok h1, of_decide_eq_true h2, of_decide_eq_true h3, of_decide_eq_true h4, h5⟩, of_decide_eq_true h6, of_decide_eq_true h7, of_decide_eq_true h8, xfB_ok h9, of_decide_eq_true h10⟩
section
variable {P : Program} {w : World} {K : PySem.W.Frag} {h : Heap} {mg : Str → Option Value} {f : Addr}
theorem whole (X : K.In h) (G : h.Ns mainGlobals mg) (hfa : mg ("law" : Str) = some (.ref f)) (c : He.SaysX faL fnL [] [] exB w h K) :
    ∃ fd : FuncData, (∀ (s : Shared) (u : Value), BindsTo s fd ⟨[u], []⟩ [("_law_script", u)]) ∧ ∀ base : Heap, K.In base → base.Ns mainGlobals mg → (base.get? sysModules).isSome = true → FnG P w K mg base CX0 11 f fd ["_law_script"] (spLaw K) := by
  have D := c.t.d
  have ex := c.more
  obtain ⟨x1, x2⟩ := He.ba ex
  have gl : ∀ x ∈ gloL, mg x = some (.ref (He.ga K x)) := fun x hx => He.glo_ok X G (D.facts (f := .glo x) (List.mem_append_left _ (List.mem_map.mpr ⟨x, hx, rfl⟩)))
  have fr : ∀ x ∈ freeL, mg x = none := fun x hx => He.free_ok X G (D.facts (f := .free x) (List.mem_append_right _ (List.mem_append_left _ (List.mem_map.mpr ⟨x, hx, rfl⟩))))
  have co : ∀ x ∈ conL, x.ok K = true := fun x hx => D.facts (List.mem_append_right _ (List.mem_append_right _ hx))
  have e := hfa.symm.trans (gl "law" (by decide +kernel))
  cases e
  obtain ⟨d0, U0⟩ := D.def_ 0 (d := dG "is_name" 12) rfl
  have F0 : Fun K "is_name" "is_name" (top 12) (He.ga K "is_name") d0 := fun_of U0
  have b0 : L2.Binds K d0 ["thing"] [] := F0.binds fun _ _ _ _ _ _ us hl => match us, hl with | [_], _ => rfl
  have a0 : At K mg "is_name" (He.ga K "is_name") d0 ["thing"] := ⟨gl _ (by decide +kernel), F0.kp, b0⟩
  obtain ⟨d1, U1⟩ := D.def_ 1 (d := dG "is_path" 13) rfl
  have F1 : Fun K "is_path" "is_path" (top 13) (He.ga K "is_path") d1 := fun_of U1
  have b1 : L2.Binds K d1 ["thing"] [] := F1.binds fun _ _ _ _ _ _ us hl => match us, hl with | [_], _ => rfl
  have a1 : At K mg "is_path" (He.ga K "is_path") d1 ["thing"] := ⟨gl _ (by decide +kernel), F1.kp, b1⟩
  obtain ⟨d2, U2⟩ := D.def_ 2 (d := dG "is_place" 14) rfl
  have F2 : Fun K "is_place" "is_place" (top 14) (He.ga K "is_place") d2 := fun_of U2
  have b2 : L2.Binds K d2 ["thing"] [] := F2.binds fun _ _ _ _ _ _ us hl => match us, hl with | [_], _ => rfl
  have a2 : At K mg "is_place" (He.ga K "is_place") d2 ["thing"] := ⟨gl _ (by decide +kernel), F2.kp, b2⟩
  obtain ⟨d3, U3⟩ := D.def_ 3 (d := dG "beginning" 15) rfl
  have F3 : Fun K "beginning" "beginning" (top 15) (He.ga K "beginning") d3 := fun_of U3
  have b3 : L2.Binds K d3 ["place"] [] := F3.binds fun _ _ _ _ _ _ us hl => match us, hl with | [_], _ => rfl
  have a3 : At K mg "beginning" (He.ga K "beginning") d3 ["place"] := ⟨gl _ (by decide +kernel), F3.kp, b3⟩
  obtain ⟨d4, U4⟩ := D.def_ 4 (d := dG "paths_above" 16) rfl
  have F4 : Fun K "paths_above" "paths_above" (top 16) (He.ga K "paths_above") d4 := fun_of U4
  have b4 : L2.Binds K d4 ["path"] [] := F4.binds fun _ _ _ _ _ _ us hl => match us, hl with | [_], _ => rfl
  have a4 : At K mg "paths_above" (He.ga K "paths_above") d4 ["path"] := ⟨gl _ (by decide +kernel), F4.kp, b4⟩
  obtain ⟨d5, U5⟩ := D.def_ 5 (d := dG "rest_in" 17) rfl
  have F5 : Fun K "rest_in" "rest_in" (top 17) (He.ga K "rest_in") d5 := fun_of U5
  have b5 : L2.Binds K d5 ["path", "place"] [] := F5.binds fun _ _ _ _ _ _ us hl => match us, hl with | [_, _], _ => rfl
  have a5 : At K mg "rest_in" (He.ga K "rest_in") d5 ["path", "place"] := ⟨gl _ (by decide +kernel), F5.kp, b5⟩
  obtain ⟨d6, U6⟩ := D.def_ 6 (d := dG "is_row" 19) rfl
  have F6 : Fun K "is_row" "is_row" (top 19) (He.ga K "is_row") d6 := fun_of U6
  have b6 : L2.Binds K d6 ["thing", "size"] [] := F6.binds fun _ _ _ _ _ _ us hl => match us, hl with | [_, _], _ => rfl
  have a6 : At K mg "is_row" (He.ga K "is_row") d6 ["thing", "size"] := ⟨gl _ (by decide +kernel), F6.kp, b6⟩
  obtain ⟨d7, U7⟩ := D.def_ 7 (d := dG "as_look" 20) rfl
  have F7 : Fun K "as_look" "as_look" (top 20) (He.ga K "as_look") d7 := fun_of U7
  have b7 : L2.Binds K d7 ["thing"] [] := F7.binds fun _ _ _ _ _ _ us hl => match us, hl with | [_], _ => rfl
  have a7 : At K mg "as_look" (He.ga K "as_look") d7 ["thing"] := ⟨gl _ (by decide +kernel), F7.kp, b7⟩
  obtain ⟨d8, U8⟩ := D.def_ 8 (d := dG "can_look" 21) rfl
  have F8 : Fun K "can_look" "can_look" (top 21) (He.ga K "can_look") d8 := fun_of U8
  have b8 : L2.Binds K d8 ["word", "where"] [] := F8.binds fun _ _ _ _ _ _ us hl => match us, hl with | [_, _], _ => rfl
  have a8 : At K mg "can_look" (He.ga K "can_look") d8 ["word", "where"] := ⟨gl _ (by decide +kernel), F8.kp, b8⟩
  obtain ⟨d9, U9⟩ := D.def_ 9 (d := dG "check_files" 24) rfl
  have F9 : Fun K "check_files" "check_files" (top 24) (He.ga K "check_files") d9 := fun_of U9
  have b9 : L2.Binds K d9 ["files"] [] := F9.binds fun _ _ _ _ _ _ us hl => match us, hl with | [_], _ => rfl
  have a9 : At K mg "check_files" (He.ga K "check_files") d9 ["files"] := ⟨gl _ (by decide +kernel), F9.kp, b9⟩
  obtain ⟨d10, U10⟩ := D.def_ 10 (d := dG "check_settings" 25) rfl
  have F10 : Fun K "check_settings" "check_settings" (top 25) (He.ga K "check_settings") d10 := fun_of U10
  have b10 : L2.Binds K d10 ["settings"] [] := F10.binds fun _ _ _ _ _ _ us hl => match us, hl with | [_], _ => rfl
  have a10 : At K mg "check_settings" (He.ga K "check_settings") d10 ["settings"] := ⟨gl _ (by decide +kernel), F10.kp, b10⟩
  obtain ⟨d11, U11⟩ := D.def_ 11 (d := dG "listing" 26) rfl
  have F11 : Fun K "listing" "listing" (top 26) (He.ga K "listing") d11 := fun_of U11
  have b11 : L2.Binds K d11 ["paths", "place"] [] := F11.binds fun _ _ _ _ _ _ us hl => match us, hl with | [_, _], _ => rfl
  have a11 : At K mg "listing" (He.ga K "listing") d11 ["paths", "place"] := ⟨gl _ (by decide +kernel), F11.kp, b11⟩
  obtain ⟨d12, U12⟩ := D.def_ 12 (d := dG "entry_of" 27) rfl
  have F12 : Fun K "entry_of" "entry_of" (top 27) (He.ga K "entry_of") d12 := fun_of U12
  have b12 : L2.Binds K d12 ["rest"] [] := F12.binds fun _ _ _ _ _ _ us hl => match us, hl with | [_], _ => rfl
  have a12 : At K mg "entry_of" (He.ga K "entry_of") d12 ["rest"] := ⟨gl _ (by decide +kernel), F12.kp, b12⟩
  obtain ⟨d13, U13⟩ := D.def_ 13 (d := dG "is_change" 28) rfl
  have F13 : Fun K "is_change" "is_change" (top 28) (He.ga K "is_change") d13 := fun_of U13
  have b13 : L2.Binds K d13 ["thing"] [] := F13.binds fun _ _ _ _ _ _ us hl => match us, hl with | [_], _ => rfl
  have a13 : At K mg "is_change" (He.ga K "is_change") d13 ["thing"] := ⟨gl _ (by decide +kernel), F13.kp, b13⟩
  obtain ⟨d14, U14⟩ := D.def_ 14 (d := dG "is_short_change" 29) rfl
  have F14 : Fun K "is_short_change" "is_short_change" (top 29) (He.ga K "is_short_change") d14 := fun_of U14
  have b14 : L2.Binds K d14 ["word", "thing"] [] := F14.binds fun _ _ _ _ _ _ us hl => match us, hl with | [_, _], _ => rfl
  have a14 : At K mg "is_short_change" (He.ga K "is_short_change") d14 ["word", "thing"] := ⟨gl _ (by decide +kernel), F14.kp, b14⟩
  obtain ⟨d15, U15⟩ := D.def_ 15 (d := dG "is_long_change" 30) rfl
  have F15 : Fun K "is_long_change" "is_long_change" (top 30) (He.ga K "is_long_change") d15 := fun_of U15
  have b15 : L2.Binds K d15 ["word", "where", "text"] [] := F15.binds fun _ _ _ _ _ _ us hl => match us, hl with | [_, _, _], _ => rfl
  have a15 : At K mg "is_long_change" (He.ga K "is_long_change") d15 ["word", "where", "text"] := ⟨gl _ (by decide +kernel), F15.kp, b15⟩
  obtain ⟨d16, U16⟩ := D.def_ 16 (d := dG "can_be_done" 31) rfl
  have F16 : Fun K "can_be_done" "can_be_done" (top 31) (He.ga K "can_be_done") d16 := fun_of U16
  have b16 : L2.Binds K d16 ["world", "change"] [] := F16.binds fun _ _ _ _ _ _ us hl => match us, hl with | [_, _], _ => rfl
  have a16 : At K mg "can_be_done" (He.ga K "can_be_done") d16 ["world", "change"] := ⟨gl _ (by decide +kernel), F16.kp, b16⟩
  obtain ⟨d17, U17⟩ := D.def_ 17 (d := dG "changed" 32) rfl
  have F17 : Fun K "changed" "changed" (top 32) (He.ga K "changed") d17 := fun_of U17
  have b17 : L2.Binds K d17 ["world", "change"] [] := F17.binds fun _ _ _ _ _ _ us hl => match us, hl with | [_, _], _ => rfl
  have a17 : At K mg "changed" (He.ga K "changed") d17 ["world", "change"] := ⟨gl _ (by decide +kernel), F17.kp, b17⟩
  obtain ⟨d18, U18⟩ := D.def_ 18 (d := dG "_law_draw" 34) rfl
  have F18 : Fun K "_law_draw" "_law_draw" (top 34) (He.ga K "_law_draw") d18 := fun_of U18
  have b18 : L2.Binds K d18 ["_law_stream", "_law_many"] [] := F18.binds fun _ _ _ _ _ _ us hl => match us, hl with | [_, _], _ => rfl
  have a18 : At K mg "_law_draw" (He.ga K "_law_draw") d18 ["_law_stream", "_law_many"] := ⟨gl _ (by decide +kernel), F18.kp, b18⟩
  obtain ⟨d19, U19⟩ := D.def_ 19 (d := dG "_law_pick" 35) rfl
  have F19 : Fun K "_law_pick" "_law_pick" (top 35) (He.ga K "_law_pick") d19 := fun_of U19
  have b19 : L2.Binds K d19 ["_law_stream", "_law_things"] [] := F19.binds fun _ _ _ _ _ _ us hl => match us, hl with | [_, _], _ => rfl
  have a19 : At K mg "_law_pick" (He.ga K "_law_pick") d19 ["_law_stream", "_law_things"] := ⟨gl _ (by decide +kernel), F19.kp, b19⟩
  obtain ⟨d20, U20⟩ := D.def_ 20 (d := dG "_law_same" 36) rfl
  have F20 : Fun K "_law_same" "_law_same" (top 36) (He.ga K "_law_same") d20 := fun_of U20
  have b20 : L2.Binds K d20 ["_law_found", "_law_due"] [] := F20.binds fun _ _ _ _ _ _ us hl => match us, hl with | [_, _], _ => rfl
  have a20 : At K mg "_law_same" (He.ga K "_law_same") d20 ["_law_found", "_law_due"] := ⟨gl _ (by decide +kernel), F20.kp, b20⟩
  obtain ⟨d21, U21⟩ := D.def_ 21 (d := dG "_law_fresh" 37) rfl
  have F21 : Fun K "_law_fresh" "_law_fresh" (top 37) (He.ga K "_law_fresh") d21 := fun_of U21
  have b21 : L2.Binds K d21 ["_law_stream", "_law_taken"] [] := F21.binds fun _ _ _ _ _ _ us hl => match us, hl with | [_, _], _ => rfl
  have a21 : At K mg "_law_fresh" (He.ga K "_law_fresh") d21 ["_law_stream", "_law_taken"] := ⟨gl _ (by decide +kernel), F21.kp, b21⟩
  obtain ⟨d22, U22⟩ := D.def_ 22 (d := dG "_law_pool" 38) rfl
  have F22 : Fun K "_law_pool" "_law_pool" (top 38) (He.ga K "_law_pool") d22 := fun_of U22
  have b22 : L2.Binds K d22 ["_law_stream", "_law_many"] [] := F22.binds fun _ _ _ _ _ _ us hl => match us, hl with | [_, _], _ => rfl
  have a22 : At K mg "_law_pool" (He.ga K "_law_pool") d22 ["_law_stream", "_law_many"] := ⟨gl _ (by decide +kernel), F22.kp, b22⟩
  obtain ⟨d23, U23⟩ := D.def_ 23 (d := dG "_law_path" 39) rfl
  have F23 : Fun K "_law_path" "_law_path" (top 39) (He.ga K "_law_path") d23 := fun_of U23
  have b23 : L2.Binds K d23 ["_law_stream", "_law_pool_here", "_law_most"] [] := F23.binds fun _ _ _ _ _ _ us hl => match us, hl with | [_, _, _], _ => rfl
  have a23 : At K mg "_law_path" (He.ga K "_law_path") d23 ["_law_stream", "_law_pool_here", "_law_most"] := ⟨gl _ (by decide +kernel), F23.kp, b23⟩
  obtain ⟨d24, U24⟩ := D.def_ 24 (d := dG "_law_beneath" 40) rfl
  have F24 : Fun K "_law_beneath" "_law_beneath" (top 40) (He.ga K "_law_beneath") d24 := fun_of U24
  have b24 : L2.Binds K d24 ["_law_path_here", "_law_other"] [] := F24.binds fun _ _ _ _ _ _ us hl => match us, hl with | [_, _], _ => rfl
  have a24 : At K mg "_law_beneath" (He.ga K "_law_beneath") d24 ["_law_path_here", "_law_other"] := ⟨gl _ (by decide +kernel), F24.kp, b24⟩
  obtain ⟨d25, U25⟩ := D.def_ 25 (d := dG "_law_has_room" 41) rfl
  have F25 : Fun K "_law_has_room" "_law_has_room" (top 41) (He.ga K "_law_has_room") d25 := fun_of U25
  have b25 : L2.Binds K d25 ["_law_files_here", "_law_path_here"] [] := F25.binds fun _ _ _ _ _ _ us hl => match us, hl with | [_, _], _ => rfl
  have a25 : At K mg "_law_has_room" (He.ga K "_law_has_room") d25 ["_law_files_here", "_law_path_here"] := ⟨gl _ (by decide +kernel), F25.kp, b25⟩
  obtain ⟨d26, U26⟩ := D.def_ 26 (d := dG "_law_text" 42) rfl
  have F26 : Fun K "_law_text" "_law_text" (top 42) (He.ga K "_law_text") d26 := fun_of U26
  have b26 : L2.Binds K d26 ["_law_stream"] [] := F26.binds fun _ _ _ _ _ _ us hl => match us, hl with | [_], _ => rfl
  have a26 : At K mg "_law_text" (He.ga K "_law_text") d26 ["_law_stream"] := ⟨gl _ (by decide +kernel), F26.kp, b26⟩
  obtain ⟨d27, U27⟩ := D.def_ 27 (d := dG "_law_files" 43) rfl
  have F27 : Fun K "_law_files" "_law_files" (top 43) (He.ga K "_law_files") d27 := fun_of U27
  have b27 : L2.Binds K d27 ["_law_stream", "_law_pool_here", "_law_most"] [] := F27.binds fun _ _ _ _ _ _ us hl => match us, hl with | [_, _, _], _ => rfl
  have a27 : At K mg "_law_files" (He.ga K "_law_files") d27 ["_law_stream", "_law_pool_here", "_law_most"] := ⟨gl _ (by decide +kernel), F27.kp, b27⟩
  obtain ⟨d28, U28⟩ := D.def_ 28 (d := dG "_law_world" 44) rfl
  have F28 : Fun K "_law_world" "_law_world" (top 44) (He.ga K "_law_world") d28 := fun_of U28
  have b28 : L2.Binds K d28 ["_law_stream", "_law_pool_here", "_law_most"] [] := F28.binds fun _ _ _ _ _ _ us hl => match us, hl with | [_, _, _], _ => rfl
  have a28 : At K mg "_law_world" (He.ga K "_law_world") d28 ["_law_stream", "_law_pool_here", "_law_most"] := ⟨gl _ (by decide +kernel), F28.kp, b28⟩
  obtain ⟨d29, U29⟩ := D.def_ 29 (d := dG "_law_made" 45) rfl
  have F29 : Fun K "_law_made" "_law_made" (top 45) (He.ga K "_law_made") d29 := fun_of U29
  have b29 : L2.Binds K d29 ["_law_w"] [] := F29.binds fun _ _ _ _ _ _ us hl => match us, hl with | [_], _ => rfl
  have a29 : At K mg "_law_made" (He.ga K "_law_made") d29 ["_law_w"] := ⟨gl _ (by decide +kernel), F29.kp, b29⟩
  obtain ⟨d30, U30⟩ := D.def_ 30 (d := dG "_law_odd_change" 46) rfl
  have F30 : Fun K "_law_odd_change" "_law_odd_change" (top 46) (He.ga K "_law_odd_change") d30 := fun_of U30
  have b30 : L2.Binds K d30 ["_law_stream", "_law_pool_here"] [] := F30.binds fun _ _ _ _ _ _ us hl => match us, hl with | [_, _], _ => rfl
  have a30 : At K mg "_law_odd_change" (He.ga K "_law_odd_change") d30 ["_law_stream", "_law_pool_here"] := ⟨gl _ (by decide +kernel), F30.kp, b30⟩
  obtain ⟨d31, U31⟩ := D.def_ 31 (d := dG "_law_change" 47) rfl
  have F31 : Fun K "_law_change" "_law_change" (top 47) (He.ga K "_law_change") d31 := fun_of U31
  have b31 : L2.Binds K d31 ["_law_stream", "_law_pool_here", "_law_w"] [] := F31.binds fun _ _ _ _ _ _ us hl => match us, hl with | [_, _, _], _ => rfl
  have a31 : At K mg "_law_change" (He.ga K "_law_change") d31 ["_law_stream", "_law_pool_here", "_law_w"] := ⟨gl _ (by decide +kernel), F31.kp, b31⟩
  obtain ⟨d32, U32⟩ := D.def_ 32 (d := dG "_law_is_change" 48) rfl
  have F32 : Fun K "_law_is_change" "_law_is_change" (top 48) (He.ga K "_law_is_change") d32 := fun_of U32
  have b32 : L2.Binds K d32 ["_law_thing"] [] := F32.binds fun _ _ _ _ _ _ us hl => match us, hl with | [_], _ => rfl
  have a32 : At K mg "_law_is_change" (He.ga K "_law_is_change") d32 ["_law_thing"] := ⟨gl _ (by decide +kernel), F32.kp, b32⟩
  obtain ⟨d33, U33⟩ := D.def_ 33 (d := dG "_law_done" 49) rfl
  have F33 : Fun K "_law_done" "_law_done" (top 49) (He.ga K "_law_done") d33 := fun_of U33
  have b33 : L2.Binds K d33 ["_law_w", "_law_thing"] [] := F33.binds fun _ _ _ _ _ _ us hl => match us, hl with | [_, _], _ => rfl
  have a33 : At K mg "_law_done" (He.ga K "_law_done") d33 ["_law_w", "_law_thing"] := ⟨gl _ (by decide +kernel), F33.kp, b33⟩
  obtain ⟨d34, U34⟩ := D.def_ 34 (d := dG "law" 50) rfl
  have F34 : Fun K "law" "law" (top 50) (He.ga K "law") d34 := fun_of U34
  obtain ⟨d35, U35⟩ := D.def_ 35 (d := dI "World" "__init__" "World.__init__" 23 0 [.non, .str ""]) rfl
  obtain ⟨d36, U36⟩ := D.def_ 36 (d := dI "World" "files" "World.files" 23 1 []) rfl
  have F36 : Fun K "files" "World.files" (inClass (top 23) 1) (He.ma K (He.ga K "World") "files") d36 := fun_of U36
  have b36 : L2.Binds K d36 ["self"] [] := F36.binds fun _ _ _ _ _ _ us hl => match us, hl with | [_], _ => rfl
  obtain ⟨d37, U37⟩ := D.def_ 37 (d := dI "World" "settings" "World.settings" 23 2 []) rfl
  have F37 : Fun K "settings" "World.settings" (inClass (top 23) 2) (He.ma K (He.ga K "World") "settings") d37 := fun_of U37
  have b37 : L2.Binds K d37 ["self"] [] := F37.binds fun _ _ _ _ _ _ us hl => match us, hl with | [_], _ => rfl
  obtain ⟨d38, U38⟩ := D.def_ 38 (d := dI "World" "answer" "World.answer" 23 3 []) rfl
  have F38 : Fun K "answer" "World.answer" (inClass (top 23) 3) (He.ma K (He.ga K "World") "answer") d38 := fun_of U38
  have b38 : L2.Binds K d38 ["self", "look"] [] := F38.binds fun _ _ _ _ _ _ us hl => match us, hl with | [_, _], _ => rfl
  obtain ⟨d39, U39⟩ := D.def_ 39 (d := dI "World" "after" "World.after" 23 4 []) rfl
  have F39 : Fun K "after" "World.after" (inClass (top 23) 4) (He.ma K (He.ga K "World") "after") d39 := fun_of U39
  have b39 : L2.Binds K d39 ["self", "changes"] [] := F39.binds fun _ _ _ _ _ _ us hl => match us, hl with | [_, _], _ => rfl
  obtain ⟨d40, U40⟩ := D.def_ 40 (d := dI "World" "__contains__" "World.__contains__" 23 6 []) rfl
  have F40 : Fun K "__contains__" "World.__contains__" (inClass (top 23) 6) (He.ma K (He.ga K "World") "__contains__") d40 := fun_of U40
  have b40 : L2.Binds K d40 ["self", "x"] [] := F40.binds fun _ _ _ _ _ _ us hl => match us, hl with | [_, _], _ => rfl
  obtain ⟨d41, U41⟩ := D.def_ 41 (d := dI "World" "__eq__" "World.__eq__" 23 7 []) rfl
  have F41 : Fun K "__eq__" "World.__eq__" (inClass (top 23) 7) (He.ma K (He.ga K "World") "__eq__") d41 := fun_of U41
  have b41 : L2.Binds K d41 ["self", "other"] [] := F41.binds fun _ _ _ _ _ _ us hl => match us, hl with | [_, _], _ => rfl
  obtain ⟨d42, U42⟩ := D.def_ 42 (d := dI "BadChange" "__init__" "BadChange.__init__" 6 0 []) rfl
  have F42 : Fun K "__init__" "BadChange.__init__" (inClass (top 6) 0) (He.ma K (He.ga K "BadChange") "__init__") d42 := fun_of U42
  have b42 : L2.Binds K d42 ["self", "index"] [] := F42.binds fun _ _ _ _ _ _ us hl => match us, hl with | [_, _], _ => rfl
  have bL : ∀ (s : Shared) (u : Value), BindsTo s d34 ⟨[u], []⟩ [("_law_script", u)] := by
    obtain ⟨oc, od, kV, doc, pm, an, cdv, ct, osl, rfl, lk, hcd⟩ := F34.ex
    exact fun s u => .of_eq rfl
  have b35 : L2.Binds K d35 ["self", "files", "settings", "tool"] [] := by
    obtain ⟨ds, v, b⟩ := U35.binds1 (ps := ["self", "files", "settings", "tool"]) 4 2 (fun q => by cases q) rfl fun T kV doc pm an cdv ct us its hl hi => match us, hl, its, hi with | [_, _, _, _], _, [_, _], _ => ⟨_, rfl, rfl⟩
    cases v
    exact b
  refine ⟨d34, bL, fun base KB GB SM => ?_⟩
  have T : TB mg := ⟨fr _ (by decide +kernel), fr _ (by decide +kernel), fr _ (by decide +kernel), fr _ (by decide +kernel), fr _ (by decide +kernel), fr _ (by decide +kernel), fr _ (by decide +kernel), fr _ (by decide +kernel), fr _ (by decide +kernel), fr _ (by decide +kernel), fr _ (by decide +kernel), fr _ (by decide +kernel)⟩
  have T0 : TPk mg := ⟨T, He.str_ok X G (co _ (List.mem_cons_self ..)), He.str_ok X G (co _ (List.mem_cons_of_mem _ (List.mem_cons_self ..))), He.str_ok X G (co _ (List.mem_cons_of_mem _ (List.mem_cons_of_mem _ (List.mem_cons_self ..)))), He.int_ok X G (co _ (List.mem_cons_of_mem _ (List.mem_cons_of_mem _ (List.mem_cons_of_mem _ (List.mem_cons_self ..)))))⟩
  have R0 : WCl K mg (He.ga K "World") := ⟨gl _ (by decide +kernel), He.cls_ok (co _ (List.mem_cons_of_mem _ (List.mem_cons_of_mem _ (List.mem_cons_of_mem _ (List.mem_cons_of_mem _ (List.mem_cons_self ..)))))), He.noat_ok (co _ (List.mem_cons_of_mem _ (List.mem_cons_of_mem _ (List.mem_cons_of_mem _ (List.mem_cons_of_mem _ (List.mem_cons_of_mem _ (List.mem_cons_self ..))))))), He.noat_ok (co _ (List.mem_cons_of_mem _ (List.mem_cons_of_mem _ (List.mem_cons_of_mem _ (List.mem_cons_of_mem _ (List.mem_cons_of_mem _ (List.mem_cons_of_mem _ (List.mem_cons_self ..)))))))), He.noat_ok (co _ (List.mem_cons_of_mem _ (List.mem_cons_of_mem _ (List.mem_cons_of_mem _ (List.mem_cons_of_mem _ (List.mem_cons_of_mem _ (List.mem_cons_of_mem _ (List.mem_cons_of_mem _ (List.mem_cons_self ..)))))))))⟩
  have mk0 : Mk K (He.ga K "World") (He.ma K (He.ga K "World") "__init__") := He.mkr_ok (co _ (List.mem_cons_of_mem _ (List.mem_cons_of_mem _ (List.mem_cons_of_mem _ (List.mem_cons_of_mem _ (List.mem_cons_of_mem _ (List.mem_cons_of_mem _ (List.mem_cons_of_mem _ (List.mem_cons_of_mem _ (List.mem_cons_self ..))))))))))
  have mAn := He.meth_ok (co _ (List.mem_cons_of_mem _ (List.mem_cons_of_mem _ (List.mem_cons_of_mem _ (List.mem_cons_of_mem _ (List.mem_cons_of_mem _ (List.mem_cons_of_mem _ (List.mem_cons_of_mem _ (List.mem_cons_of_mem _ (List.mem_cons_of_mem _ (List.mem_cons_self ..)))))))))))
  have mEq := He.meth_ok (co _ (List.mem_cons_of_mem _ (List.mem_cons_of_mem _ (List.mem_cons_of_mem _ (List.mem_cons_of_mem _ (List.mem_cons_of_mem _ (List.mem_cons_of_mem _ (List.mem_cons_of_mem _ (List.mem_cons_of_mem _ (List.mem_cons_of_mem _ (List.mem_cons_of_mem _ (List.mem_cons_self ..))))))))))))
  have mFi := He.meth_ok (co _ (List.mem_cons_of_mem _ (List.mem_cons_of_mem _ (List.mem_cons_of_mem _ (List.mem_cons_of_mem _ (List.mem_cons_of_mem _ (List.mem_cons_of_mem _ (List.mem_cons_of_mem _ (List.mem_cons_of_mem _ (List.mem_cons_of_mem _ (List.mem_cons_of_mem _ (List.mem_cons_of_mem _ (List.mem_cons_self ..)))))))))))))
  have mSe := He.meth_ok (co _ (List.mem_cons_of_mem _ (List.mem_cons_of_mem _ (List.mem_cons_of_mem _ (List.mem_cons_of_mem _ (List.mem_cons_of_mem _ (List.mem_cons_of_mem _ (List.mem_cons_of_mem _ (List.mem_cons_of_mem _ (List.mem_cons_of_mem _ (List.mem_cons_of_mem _ (List.mem_cons_of_mem _ (List.mem_cons_of_mem _ (List.mem_cons_self ..))))))))))))))
  have mAf := He.meth_ok (co _ (List.mem_cons_of_mem _ (List.mem_cons_of_mem _ (List.mem_cons_of_mem _ (List.mem_cons_of_mem _ (List.mem_cons_of_mem _ (List.mem_cons_of_mem _ (List.mem_cons_of_mem _ (List.mem_cons_of_mem _ (List.mem_cons_of_mem _ (List.mem_cons_of_mem _ (List.mem_cons_of_mem _ (List.mem_cons_of_mem _ (List.mem_cons_of_mem _ (List.mem_cons_self ..)))))))))))))))
  have mCo := He.meth_ok (co _ (List.mem_cons_of_mem _ (List.mem_cons_of_mem _ (List.mem_cons_of_mem _ (List.mem_cons_of_mem _ (List.mem_cons_of_mem _ (List.mem_cons_of_mem _ (List.mem_cons_of_mem _ (List.mem_cons_of_mem _ (List.mem_cons_of_mem _ (List.mem_cons_of_mem _ (List.mem_cons_of_mem _ (List.mem_cons_of_mem _ (List.mem_cons_of_mem _ (List.mem_cons_of_mem _ (List.mem_cons_self ..))))))))))))))))
  obtain ⟨y1, y⟩ := He.ba x1
  obtain ⟨y2, y⟩ := He.ba y
  obtain ⟨y3, y⟩ := He.ba y
  obtain ⟨y4, y⟩ := He.ba y
  obtain ⟨y5, y⟩ := He.ba y
  obtain ⟨y6, y7⟩ := He.ba y
  have I0 : WIs K (He.ga K "World") := ⟨of_decide_eq_true y1, of_decide_eq_true y2, of_decide_eq_true y3, of_decide_eq_true y4, of_decide_eq_true y7⟩
  have mDict := fr "dict" (by decide +kernel)
  have mRepr := fr "repr" (by decide +kernel)
  have B0 : BCl K mg (He.ga K "BadChange") (He.ma K (He.ga K "BadChange") "__init__") := lookS_of x2 (gl _ (by decide +kernel))
  have GN := ok_isName (P := P) (w := w) (base := base) F0 T0
  have GP := ok_isPath (P := P) (w := w) (base := base) F1 T0 a0 GN
  have GPO := ok_isPathO (P := P) (w := w) (base := base) F1 T0 a0 GN
  have GPl := ok_isPlace (P := P) (w := w) (base := base) F2 T0 a1 GP
  have GB := ok_beg (P := P) (w := w) (base := base) F3 T0
  have GAb := ok_above (P := P) (w := w) (base := base) F4 T0
  have GRest := ok_rest (P := P) (w := w) (base := base) F5 T0 a3 GB
  have GR := ok_row (P := P) (w := w) (base := base) F6 T
  have GRO := ok_rowO (P := P) (w := w) (base := base) F6 T
  have GC := ok_canLook (P := P) (w := w) (base := base) F8 T0 a0 a1 a2 GN GP GPl
  have GAL := ok_asLook (P := P) (w := w) (base := base) F7 T a6 a8 GR GC
  have GCkF := ok_ckF (P := P) (w := w) (base := base) F9 T0 a1 GP a4 GAb
  have GCkS := ok_ckS (P := P) (w := w) (base := base) F10 a0 GN
  have GEO := ok_entryOf (P := P) (w := w) (base := base) F12 T0
  have GLi := ok_listing (P := P) (w := w) (base := base) F11 T0 a3 GB a5 GRest a12 GEO
  have GIn := ok_wini (P := P) (w := w) (base := base) (f := He.ma K (He.ga K "World") "__init__") U35 T R0 a9 GCkF a10 GCkS
  have GWF := ok_wfiles (P := P) (w := w) (base := base) F36 mDict R0
  have GWS := ok_wset (P := P) (w := w) (base := base) F37 mDict R0
  have GAn := ok_wans (P := P) (w := w) (base := base) F38 T0 R0 a7 GAL a11 GLi
  have GCo := ok_wcon (P := P) (w := w) (base := base) F40 T R0
  have GEq := ok_weq (P := P) (w := w) (base := base) F41 T R0 I0
  have GShort := ok_short (P := P) (w := w) (base := base) F14 T a1 GP
  have GLong := ok_long (P := P) (w := w) (base := base) F15 T a1 GP a0 GN
  have GIsCh := ok_isCh (P := P) (w := w) (base := base) F13 T a6 GR a14 GShort a15 GLong
  have GShortO := ok_shortO (P := P) (w := w) (base := base) F14 T a1 GPO
  have GLongO := ok_longO (P := P) (w := w) (base := base) F15 T a1 GP GPO a0 GN
  have GIsChO := ok_isChO (P := P) (w := w) (base := base) F13 T a6 GR GRO a14 GShortO a15 GLongO
  have GIs2 : FnOk P w K mg base CX0 4 (He.ga K "is_change") d13 ["thing"] spIsCh2 := FnOk_or GIsCh GIsChO
  have GCan := ok_canB (P := P) (w := w) (base := base) F16 T R0 a4 GAb mAn b38 GAn mCo b40 GCo
  have GChd := ok_chd (P := P) (w := w) (base := base) F17 R0 mk0 b35 GIn mFi b36 GWF mSe b37 GWS
  have GIB := ok_iniB (P := P) (w := w) (base := base) F42 B0
  have GAf := ok_wafX (P := P) (w := w) (base := base) F39 T R0 mk0 b35 GIn a13 GIs2 a16 GCan a17 GChd B0 b42 GIB
  have GD : FnOk P w K mg base CX0 1 (He.ga K "_law_draw") d18 ["_law_stream", "_law_many"] spDraw := ok_draw F18 ⟨fr _ (by decide +kernel)⟩
  have GPk := ok_pick (P := P) (w := w) (base := base) F19 ⟨T.int, T.len, T.range, T.list, a18.m, a18.k, a18.b⟩ GD
  have GSa := ok_same (P := P) (w := w) (base := base) F20 mRepr SM
  have GSaH := ok_sameH (P := P) (w := w) (base := base) F20 mRepr SM
  have GFr := ok_fresh (P := P) (w := w) (base := base) F21 T a18 a19 GD GPk
  have GPo := ok_pool (P := P) (w := w) (base := base) F22 T a21 GFr
  have GPa := ok_path (P := P) (w := w) (base := base) F23 T a18 a19 GD GPk
  have GBe := ok_beneath (P := P) (w := w) (base := base) F24 T
  have GRo := ok_room (P := P) (w := w) (base := base) F25 T a24 GBe
  have GTe := ok_text (P := P) (w := w) (base := base) F26 a18 GD
  have GFi := ok_files (P := P) (w := w) (base := base) F27 T a18 GD a23 GPa a25 GRo a26 GTe
  have GWo := ok_world (P := P) (w := w) (base := base) F28 T a18 GD a27 GFi a26 GTe
  have GMa := ok_made (P := P) (w := w) (base := base) F29 mDict R0 mk0 b35 GIn
  have GOd := ok_oddC (P := P) (w := w) (base := base) F30 a19 GPk
  have GCg := ok_change (P := P) (w := w) (base := base) F31 T a18 GD a19 GPk a23 GPa a26 GTe a30 GOd
  have GIc := ok_isC (P := P) (w := w) (base := base) F32 T
  have GDo := ok_done (P := P) (w := w) (base := base) F33 T mDict a32 GIc a25 GRo
  let fa : Str → Addr := fun m => if m = "eq" then He.ma K (He.ga K "World") "__eq__" else if m = "after" then He.ma K (He.ga K "World") "after" else if m = "files" then He.ma K (He.ga K "World") "files" else if m = "settings" then He.ma K (He.ga K "World") "settings" else if m = "draw" then He.ga K "_law_draw" else if m = "pick" then He.ga K "_law_pick" else if m = "pool" then He.ga K "_law_pool" else if m = "world" then He.ga K "_law_world" else if m = "made" then He.ga K "_law_made" else if m = "change" then He.ga K "_law_change" else if m = "done" then He.ga K "_law_done" else He.ga K "_law_same"
  let fdd : Str → FuncData := fun m => if m = "eq" then d41 else if m = "after" then d39 else if m = "files" then d36 else if m = "settings" then d37 else if m = "draw" then d18 else if m = "pick" then d19 else if m = "pool" then d22 else if m = "world" then d28 else if m = "made" then d29 else if m = "change" then d31 else if m = "done" then d33 else d20
  have V0 : LV P w K mg base (He.ga K "World") fa fdd :=
    { T := T, mDict := mDict, R := R0, mEq := mEq, ne := of_decide_eq_true y5, so := of_decide_eq_true y6, bEq := b41, GEq := GEq, mFi := mFi, bWF := b36, GWF := GWF, mSe := mSe, bWS := b37, GWS := GWS, aD := a18, GD := GD, aP := a19, GP := GPk, aPo := a22, GPo := GPo, aWorld := a28, GWorld := GWo,
      aMade := a29, GMade := GMa, aChange := a31, GChange := GCg, aDone := a33, GDone := GDo, aSa := a20, GSa := GSa }
  exact ok_law F34 V0 I0 B0 mAf b39 GAf GSaH mRepr SM
end
end N4

set_option maxHeartbeats 0
open PySem PySem.W PySem.Calls PyProof.Rows
theorem PySem.Challenge.cw_trueagain_k04_changes_done_holds : PySem.Challenge.rw_trueagain_k04_changes_done.Holds := by
  w_on; o_law
  refine HandSHeadRun.head_any (r := N4.RL) (q := view N4.RL.prog [50]) (H := N4.hkL) (ob := N4.obL) (M := 20000) (loose := N4.looseL) (d := HandSHeadRun.topDef N4.RL.prog 50) (kwd := []) N4.obL_eq
    (by kernel_rfl) (fun s => by kernel_rfl) N4.runL (by kernel_rfl) (by kernel_rfl) (by kernel_rfl) (by rfl) (by first | assumption | decide +kernel) (by decide +kernel) ⟨rfl, rfl, rfl, rfl, rfl, by decide +kernel⟩ ?hw ?hc
  case hw => w_witness2
  case hc =>
    refine EG.walkG (l := PySem.Challenge.rw_trueagain_k04_changes_done) (n := 63) (k := 11) (x := "_law_script") rfl (by decide) (by kernel_rfl) ⟨rfl, by decide, by decide⟩ ?F
    intro w mg fa h Y GG hmg0
    obtain ⟨⟨K, KX, c⟩, sys⟩ := Y
    have hmg : mg ("law" : PySem.Str) = some (.ref fa) := by
      have e : (HandSHeadRun.topDef N4.RL.prog 50).name = ("law" : PySem.Str) := by kernel_rfl
      rw [← e]
      exact hmg0
    obtain ⟨fd, hb, hF⟩ := N4.whole (P := PySem.Challenge.rw_trueagain_k04_changes_done.prog) (w := w) KX GG hmg c
    have no : ∀ p : PySem.Addr × PySem.Addr, p ∉ ([] : List (PySem.Addr × PySem.Addr)) := fun p hp => by cases hp
    exact ⟨K, [], fd, N4.spLaw K, KX, fun p hp => absurd hp (no p), fun p hp => absurd hp (no p), fun p hp => absurd hp (no p), sys, hb, fun H a ns hl _ _ hS => ⟨a, ns, rfl, hl, hS, fun _ => rfl⟩, fun base b1 b2 _ b4 => hF base b1 b2 b4⟩
