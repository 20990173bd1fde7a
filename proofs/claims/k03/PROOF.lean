import PyProof.Rows.All
import Wide.All
import OpenK.AllK
import Wide.FinOn
import HandS.ForMost
import HandS.Wide
import HandS.Codes
import HandS.Conv
import HandS.Deep
import PySem.Challenge.RW_trueagain_k03_looks_shown
import HandS.StrMore
import HandS.Walk
import HandS.IsInst
import HandS.SetKeys
import HandS.DictTup
import PyProof.DictMoreH
import KE.KEqDict
import HandS.More
import HandS.SetBool
import HandS.Strs
import HandS.Iter
import KE.GoesMore
import HandS.Defaults
import HandS.DictComp
import HandS.Exc
import HandS.TryOnly
import HandS.WordsExc
import HandS.ExcInit
import HandS.ExcField
import HandS.ExcOwn
import PyProof.ReprRoads
import HandS.Lambda
import HandS.Text
import PyProof.StrLawsLast
import HandS.OwnEq
import KE.KOpsOwn
import PyProof.InstNe
import HandS.EndTab
import HandS.Head0
import HandS.Head1
import HandS.Head2
import HandS.HeadEnd
import HandS.HeadHook1
import HandS.HeadHook2
import HandS.HeadHook3
import HandS.HeadHook4
set_option Elab.async false
set_option linter.all false
set_option maxRecDepth 100000
set_option maxHeartbeats 3900000
namespace W
open PySem PySem.Spec PyProof.Rows L2
open C8 (pss_cut tCut pe_gc)
def top (i : Nat) : Stmt := PySem.Challenge.pw_trueagain_k03_looks_shown.main.body.getD i (.Pass ⟨0, 0, 0, 0⟩)
abbrev sDraw : Stmt := top 29
abbrev sPick : Stmt := top 30
abbrev sFresh : Stmt := top 32
abbrev sPool : Stmt := top 33
abbrev sPath : Stmt := top 34
abbrev sText : Stmt := top 37
/-! the stream: its list of what is left, the number that is being used up, the count of draws, the mixed number -/
def SV (H : Hp) (st l : Addr) (ns : List Int) (a c m : Int) : Prop := H st = some (.lst [.ref l, .int a, .int c, .int m]) ∧ H l = some (.lst (ns.map V.int))
theorem SV.ne {H : Hp} {st l : Addr} {ns : List Int} {a c m : Int} (S : SV H st l ns a c m) : st ≠ l := by
  refine ne_of S.1 S.2 fun z => ?_
  have z2 : [V.ref l, V.int a, V.int c, V.int m] = ns.map V.int := HO.lst.inj z
  cases ns with
  | nil => cases z2
  | cons n r =>
    rw [List.map_cons] at z2
    have := (List.cons.inj z2).1
    cases this
def Good (H : Hp) (st l : Addr) (c : Int) : Prop := ∃ (ns : List Int) (a m : Int), SV H st l ns a c m ∧ ns.length ≤ 63 ∧ 0 ≤ a ∧ 0 ≤ m ∧ m < 2147483647
structure Strm (H : Hp) (st l : Addr) (c : Nat) : Prop where
  ex : Good H st l (c : Int)
theorem Strm.ne {H : Hp} {st l : Addr} {c : Nat} (S : Strm H st l c) : st ≠ l := by
  obtain ⟨ns, a, m, h, _⟩ := S.ex
  exact h.ne
/-- all but the stream is as it was -/
def But (st l : Addr) (H H' : Hp) : Prop := ∀ b o, H b = some o → b ≠ st → b ≠ l → H' b = some o
theorem But.refl {st l : Addr} {H : Hp} : But st l H H := fun _ _ e _ _ => e
theorem But.st {st l : Addr} {H H' : Hp} {o : HO} (B : But st l H H') : But st l H (upd H' st o) := fun b u e h1 h2 => by
  rw [upd_ne h1]
  exact B b u e h1 h2
theorem But.li {st l : Addr} {H H' : Hp} {o : HO} (B : But st l H H') : But st l H (upd H' l o) := fun b u e h1 h2 => by
  rw [upd_ne h2]
  exact B b u e h1 h2
theorem But.new {st l p : Addr} {H H' : Hp} {o : HO} (B : But st l H H') (h : H' p = none) : But st l H (upd H' p o) := fun b u e h1 h2 => by
  have q := B b u e h1 h2
  rw [upd_ne (ne_of_none q h)]
  exact q
theorem SV.st {H : Hp} {st l : Addr} {ns : List Int} {a c m a' c' m' : Int} {xs : List V} (S : SV H st l ns a c m) (e : xs = [.ref l, .int a', .int c', .int m']) : SV (upd H st (.lst xs)) st l ns a' c' m' := by
  subst e
  refine ⟨upd_same, ?_⟩
  rw [upd_ne S.ne.symm]
  exact S.2
theorem SV.new {H : Hp} {st l p : Addr} {ns : List Int} {a c m : Int} {o : HO} (S : SV H st l ns a c m) (h : H p = none) : SV (upd H p o) st l ns a c m := by
  refine ⟨?_, ?_⟩
  · rw [upd_ne (ne_of_none S.1 h)]
    exact S.1
  · rw [upd_ne (ne_of_none S.2 h)]
    exact S.2
theorem SV.li {H : Hp} {st l : Addr} {ns ns' : List Int} {a c m : Int} {xs : List V} (S : SV H st l ns a c m) (e : xs = ns'.map V.int) : SV (upd H l (.lst xs)) st l ns' a c m := by
  subst e
  refine ⟨?_, upd_same⟩
  rw [upd_ne S.ne]
  exact S.1
def spDraw : Sp := fun vs H Q _ => ∃ (st l : Addr) (c : Nat) (many : Int), vs = [.ref st, .int many] ∧ Strm H st l c ∧ c ≤ 1000000 ∧ 0 < many ∧ many < 1000000 ∧
  ∀ (d : Int) (H' : Hp), 0 ≤ d → d < many → But st l H H' → Strm H' st l (c + 1) → Q (.int d) H'
structure TDraw (mg : Str → Option Value) : Prop where
  int : mg "int" = none
section
variable {P : Program} {w : World} {K : PySem.W.Frag} {mg : Str → Option Value} {base : Heap}
theorem dp_ints {H : Hp} : ∀ ns : List Int, DpAll K H (ns.map V.int) (ns.map PyData.int)
  | [] => .nil
  | n :: r => .cons (.int n) (dp_ints r)
theorem scD : FnScope ["_law_stream", "_law_many", "_law_digit", "_law_mixed"] ["_law_stream", "_law_many"] (defScope sDraw) := ⟨rfl, rfl, rfl, by decide +kernel, rfl, by decide +kernel, by decide +kernel⟩
theorem ok_draw {f : Addr} {fd : FuncData} (F : Fun K "_law_draw" "_law_draw" sDraw f fd) (T : TDraw mg) : FnOk P w K mg base CX0 1 f fd ["_law_stream", "_law_many"] spDraw := by
  refine F.ok scD (fun vs H Q E h => ?_) (fun cdv A outer s H vs Q E hr h => ?_)
  · obtain ⟨st, l, c, many, rfl, _⟩ := h
    rfl
  · obtain ⟨st, l, c, many, rfl, S, hc, hm0, hm1, k⟩ := h
    have hu := hr.units
    refine ⟨_, pss_cut (ps_asg (pe_op op_add (pe_ix ix_list (pv 0) pe_int (fun _ _ => rfl)) pe_int) (pg_sub (pv 0) pe_int set_list))
      (pss_cut (ps_if (PW.pt (pw_and (pt_cmpR op_eq (pe_ix ix_list (pv 0) pe_int (fun _ _ => rfl)) pe_int (nomark _)) (pw_and1 (pt_cmpR (op_neD hu) (pe_ix ix_list (pv 0) pe_int (fun _ _ => rfl)) (pe_lst pa_nil) (nomark _)))))
        (pss_cut (ps_asg (pe_bm PySem.F.plainAttrs_list PySem.F.slot_list_pop PySem.F.type_list_pop mt_popAt (pe_ix ix_list (pv 0) pe_int (fun _ _ => rfl)) (pa_cons pe_int pa_nil)) (pg_sub (pv 0) pe_int set_list))
          (pss_one (ps_if (pt_cmpR op_lt (pe_ix ix_list (pv 0) pe_int (fun _ _ => rfl)) (pe_op op_pow pe_int pe_int) (nomark _))
            (pss_cut (ps_asg (pe_op op_mod (pe_callTy call_int1 (by rfl) T.int (by decide +kernel) (pa_cons (pe_op op_add (pe_op op_add (pe_op op_mul (pe_ix ix_list (pv 0) pe_int (fun _ _ => rfl)) pe_int) (pe_ix ix_list (pv 0) pe_int (fun _ _ => rfl))) pe_int) pa_nil)) pe_int) (pg_sub (pv 0) pe_int set_list))
              (pss_one (ps_asg pe_int (pg_sub (pv 0) pe_int set_list)))) pss_nil)))
        pss_nil)
      (pss_cut (ps_if (pt_cmpR op_gt (pe_ix ix_list (pv 0) pe_int (fun _ _ => rfl)) pe_int (nomark _))
        (pss_cons (ps_set (i := 2) scD.nd rfl (Or.inl rfl) (pe_op op_mod (pe_callTy call_int1 (by rfl) T.int (by decide +kernel) (pa_cons (pe_ix ix_list (pv 0) pe_int (fun _ _ => rfl)) pa_nil)) (pv 1)))
          (pss_cons (ps_asg (pe_op op_fdivW (pe_ix ix_list (pv 0) pe_int (fun _ _ => rfl)) (pv 1)) (pg_sub (pv 0) pe_int set_list))
            (pss_one (ps_ret (pv 2))))) pss_nil)
      (pss_cons (ps_set (i := 3) scD.nd rfl (Or.inl rfl) (pe_op op_mod (pe_op op_pow (pe_op op_add (pe_op op_add (pe_ix ix_list (pv 0) pe_int (fun _ _ => rfl)) (pe_op op_mul pe_int (pe_ix ix_list (pv 0) pe_int (fun _ _ => rfl)))) pe_int) pe_int) pe_int))
        (pss_one (ps_ret (pe_op op_mod (pe_op op_mod (pe_op op_pow (pe_op op_add (pe_op op_add (pe_op op_mul (pv 3) pe_int)
            (pe_op op_mul (pe_op op_mul pe_int (pe_ix ix_list (pv 0) pe_int (fun _ _ => rfl))) (pe_ix ix_list (pv 0) pe_int (fun _ _ => rfl)))) pe_int) pe_int) pe_int) (pv 1))))))), ?_⟩
    obtain ⟨ns, a, m, hS, hns, ha, hm, hm2⟩ := S.ex
    -- stream[2] = stream[2] + 1
    refine ⟨fun σ H' => σ = [some (.ref st), some (.int many), none, none] ∧ But st l H H' ∧ SV H' st l ns a ((c + 1 : Nat) : Int) m,
      ⟨_, rfl, st, _, _, _, rfl, rfl, SqL.of hS.1, rfl, _, _, rfl, rfl, _, rfl, st, _, 2, 2, rfl, rfl, hS.1, rfl, rfl, But.refl.st, hS.st rfl⟩, ?_⟩
    rintro _ H1 ⟨rfl, B1, S1⟩
    -- if stream[1] == 0 and stream[0] != []: ..
    refine ⟨fun σ H' => σ = [some (.ref st), some (.int many), none, none] ∧ But st l H H' ∧ Good H' st l ((c + 1 : Nat) : Int),
      ⟨_, rfl, st, _, _, _, rfl, rfl, SqL.of S1.1, rfl, rfl, _, rfl, ?_⟩, ?_⟩
    · refine ite2 (fun ea => ?_) (fun _ => iteF ⟨rfl, B1, ns, a, m, S1, hns, ha, hm, hm2⟩)
      refine ⟨_, rfl, st, _, _, _, rfl, rfl, SqL.of S1.1, rfl, Nat.zero_le _, fun p hp => ?_⟩
      have S2 := S1.new (o := .lst []) hp
      have B2 := B1.new (o := .lst []) hp
      refine ⟨.list (ns.map .int), .list [], .lst (SqL.of S2.2) ?_, .lst (SqL.of upd_same) .nil, ?_, rfl, _, rfl, ?_⟩
      · exact dp_ints ns
      · exact PySem.W.shaped_ints ns
      · cases ns with
        | nil => exact iteF ⟨rfl, B2, [], a, m, S2, hns, ha, hm, hm2⟩
        | cons n r =>
          refine iteT ?_
          have hns' : r.length ≤ 63 := by
            rw [List.length_cons] at hns
            omega
          have e0 : seqIndex? 0 (((n :: r).map V.int).length) = some 0 := by
            rw [List.length_map, List.length_cons]
            simp [seqIndex?]
          -- stream[1] = stream[0].pop(0)
          refine ⟨fun σ H' => σ = [some (.ref st), some (.int many), none, none] ∧ But st l H H' ∧ SV H' st l r n ((c + 1 : Nat) : Int) m,
            ⟨_, rfl, st, _, _, _, rfl, rfl, SqL.of S2.1, rfl, .inl ⟨rfl, _, SqL.of S2.2⟩, l, _, 0, 0, _, rfl, rfl, S2.2, by decide, by decide, e0, rfl, _, rfl, st, _, 1, 1, rfl, rfl, (S2.li (ns' := r) rfl).1, rfl, rfl, B2.li.st, (S2.li (ns' := r) rfl).st rfl⟩, ?_⟩
          rintro _ H3 ⟨rfl, B3, S3⟩
          -- if stream[1] < 10 ** 18: ..
          refine ⟨_, rfl, st, _, _, _, rfl, rfl, SqL.of S3.1, rfl, _, _, rfl, rfl, ⟨by decide, by decide, by decide⟩, _, _, rfl, rfl, _, rfl, ?_⟩
          refine ite2 (fun lt => ?_) (fun ge => ?_)
          · refine ⟨fun σ H' => σ = [some (.ref st), some (.int many), none, none] ∧ But st l H H' ∧ ∃ m' : Int, SV H' st l r n ((c + 1 : Nat) : Int) m' ∧ 0 ≤ m' ∧ m' < 2147483647,
              ⟨_, rfl, st, _, _, _, rfl, rfl, SqL.of S3.1, rfl, _, _, rfl, rfl, .inr ⟨by decide, by decide⟩, _, rfl, st, _, _, _, rfl, rfl, SqL.of S3.1, rfl, _, _, rfl, rfl, _, _, rfl, rfl, .inl ⟨_, rfl, _, _, rfl, rfl, (by show (0 : Int) < 2147483647; decide),
                _, rfl, st, _, 3, 3, rfl, rfl, S3.1, rfl, rfl, B3.st, _, S3.st rfl, Int.emod_nonneg _ (by decide), Int.emod_lt_of_pos _ (by decide)⟩⟩, ?_⟩
            rintro _ H4 ⟨rfl, B4, m', S4, h1, h2⟩
            exact ⟨_, rfl, st, _, 1, 1, rfl, rfl, S4.1, rfl, rfl, B4.st, r, 0, m', S4.st rfl, hns', by decide, h1, h2⟩
          · have ge' : ¬ n < (10 : Int) ^ (18 : Int).toNat := fun z => ge (decide_eq_true z)
            have e : (10 : Int) ^ (18 : Int).toNat = 1000000000000000000 := by decide
            rw [e] at ge'
            exact ⟨rfl, B3, r, n, m, S3, hns', by omega, hm, hm2⟩
    · rintro _ H3 ⟨rfl, B3, ns3, a3, m3, S3, hns3, ha3, hm3, hm33⟩
      have ml : many.natAbs.log2 < 9000 := by
        have := PySem.Flt.log2_lt_of (k := 20) (by decide) (show many.natAbs < 2 ^ 20 by omega)
        omega
      -- if stream[1] > 0: ..
      refine ⟨fun σ H' => σ = [some (.ref st), some (.int many), none, none] ∧ But st l H H' ∧ Good H' st l ((c + 1 : Nat) : Int),
        ⟨_, rfl, st, _, _, _, rfl, rfl, SqL.of S3.1, rfl, _, _, rfl, rfl, _, rfl, ?_⟩, ?_⟩
      · refine ite2 (fun _ => ?_) (fun _ => ⟨rfl, B3, ns3, a3, m3, S3, hns3, ha3, hm3, hm33⟩)
        refine ⟨_, rfl, st, _, _, _, rfl, rfl, SqL.of S3.1, rfl, .inl ⟨_, rfl, _, rfl, _, _, rfl, rfl, hm0, ?_⟩⟩
        refine ⟨_, rfl, st, _, _, _, rfl, rfl, SqL.of S3.1, rfl, _, rfl, _, _, rfl, rfl, ⟨hm0, ml⟩, _, rfl, st, _, 1, 1, rfl, rfl, S3.1, rfl, _, rfl, ?_⟩
        exact k _ _ (Int.emod_nonneg _ (by omega)) (Int.emod_lt_of_pos _ hm0) B3.st ⟨ns3, a3 / many, m3, S3.st rfl, hns3, Int.ediv_nonneg ha3 (by omega), hm3, hm33⟩
      · rintro _ H4 ⟨rfl, B4, ns4, a4, m4, S4, hns4, ha4, hm4, hm44⟩
        refine ⟨_, rfl, st, _, _, _, rfl, rfl, SqL.of S4.1, rfl, _, rfl, st, _, _, _, rfl, rfl, SqL.of S4.1, rfl, _, _, rfl, rfl, .inl ⟨by decide, by decide⟩, _, _, rfl, rfl, _, _, rfl, rfl, _, _, rfl, rfl, ⟨by decide, by decide, by omega⟩, _, _, rfl, rfl, (by show (0 : Int) < 2147483629; decide), ?_⟩
        generalize hx : (m4 + 104729 * ((c + 1 : Nat) : Int) + 17) ^ (5 : Int).toNat % 2147483629 = x
        have x0 : 0 ≤ x := by
          rw [← hx]
          exact Int.emod_nonneg _ (by decide)
        have x1 : x < 2147483629 := by
          rw [← hx]
          exact Int.emod_lt_of_pos _ (by decide)
        have cc : 40503 * ((c + 1 : Nat) : Int) * ((c + 1 : Nat) : Int) ≤ 40503 * 1000001 * 1000001 := Int.mul_le_mul (by omega) (by omega) (by omega) (by decide)
        have c0 : 0 ≤ 40503 * ((c + 1 : Nat) : Int) * ((c + 1 : Nat) : Int) := Int.mul_nonneg (by omega) (by omega)
        refine ⟨_, rfl, _, _, rfl, rfl, .inr ⟨by decide, by decide⟩, _, rfl, st, _, _, _, rfl, rfl, SqL.of S4.1, rfl, _, _, rfl, rfl, .inl ⟨by decide, by decide⟩, _, rfl, st, _, _, _, rfl, rfl, SqL.of S4.1, rfl, _, _, rfl, rfl, .inr ⟨by omega, by omega⟩,
          _, _, rfl, rfl, _, _, rfl, rfl, _, _, rfl, rfl, ⟨by decide, by decide, by omega⟩, _, _, rfl, rfl, (by show (0 : Int) < 1000000007; decide), _, rfl, _, _, rfl, rfl, hm0, ?_⟩
        exact k _ _ (Int.emod_nonneg _ (by omega)) (Int.emod_lt_of_pos _ hm0) B4 ⟨ns4, a4, m4, S4, hns4, ha4, hm4, hm44⟩
end
theorem at_int {α : Type} {xs : List α} {d : Int} (d0 : 0 ≤ d) (d1 : d < xs.length) : ∃ (i : Nat) (x : α), xs[i]? = some x ∧ atI xs d = some x := by
  obtain ⟨n, rfl⟩ := Int.eq_ofNat_of_zero_le d0
  have hlt : n < xs.length := by omega
  exact ⟨n, xs[n], List.getElem?_eq_getElem hlt, atI_nat (List.getElem?_eq_getElem hlt)⟩
theorem But.trans {st l : Addr} {H H1 H2 : Hp} (a : But st l H H1) (b : But st l H1 H2) : But st l H H2 := fun c o h n1 n2 => b c o (a c o h n1 n2) n1 n2
theorem But.same {st l : Addr} {H H1 : Hp} (a : Same H H1) : But st l H H1 := fun c o h _ _ => a c o h
theorem Strm.up {H H' : Hp} {st l : Addr} {c : Nat} (S : Strm H st l c) (e : Same H H') : Strm H' st l c := by
  obtain ⟨ns, a, m, ⟨h1, h2⟩, r⟩ := S.ex
  exact ⟨ns, a, m, ⟨e _ _ h1, e _ _ h2⟩, r⟩
theorem same_new {H : Hp} {p : Addr} {o : HO} (h : H p = none) : Same H (upd H p o) := fun a u e => by
  rw [upd_ne (ne_of_none e h)]
  exact e
theorem Strm.ne_new {H : Hp} {st l p : Addr} {c : Nat} (S : Strm H st l c) (h : H p = none) : p ≠ st ∧ p ≠ l := by
  obtain ⟨ns, a, m, ⟨h1, h2⟩, r⟩ := S.ex
  exact ⟨(ne_of_none h1 h).symm, (ne_of_none h2 h).symm⟩
theorem But.put {st l p : Addr} {H H' : Hp} {o : HO} (a : But st l H H') (h : H p = none) : But st l H (upd H' p o) := fun c u e n1 n2 => by
  rw [upd_ne (ne_of_none e h)]
  exact a c u e n1 n2
theorem Strm.put {H : Hp} {st l p : Addr} {c : Nat} {o : HO} (S : Strm H st l c) (n : p ≠ st ∧ p ≠ l) : Strm (upd H p o) st l c := by
  obtain ⟨ns, a, m, ⟨h1, h2⟩, r⟩ := S.ex
  exact ⟨ns, a, m, ⟨by rw [upd_ne n.1.symm]; exact h1, by rw [upd_ne n.2.symm]; exact h2⟩, r⟩
def spPickL : Sp := fun vs H Q _ => ∃ (st l : Addr) (c : Nat) (p : Addr) (xs : List V), vs = [.ref st, .ref p] ∧ Strm H st l c ∧ c ≤ 1000000 ∧ H p = some (.lst xs) ∧ p ≠ st ∧ p ≠ l ∧ 0 < xs.length ∧ xs.length < 1000 ∧
  ∀ (i : Nat) (x : V) (H' : Hp), xs[i]? = some x → But st l H H' → Strm H' st l (c + 1) → Q x H'
def spPickS : Sp := fun vs H Q _ => ∃ (st l : Addr) (c : Nat) (z : Str), vs = [.ref st, .str z] ∧ Strm H st l c ∧ c ≤ 1000000 ∧ 0 < z.length ∧ z.length < 1000 ∧
  ∀ (ch : Nat) (H' : Hp), ch ∈ z.cps.toList → But st l H H' → Strm H' st l (c + 1) → Q (.str ⟨#[ch]⟩) H'
def spPick : Sp := fun vs H Q E => spPickL vs H Q E ∨ spPickS vs H Q E
/-- what the small defs lean on -/
structure TG1 (K : PySem.W.Frag) (mg : Str → Option Value) (fD : Addr) (fdD : FuncData) : Prop where
  int : mg "int" = none
  len : mg "len" = none
  range : mg "range" = none
  list : mg "list" = none
  mD : mg "_law_draw" = some (.ref fD)
  kD : PySem.W.keepIn K (.ref fD) = true
  bD : L2.Binds K fdD ["_law_stream", "_law_many"] []
section
variable {P : Program} {w : World} {K : PySem.W.Frag} {mg : Str → Option Value} {base : Heap} {fD : Addr} {fdD : FuncData}
theorem scP : FnScope ["_law_stream", "_law_things"] ["_law_stream", "_law_things"] (defScope sPick) := ⟨rfl, rfl, rfl, by decide +kernel, rfl, by decide +kernel, by decide +kernel⟩
theorem ok_pick {f : Addr} {fd : FuncData} (F : Fun K "_law_pick" "_law_pick" sPick f fd) (T : TG1 K mg fD fdD) (GD : FnOk P w K mg base CX0 1 fD fdD ["_law_stream", "_law_many"] spDraw) : FnOk P w K mg base CX0 2 f fd ["_law_stream", "_law_things"] spPick := by
  refine F.ok scP (fun vs H Q E h => ?_) (fun cdv A outer s H vs Q E hr h => ?_)
  · rcases h with ⟨st, l, c, p, xs, rfl, _⟩ | ⟨st, l, c, z, rfl, _⟩
    · rfl
    · rfl
  · rcases h with ⟨st, l, c, p, xs, rfl, S, hc, hp, n1, n2, h0, h1, k⟩ | ⟨st, l, c, z, rfl, S, hc, h0, h1, k⟩
    · refine ⟨_, pss_one (ps_ret (pe_ix ix_list (pv 1) (pe_call GD hr rfl T.mD T.kD T.bD .nil pass0 (pa_cons (pv 0) (pa_cons (pe_callB call_len_seq (by rfl) T.len PySem.boot_len (pa_cons (pv 1) pa_nil)) pa_nil))) (fun _ _ => rfl))), ?_⟩
      refine ⟨_, rfl, _, rfl, _, rfl, p, xs, rfl, .inl (SqL.of hp), st, l, c, _, rfl, S, hc, by omega, by omega, fun d H' d0 d1 B S' => ?_⟩
      have hp' := B _ _ hp n1 n2
      obtain ⟨i, x, hx, ha⟩ := at_int d0 d1
      exact ⟨p, xs, d, x, rfl, rfl, SqL.of hp', ha, k _ _ _ hx B S'⟩
    · refine ⟨_, pss_one (ps_ret (pe_ix ix_str (pv 1) (pe_call GD hr rfl T.mD T.kD T.bD .nil pass0 (pa_cons (pv 0) (pa_cons (pe_callB call_len_str (by rfl) T.len PySem.boot_len (pa_cons (pv 1) pa_nil)) pa_nil))) (fun _ _ => rfl))), ?_⟩
      have hzs : z.length ≤ sizeLine := Nat.le_of_lt (Nat.lt_of_lt_of_le h1 (by decide))
      refine ⟨_, rfl, _, rfl, _, rfl, z, rfl, hzs, st, l, c, _, rfl, S, hc, by omega, by omega, fun d H' d0 d1 B S' => ?_⟩
      have el : z.cps.toList.length = z.length := by simp [Str.length]
      obtain ⟨i, x, hx, ha⟩ := at_int (xs := z.cps.toList) d0 (by rw [el]; exact d1)
      exact ⟨z, d, x, rfl, rfl, hzs, ha, k _ _ (List.mem_of_getElem? hx) B S'⟩
end
end W

set_option maxHeartbeats 3900000
namespace W
open PySem PySem.Spec PyProof.Rows L2 TL
open C8 (pss_cut tCut pe_gc)
/-! names, lists of texts -/
def IsNm (z : Str) : Prop := 1 ≤ z.length ∧ z.length ≤ 8 ∧ ∀ c ∈ tl z, 97 ≤ c ∧ c ≤ 122
instance (z : Str) : Decidable (IsNm z) := by unfold IsNm; infer_instance
abbrev letters : Str := "abcdefghijklmnopqrstuvwxyz"
theorem letter_at : ∀ i, i < 26 → (letters.cps.toList)[i]? = some (97 + i) := by decide +kernel
theorem letters_all : ∀ c ∈ letters.cps.toList, 97 ≤ c ∧ c ≤ 122 := by decide +kernel
theorem join_one : ∀ cs : List Nat, tl (Txt.join "" (cs.map fun c => (⟨#[c]⟩ : Str))) = cs
  | [] => by
    rw [join_eq]
    rfl
  | [c] => by
    rw [join_eq]
    rfl
  | c :: d :: r => by
    have ih := join_one (d :: r)
    rw [join_eq] at ih ⊢
    have e : Str.join "" ((c :: d :: r).map fun c => (⟨#[c]⟩ : Str)) = (⟨#[c]⟩ : Str) ++ "" ++ Str.join "" ((d :: r).map fun c => (⟨#[c]⟩ : Str)) := rfl
    rw [e, tl_append, tl_append, ih]
    rfl
theorem len_tl (z : Str) : z.length = (tl z).length := by simp [Str.length, tl]
theorem name_of_letters {cs : List Nat} (h1 : 1 ≤ cs.length) (h8 : cs.length ≤ 8) (h : ∀ c ∈ cs, 97 ≤ c ∧ c ≤ 122) : IsNm (Txt.join "" (cs.map fun c => (⟨#[c]⟩ : Str))) := by
  refine ⟨?_, ?_, ?_⟩
  · rw [len_tl, join_one]
    exact h1
  · rw [len_tl, join_one]
    exact h8
  · rw [join_one]
    exact h
/-- the spare names -/
def spare (i : Nat) : Str := "q" ++ (⟨#[97 + i / 26]⟩ : Str) ++ (⟨#[97 + i % 26]⟩ : Str)
theorem spare_tl (i : Nat) : tl (spare i) = [113, 97 + i / 26, 97 + i % 26] := by
  unfold spare
  rw [tl_append, tl_append]
  rfl
theorem spare_nm {i : Nat} (h : i < 676) : IsNm (spare i) := by
  refine ⟨?_, ?_, ?_⟩
  · rw [len_tl, spare_tl]
    exact Nat.succ_le_succ (Nat.zero_le 2)
  · rw [len_tl, spare_tl]
    exact Nat.le_of_ble_eq_true rfl
  · rw [spare_tl]
    intro c hc
    simp only [List.mem_cons, List.not_mem_nil, or_false] at hc
    omega
theorem spare_inj {i j : Nat} (h : spare i = spare j) : i = j := by
  have e := congrArg tl h
  rw [spare_tl, spare_tl] at e
  simp only [List.cons.injEq, and_true, true_and] at e
  omega
theorem pigeon {α : Type} [DecidableEq α] : ∀ (l m : List α), l.Nodup → (∀ x ∈ l, x ∈ m) → l.length ≤ m.length
  | [], _, _, _ => Nat.zero_le _
  | x :: r, m, nd, h => by
    have hx := h x List.mem_cons_self
    have nd2 := List.nodup_cons.mp nd
    have ih := pigeon r (m.erase x) nd2.2 fun y hy => (List.mem_erase_of_ne fun z => nd2.1 (by rw [← z]; exact hy)).mpr (h y (List.mem_cons_of_mem _ hy))
    rw [List.length_erase_of_mem hx] at ih
    have := List.length_pos_of_mem hx
    rw [List.length_cons]
    omega
theorem spares_many {taken : List Str} (h : ∀ i, i < 676 → spare i ∈ taken) : 100 ≤ taken.length := by
  have q := pigeon ((List.range 100).map spare) taken ?_ ?_
  · rw [List.length_map, List.length_range] at q
    exact q
  · exact List.Pairwise.map spare (fun a b h e => h (spare_inj e)) List.nodup_range
  · intro x hx
    obtain ⟨i, hi, rfl⟩ := List.mem_map.mp hx
    exact h i (by have := List.mem_range.mp hi; omega)
theorem inV_strs (z : Str) : ∀ zs : List Str, inV (.str z) (zs.map V.str) = decide (z ∈ zs)
  | [] => rfl
  | y :: r => by
    have ih := inV_strs z r
    show (eqV (.str y) (.str z) || inV (.str z) (r.map V.str)) = decide (z ∈ y :: r)
    rw [ih]
    show ((y == z) || decide (z ∈ r)) = decide (z ∈ y :: r)
    by_cases e : y = z
    · subst e
      simp
    · have e2 : z ≠ y := fun q => e q.symm
      simp [e, e2]
theorem flat_strs : ∀ zs : List Str, (zs.map V.str).all flatV = true
  | [] => rfl
  | _ :: r => flat_strs r
/-- a list of texts is none of the stream's lists -/
theorem strs_but {H H' : Hp} {st l p : Addr} {c : Nat} {z : Str} {zs : List V} (S : Strm H st l c) (B : But st l H H') (h : H p = some (.lst (.str z :: zs))) : H' p = some (.lst (.str z :: zs)) := by
  obtain ⟨ns, a, m, ⟨h1, h2⟩, _⟩ := S.ex
  refine B _ _ h (ne_of h h1 fun q => ?_) (ne_of h h2 fun q => ?_)
  · have := HO.lst.inj q
    have := (List.cons.inj this).1
    cases this
  · have e : V.str z :: zs = ns.map V.int := HO.lst.inj q
    cases ns with
    | nil => cases e
    | cons n r =>
      rw [List.map_cons] at e
      have := (List.cons.inj e).1
      cases this
end W

set_option maxHeartbeats 3900000
namespace W
open PySem PySem.Spec PyProof.Rows L2 TL
open C8 (pss_cut tCut pe_gc)
abbrev sLook : Stmt := top 43
theorem at_map {α β : Type} {f : α → β} {xs : List α} {d : Int} {x : α} (h : atI xs d = some x) : atI (xs.map f) d = some (f x) := by
  unfold atI at h ⊢
  rw [List.length_map]
  cases e : ixN xs.length d with
  | none =>
    rw [e] at h
    cases h
  | some j =>
    rw [e] at h
    have h2 : xs[j]? = some x := h
    show (xs.map f)[j]? = some (f x)
    rw [List.getElem?_map, h2]
    rfl
/-- a def as others call it -/
structure At (K : PySem.W.Frag) (mg : Str → Option Value) (x : Str) (f : Addr) (fd : FuncData) (ps : List Str) : Prop where
  m : mg x = some (.ref f)
  k : PySem.W.keepIn K (.ref f) = true
  b : L2.Binds K fd ps []
structure TB (mg : Str → Option Value) : Prop where
  int : mg "int" = none
  len : mg "len" = none
  range : mg "range" = none
  list : mg "list" = none
  tuple : mg "tuple" = none
  any : mg "any" = none
  all : mg "all" = none
  sorted : mg "sorted" = none
  isinstance : mg "isinstance" = none
  enumerate : mg "enumerate" = none
  zip : mg "zip" = none
  str : mg "str" = none
abbrev aD' (K : PySem.W.Frag) (mg : Str → Option Value) (f : Addr) (fd : FuncData) := At K mg "_law_draw" f fd ["_law_stream", "_law_many"]
def texts : List Str := ["", "x", "y", "x y", "no", "yes", "a/b", "-", "xa", "xb", "X"]
def spText : Sp := fun vs H Q _ => ∃ (st l : Addr) (c : Nat), vs = [.ref st] ∧ Strm H st l c ∧ c ≤ 1000000 ∧
  ∀ (z : Str) (H' : Hp), z ∈ texts → But st l H H' → Strm H' st l (c + 1) → Q (.str z) H'
/-- a list of names, where the stream is none of it -/
structure Pool (H : Hp) (st l p : Addr) (zs : List Str) : Prop where
  h : H p = some (.lst (zs.map V.str))
  n1 : p ≠ st
  n2 : p ≠ l
theorem Pool.but {H H' : Hp} {st l p : Addr} {zs : List Str} (h : Pool H st l p zs) (B : But st l H H') : Pool H' st l p zs := ⟨B _ _ h.h h.n1 h.n2, h.n1, h.n2⟩
def spPath : Sp := fun vs H Q _ => ∃ (st l p : Addr) (c : Nat) (zs : List Str) (most : Int), vs = [.ref st, .ref p, .int most] ∧ Strm H st l c ∧ c ≤ 900000 ∧ Pool H st l p zs ∧ 0 < zs.length ∧ zs.length < 1000 ∧ (∀ z ∈ zs, IsNm z) ∧ 0 < most ∧ most < 1000 ∧
  ∀ (ys : List Str) (H' : Hp) (c' : Nat), 1 ≤ ys.length → (ys.length : Int) ≤ most → (∀ y ∈ ys, y ∈ zs) → But st l H H' → Strm H' st l c' → c' ≤ c + 1 + most.toNat → Q (.str (Txt.join "/" ys)) H'
def spFresh : Sp := fun vs H Q _ => ∃ (st l p : Addr) (c : Nat) (zs : List Str), vs = [.ref st, .ref p] ∧ Strm H st l c ∧ c ≤ 900000 ∧ Pool H st l p zs ∧ zs.length < 100 ∧
  ∀ (z : Str) (H' : Hp) (c' : Nat), IsNm z → z ∉ zs → But st l H H' → Strm H' st l c' → c' ≤ c + 11 → Q (.str z) H'
section
variable {P : Program} {w : World} {K : PySem.W.Frag} {mg : Str → Option Value} {base : Heap} {fD fP fPa fFr : Addr} {fdD fdP fdPa fdFr : FuncData}
theorem scTe : FnScope ["_law_stream"] ["_law_stream"] (defScope sText) := ⟨rfl, rfl, rfl, by decide +kernel, rfl, by decide +kernel, by decide +kernel⟩
theorem ok_text {f : Addr} {fd : FuncData} (F : Fun K "_law_text" "_law_text" sText f fd) (aD : aD' K mg fD fdD) (GD : FnOk P w K mg base CX0 1 fD fdD ["_law_stream", "_law_many"] spDraw) : FnOk P w K mg base CX0 2 f fd ["_law_stream"] spText := by
  refine F.ok scTe (fun vs H Q E h => ?_) (fun cdv A outer s H vs Q E hr h => ?_)
  · obtain ⟨st, l, c, rfl, _⟩ := h
    rfl
  · obtain ⟨st, l, c, rfl, S, hc, k⟩ := h
    refine ⟨_, pss_one (ps_ret (pe_ix ix_list (pe_lst (pa_cons pe_str (pa_cons pe_str (pa_cons pe_str (pa_cons pe_str (pa_cons pe_str (pa_cons pe_str (pa_cons pe_str (pa_cons pe_str (pa_cons pe_str (pa_cons pe_str (pa_cons pe_str pa_nil)))))))))))) (pe_call GD (hr.mono (by decide)) rfl aD.m aD.k aD.b .nil pass0 (pa_cons (pv 0) (pa_cons pe_int pa_nil))) (fun _ _ => rfl))), ?_⟩
    refine ⟨by show 11 ≤ sizeLine; decide, fun p hp => ?_⟩
    have np := S.ne_new hp
    refine ⟨_, rfl, st, l, c, _, rfl, S.up (same_new hp), by omega, by decide, by decide, fun d H' d0 d1 B S' => ?_⟩
    have hp' := B _ _ upd_same np.1 np.2
    obtain ⟨i, x, hx, ha⟩ := at_int (xs := texts.map V.str) d0 (by exact d1)
    obtain ⟨z, hz, rfl⟩ := List.mem_map.mp (List.mem_of_getElem? hx)
    exact ⟨p, texts.map V.str, d, .str z, rfl, rfl, SqL.of hp', ha, k _ _ hz ((But.same (same_new hp)).trans B) S'⟩
theorem scPa : FnScope ["_law_stream", "_law_pool_here", "_law_most", "_law_k"] ["_law_stream", "_law_pool_here", "_law_most"] (defScope sPath) := ⟨rfl, rfl, rfl, by decide +kernel, rfl, by decide +kernel, by decide +kernel⟩
theorem names_len {ys : List Str} (h : ∀ y ∈ ys, y.length ≤ 8) : (ys.map (·.length)).sum ≤ ys.length * 8 := by
  induction ys with
  | nil => exact Nat.le_refl _
  | cons y r ih =>
    have := ih fun z hz => h z (List.mem_cons_of_mem _ hz)
    have := h y List.mem_cons_self
    simp only [List.map_cons, List.sum_cons, List.length_cons]
    omega
theorem ok_path {f : Addr} {fd : FuncData} (F : Fun K "_law_path" "_law_path" sPath f fd) (T : TB mg) (aD : aD' K mg fD fdD) (aP : At K mg "_law_pick" fP fdP ["_law_stream", "_law_things"]) (GD : FnOk P w K mg base CX0 1 fD fdD ["_law_stream", "_law_many"] spDraw)
    (GP : FnOk P w K mg base CX0 2 fP fdP ["_law_stream", "_law_things"] spPick) : FnOk P w K mg base CX0 3 f fd ["_law_stream", "_law_pool_here", "_law_most"] spPath := by
  refine F.ok scPa (fun vs H Q E h => ?_) (fun cdv A outer s H vs Q E hr h => ?_)
  · obtain ⟨st, l, p, c, zs, most, rfl, _⟩ := h
    rfl
  · obtain ⟨st, l, p, c, zs, most, rfl, S, hc, L, z0, z1, nm, m0, m1, k⟩ := h
    refine ⟨_, pss_one (ps_ret (pe_join pe_str (pe_lc (own := [("_law_k", 3)]) (g := gName 3) (tt := tYes) rfl scPa.nd (pi_range1 rfl T.range (pa_cons (pe_op op_add pe_int (pe_call GD (hr.mono (by decide)) rfl aD.m aD.k aD.b .nil pass0 (pa_cons (pv 0) (pa_cons (pv 2) pa_nil)))) pa_nil)) (blkOk_by (own := [("_law_k", 3)]) (N := ["_law_stream", "_law_pool_here", "_law_most", "_law_k"]) (sc := defScope sPath) (by decide +kernel)) (fun _ _ _ _ _ => (pg_name (i := 3) scPa.nd rfl (Or.inl rfl))) (fun _ _ _ _ _ => pts_nil) (fun _ _ _ _ _ => (pe_call GP (hr.mono (by decide)) rfl aP.m aP.k aP.b .nil pass0 (pa_cons (pv 0) (pa_cons (pv 1) pa_nil))))))), ?_⟩
    refine ⟨⟨_, rfl⟩, _, rfl, _, rfl, st, l, c, _, rfl, S, by omega, m0, by omega, fun d H1 d0 d1 B1 S1 => ?_⟩
    obtain ⟨n, hn⟩ : ∃ n : Nat, 1 + d = (n : Int) := ⟨(1 + d).toNat, by omega⟩
    refine ⟨_, _, rfl, rfl, 1 + d, rfl, by omega, by omega, fun D hD => ?_⟩
    rw [show (1 + d).toNat = n by omega]
    refine lc_range (lo := 0) (n := n) (fun i H' => But st l H1 H' ∧ Strm H' st l (c + 1 + i) ∧ ∃ ys : List Str, ys.length = i ∧ H' D = some (.lst (ys.map V.str)) ∧ ∀ y ∈ ys, y ∈ zs)
      ⟨But.same (same_new hD), S1.up (same_new hD), [], rfl, upd_same, by simp⟩ ?_ ?_
    · rintro i H' hi ⟨B', S', ys, hy, hD', hs⟩
      have nD := S1.ne_new hD
      have L' := L.but (B1.trans B')
      refine ⟨rfl, _, rfl, _, rfl, .inl ⟨st, l, c + 1 + i, p, zs.map V.str, rfl, S', by omega, L'.h, L'.n1, L'.n2, by rw [List.length_map]; exact z0, by rw [List.length_map]; exact z1, fun j x H'' hx B'' S'' => ?_⟩⟩
      obtain ⟨z, hz, rfl⟩ := List.mem_map.mp (List.mem_of_getElem? hx)
      refine ⟨_, B'' _ _ hD' nD.1 nD.2, ?_, (B'.trans B'').put hD, S''.put nD, ys ++ [z], ?_, ?_, fun y hy' => ?_⟩
      · rw [List.length_map, hy]
        exact Nat.lt_of_lt_of_le (show i < 1001 by omega) (by decide)
      · rw [List.length_append, hy]
        rfl
      · rw [upd_same, List.map_append]
        rfl
      · rcases List.mem_append.mp hy' with q | q
        · exact hs y q
        · rw [List.mem_singleton.mp q]
          exact hz
    · rintro H' ⟨B', S', ys, hy, hD', hs⟩
      refine ⟨_, D, ys, rfl, rfl, .inl (SqL.of hD'), ?_, k ys H' (c + 1 + n) (by omega) (by omega) hs (B1.trans B') S' (by omega)⟩
      have := names_len fun y q => (nm y (hs y q)).2.1
      have e : (("/" : Str).length) = 1 := by decide
      rw [e]
      omega
def fwords : List Str := ["read", "list", "setting", "tool", "end", "main", "none"]
theorem fwords_nm : ∀ z ∈ fwords, IsNm z := by decide +kernel
def nums : List Int := [1, 1, 1, 2, 3, 8]
theorem nums_ok : ∀ n ∈ nums, 1 ≤ n ∧ n ≤ 8 := by decide
theorem scFr : FnScope ["_law_stream", "_law_taken", "_law_letters", "_law_words", "_law_k", "_law_name", "_law_spare"] ["_law_stream", "_law_taken"] (defScope sFresh) := ⟨rfl, rfl, rfl, by decide +kernel, rfl, by decide +kernel, by decide +kernel⟩
theorem ok_fresh {f : Addr} {fd : FuncData} (F : Fun K "_law_fresh" "_law_fresh" sFresh f fd) (T : TB mg) (aD : aD' K mg fD fdD) (aP : At K mg "_law_pick" fP fdP ["_law_stream", "_law_things"]) (GD : FnOk P w K mg base CX0 1 fD fdD ["_law_stream", "_law_many"] spDraw)
    (GP : FnOk P w K mg base CX0 2 fP fdP ["_law_stream", "_law_things"] spPick) : FnOk P w K mg base CX0 3 f fd ["_law_stream", "_law_taken"] spFresh := by
  refine F.ok scFr (fun vs H Q E h => ?_) (fun cdv A outer s H vs Q E hr h => ?_)
  · obtain ⟨st, l, p, c, zs, rfl, _⟩ := h
    rfl
  · obtain ⟨st, l, p, c, zs, rfl, S, hc, L, z1, k⟩ := h
    refine ⟨_, pss_cut (ps_asg (pe_tup (pa_cons pe_str (pa_cons (pe_lst (pa_cons pe_str (pa_cons pe_str (pa_cons pe_str (pa_cons pe_str (pa_cons pe_str (pa_cons pe_str (pa_cons pe_str pa_nil)))))))) pa_nil))) (pg_tup rfl (pgs_cons (pg_name (i := 2) scFr.nd rfl (Or.inr rfl)) (pgs_cons (pg_name (i := 3) scFr.nd rfl (Or.inl rfl)) pgs_nil))))
        (pss_cut (ps_set (i := 5) scFr.nd rfl (Or.inl rfl) (pe_join pe_str (pe_lc (own := [("_law_k", 4)]) (g := gName 4) (tt := tYes) rfl scFr.nd (pi_range1 rfl T.range (pa_cons (pe_ix ix_list (pe_lst (pa_cons pe_int (pa_cons pe_int (pa_cons pe_int (pa_cons pe_int (pa_cons pe_int (pa_cons pe_int pa_nil))))))) (pe_call GD (hr.mono (by decide)) rfl aD.m aD.k aD.b .nil pass0 (pa_cons (pv 0) (pa_cons pe_int pa_nil))) (fun _ _ => rfl)) pa_nil)) (blkOk_by (own := [("_law_k", 4)]) (N := ["_law_stream", "_law_taken", "_law_letters", "_law_words", "_law_k", "_law_name", "_law_spare"]) (sc := defScope sFresh) (by decide +kernel)) (fun _ _ _ _ _ => (pg_name (i := 4) scFr.nd rfl (Or.inl rfl))) (fun _ _ _ _ _ => pts_nil) (fun _ _ _ _ _ => (pe_ix ix_str (pv 2) (pe_call GD (hr.mono (by decide)) rfl aD.m aD.k aD.b .nil pass0 (pa_cons (pv 0) (pa_cons pe_int pa_nil))) (fun _ _ => rfl))))))
        (pss_cut (ps_set (i := 5) scFr.nd rfl (Or.inl rfl) (pe_ifExp (pt_cmpR op_eq (pe_call GD (hr.mono (by decide)) rfl aD.m aD.k aD.b .nil pass0 (pa_cons (pv 0) (pa_cons pe_int pa_nil))) pe_int (nomark _)) (pe_call GP (hr.mono (by decide)) rfl aP.m aP.k aP.b .nil pass0 (pa_cons (pv 0) (pa_cons (pv 3) pa_nil))) (pv 5)))
        (pss_cut (ps_for PassesOwn.never rfl (pi_range1 rfl T.range (pa_cons (pe_op op_mul pe_int (pe_callTy call_int1 (by rfl) T.int (by decide +kernel) (pa_cons (pe_cmpR op_in_seq (pv 5) (pv 1) (by rfl)) pa_nil))) pa_nil)) (pg_name (i := 4) scFr.nd rfl (Or.inl rfl)) (pss_cut (ps_set (i := 6) scFr.nd rfl (Or.inl rfl) (pe_op op_add_str (pe_op op_add_str pe_str (pe_ix ix_str (pv 2) (pe_op op_fdiv (pv 4) pe_int) (fun _ _ => rfl))) (pe_ix ix_str (pv 2) (pe_op op_mod (pv 4) pe_int) (fun _ _ => rfl))))
        (pss_one (ps_if (pt_cmpR op_notIn_seq (pv 6) (pv 1) (by rfl)) (pss_one (ps_ret (pv 6))) (pss_nil)))))
        (pss_one (ps_ret (pv 5)))))), ?_⟩
    -- letters, words
    refine ⟨fun σ H' => ∃ q, σ = [some (.ref st), some (.ref p), some (.str letters), some (.ref q), none, none, none] ∧ But st l H H' ∧ Strm H' st l c ∧ Pool H' st l q fwords, ?_, ?_⟩
    · refine ⟨by show 7 ≤ sizeLine; decide, fun q hq => ⟨by show 2 ≤ sizeLine; decide, fun t ht => ?_⟩⟩
      have nq := S.ne_new hq
      have nt : q ≠ t := ne_of_none upd_same ht
      have s1 : Same H (upd (upd H q (.lst (fwords.map V.str))) t (.tup [.str letters, .ref q])) := (same_new hq).trans (same_new ht)
      exact ⟨t, _, rfl, SqT.of upd_same, rfl, _, _, rfl, _, _, rfl, rfl, q, rfl, But.same s1, S.up s1, ⟨by rw [upd_ne nt]; exact upd_same, nq.1, nq.2⟩⟩
    rintro _ H1 ⟨q, rfl, B1, S1, Lq⟩
    -- name = ''.join(..)
    refine ⟨fun σ H' => ∃ z x4 c', σ = [some (.ref st), some (.ref p), some (.str letters), some (.ref q), x4, some (.str z), none] ∧ IsNm z ∧ But st l H H' ∧ Strm H' st l c' ∧ c' ≤ c + 9 ∧ Pool H' st l q fwords, ?_, ?_⟩
    · refine ⟨⟨_, rfl⟩, by show 6 ≤ sizeLine; decide, fun u hu => ⟨_, rfl, st, l, c, _, rfl, S1.up (same_new hu), by omega, by decide, by decide, fun d H2 d0 d1 B2 S2 => ?_⟩⟩
      have nu := S1.ne_new hu
      have hu' := B2 _ _ upd_same nu.1 nu.2
      obtain ⟨i, x, hx, ha⟩ := at_int (xs := nums) d0 (by exact d1)
      obtain ⟨x0, x8⟩ := nums_ok x (List.mem_of_getElem? hx)
      obtain ⟨n, rfl⟩ := Int.eq_ofNat_of_zero_le (show 0 ≤ x by omega)
      have ha2 : atI (nums.map V.int) d = some (.int (n : Int)) := at_map ha
      refine ⟨u, _, d, _, rfl, rfl, SqL.of hu', ha2, (n : Int), rfl, by omega, by omega, fun D hD => ?_⟩
      have B02 : But st l H1 H2 := (But.same (same_new hu)).trans B2
      have nD := S2.ne_new hD
      refine lc_range (lo := 0) (n := n) (fun i H' => But st l H2 H' ∧ Strm H' st l (c + 1 + i) ∧ ∃ ys : List Nat, ys.length = i ∧ H' D = some (.lst ((ys.map fun c => (⟨#[c]⟩ : Str)).map V.str)) ∧ ∀ y ∈ ys, 97 ≤ y ∧ y ≤ 122)
        ⟨But.same (same_new hD), S2.up (same_new hD), [], rfl, upd_same, by simp⟩ ?_ ?_
      · rintro i H' hi ⟨B', S', ys, hy, hD', hs⟩
        refine ⟨rfl, _, rfl, _, rfl, st, l, c + 1 + i, _, rfl, S', by omega, by decide, by decide, fun e H'' e0 e1 B'' S'' => ?_⟩
        obtain ⟨j, y, hj, hat⟩ := at_int (xs := letters.cps.toList) e0 (by exact e1)
        refine ⟨letters, e, y, rfl, rfl, by decide, hat, _, B'' _ _ hD' nD.1 nD.2, ?_, (B'.trans B'').put hD, S''.put nD, ys ++ [y], ?_, ?_, fun v hv => ?_⟩
        · rw [List.length_map, List.length_map, hy]
          exact Nat.lt_of_lt_of_le (show i < 1001 by omega) (by decide)
        · rw [List.length_append, hy]
          rfl
        · rw [upd_same, List.map_append, List.map_append]
          rfl
        · rcases List.mem_append.mp hv with g | g
          · exact hs v g
          · rw [List.mem_singleton.mp g]
            exact letters_all y (List.mem_of_getElem? hj)
      · rintro H' ⟨B', S', ys, hy, hD', hs⟩
        refine ⟨_, D, ys.map fun c => ⟨#[c]⟩, rfl, rfl, .inl (SqL.of hD'), ?_, _, none, c + 1 + n, rfl, name_of_letters (by omega) (by omega) hs, B1.trans (B02.trans B'), S', by omega, (Lq.but B02).but B'⟩
        have := names_len (ys := ys.map fun c => (⟨#[c]⟩ : Str)) fun y q => by
          obtain ⟨c, _, rfl⟩ := List.mem_map.mp q
          exact (by decide : 1 ≤ 8)
        have e : (("" : Str).length) = 0 := by decide
        rw [e]
        rw [List.length_map] at this ⊢
        omega
    rintro _ H2 ⟨z, x4, c2, rfl, nz, B2, S2, hc2, Lq2⟩
    -- name = pick(words) if draw(9) == 0 else name
    refine ⟨fun σ H' => ∃ z x4 c', σ = [some (.ref st), some (.ref p), some (.str letters), some (.ref q), x4, some (.str z), none] ∧ IsNm z ∧ But st l H H' ∧ Strm H' st l c' ∧ c' ≤ c + 11, ?_, ?_⟩
    · refine ⟨_, rfl, st, l, c2, _, rfl, S2, by omega, by decide, by decide, fun d H3 d0 d1 B3 S3 => ⟨rfl, _, rfl, ?_⟩⟩
      refine ite2 (fun _ => ?_) (fun _ => ?_)
      · have Lq3 := Lq2.but B3
        refine ⟨_, rfl, _, rfl, .inl ⟨st, l, c2 + 1, q, _, rfl, S3, by omega, Lq3.h, Lq3.n1, Lq3.n2, by decide, by decide, fun j x H4 hx B4 S4 => ?_⟩⟩
        obtain ⟨y, hy, rfl⟩ := List.mem_map.mp (List.mem_of_getElem? hx)
        exact ⟨y, x4, c2 + 1 + 1, rfl, fwords_nm y hy, (B2.trans B3).trans B4, S4, by omega⟩
      · exact ⟨_, rfl, z, x4, c2 + 1, rfl, nz, B2.trans B3, S3, by omega⟩
    rintro _ H3 ⟨z, x4, c3, rfl, nz, B3, S3, hc3⟩
    have L3 := L.but B3
    -- the spare names
    refine ⟨fun σ H' => ∃ x4 x6, σ = [some (.ref st), some (.ref p), some (.str letters), some (.ref q), x4, some (.str z), x6] ∧ H' = H3 ∧ z ∉ zs, ?_, ?_⟩
    · refine ⟨_, rfl, _, rfl, p, _, rfl, .inl (SqL.of L3.h), rfl, flat_strs zs, .inr ⟨_, rfl, _, _, rfl, rfl, .inl ⟨by decide, by decide⟩, ?_⟩⟩
      have fz : (if false = true then !inV (.str z) (zs.map V.str) else inV (.str z) (zs.map V.str)) = decide (z ∈ zs) := inV_strs z zs
      rw [fz]
      by_cases hz : z ∈ zs
      · rw [decide_eq_true hz]
        refine ⟨676, rfl, by decide, by decide, for_range (lo := 0) (n := 676) (fun i σ H' => ∃ x4 x6, σ = [some (.ref st), some (.ref p), some (.str letters), some (.ref q), x4, some (.str z), x6] ∧ H' = H3 ∧ ∀ j, j < i → spare j ∈ zs)
          ⟨x4, none, rfl, rfl, fun j hj => absurd hj (Nat.not_lt_zero j)⟩ ?_ ?_⟩
        · rintro i _ H4 hi ⟨y4, y6, rfl, rfl, hs⟩
          have q1 : (0 + (i : Int)) / 26 = ((i / 26 : Nat) : Int) := by omega
          have q2 : (0 + (i : Int)) % 26 = ((i % 26 : Nat) : Int) := by omega
          refine ⟨fun σ H' => σ = [some (.ref st), some (.ref p), some (.str letters), some (.ref q), some (.int (0 + i)), some (.str z), some (.str (spare i))] ∧ H' = H4, ?_, ?_⟩
          · refine ⟨_, rfl, _, rfl, _, _, rfl, rfl, ⟨by decide, by decide⟩, letters, _, 97 + i / 26, rfl, rfl, by decide, ?_, _, _, rfl, rfl, (show 2 ≤ sizeLine by decide), _, rfl, _, rfl, _, _, rfl, rfl, (by show (0 : Int) < 26; decide), letters, _, 97 + i % 26, rfl, rfl, by decide, ?_, _, _, rfl, rfl, (show 3 ≤ sizeLine by decide), rfl, rfl⟩
            · rw [q1]
              exact atI_nat (letter_at _ (by omega))
            · rw [q2]
              exact atI_nat (letter_at _ (by omega))
          rintro _ _ ⟨rfl, rfl⟩
          refine ⟨_, rfl, _, rfl, p, _, rfl, .inl (SqL.of L3.h), rfl, flat_strs zs, ?_⟩
          have fs : (if true = true then !inV (.str (spare i)) (zs.map V.str) else inV (.str (spare i)) (zs.map V.str)) = !decide (spare i ∈ zs) := congrArg (! ·) (inV_strs (spare i) zs)
          rw [fs]
          by_cases hsp : spare i ∈ zs
          · rw [decide_eq_true hsp]
            refine ⟨_, rfl, iteF ⟨_, _, rfl, rfl, fun j hj => ?_⟩⟩
            rcases Nat.lt_succ_iff_lt_or_eq.mp hj with g | g
            · exact hs j g
            · rw [g]
              exact hsp
          · rw [decide_eq_false hsp]
            exact ⟨_, rfl, iteT ⟨_, rfl, k _ _ c3 (spare_nm hi) hsp B3 S3 hc3⟩⟩
        · rintro _ _ ⟨y4, y6, rfl, rfl, hs⟩
          have := spares_many hs
          omega
      · rw [decide_eq_false hz]
        refine ⟨0, rfl, by decide, by decide, for_range (lo := 0) (n := 0) (fun i σ H' => ∃ x4 x6, σ = [some (.ref st), some (.ref p), some (.str letters), some (.ref q), x4, some (.str z), x6] ∧ H' = H3) ⟨x4, none, rfl, rfl⟩ (fun i _ _ hi => absurd hi (Nat.not_lt_zero i)) ?_⟩
        rintro _ _ ⟨y4, y6, rfl, rfl⟩
        exact ⟨y4, y6, rfl, rfl, hz⟩
    rintro _ _ ⟨x4, x6, rfl, rfl, nin⟩
    exact ⟨_, rfl, k z _ c3 nz nin B3 S3 hc3⟩
end
end W

set_option maxHeartbeats 3900000
namespace W
open PySem PySem.Spec PyProof.Rows L2 TL
open C8 (pss_cut tCut pe_gc)
def spPool : Sp := fun vs H Q _ => ∃ (st l : Addr) (c : Nat) (many : Int), vs = [.ref st, .int many] ∧ Strm H st l c ∧ c ≤ 800000 ∧ 0 ≤ many ∧ many ≤ 50 ∧
  ∀ (p : Addr) (zs : List Str) (H' : Hp) (c' : Nat), (zs.length : Int) = many → zs.Nodup → (∀ z ∈ zs, IsNm z) → H p = none → Pool H' st l p zs → But st l H H' → Strm H' st l c' → c' ≤ c + 11 * many.toNat → Q (.ref p) H'
/-- a look: a file's, a folder's (no name: the root), a setting's, the tool's -/
inductive Lk
  | rd (p : List Str)
  | ls (p : List Str)
  | se (n : Str)
  | tl
deriving DecidableEq
abbrev js (p : List Str) : Str := Txt.join "/" p
def lkV : Lk → List V
  | .rd p => [.str "read", .str (js p)]
  | .ls p => [.str "list", .str (js p)]
  | .se n => [.str "setting", .str n]
  | .tl => [.str "tool"]
/-- a look over some names, with at most so many on a way -/
def LkOn (zs : List Str) (m : Nat) : Lk → Prop
  | .rd p => p ≠ [] ∧ p.length ≤ m ∧ ∀ y ∈ p, y ∈ zs
  | .ls p => p.length ≤ m ∧ ∀ y ∈ p, y ∈ zs
  | .se n => n ∈ zs
  | .tl => True
def spLook : Sp := fun vs H Q _ => ∃ (st l p : Addr) (c : Nat) (zs : List Str), vs = [.ref st, .ref p] ∧ Strm H st l c ∧ c ≤ 800000 ∧ Pool H st l p zs ∧ 0 < zs.length ∧ zs.length < 1000 ∧ (∀ z ∈ zs, IsNm z) ∧
  ∀ (t : Addr) (k : Lk) (H' : Hp) (c' : Nat), LkOn zs 3 k → H t = none → H' t = some (.tup (lkV k)) → But st l H H' → Strm H' st l c' → c' ≤ c + 6 → Q (.ref t) H'
section
variable {P : Program} {w : World} {K : PySem.W.Frag} {mg : Str → Option Value} {base : Heap} {fD fP fPa fFr : Addr} {fdD fdP fdPa fdFr : FuncData}
theorem scPo : FnScope ["_law_stream", "_law_many", "_law_found", "_law_k"] ["_law_stream", "_law_many"] (defScope sPool) := ⟨rfl, rfl, rfl, by decide +kernel, rfl, by decide +kernel, by decide +kernel⟩
theorem But.none {st l p : Addr} {H H' : Hp} (B : But st l H H') (h : H' p = Option.none) (n : p ≠ st ∧ p ≠ l) : H p = Option.none := by
  cases e : H p with
  | none => rfl
  | some o =>
    rw [B p o e n.1 n.2] at h
    cases h
theorem ok_pool {f : Addr} {fd : FuncData} (F : Fun K "_law_pool" "_law_pool" sPool f fd) (T : TB mg) (aFr : At K mg "_law_fresh" fFr fdFr ["_law_stream", "_law_taken"]) (GFr : FnOk P w K mg base CX0 3 fFr fdFr ["_law_stream", "_law_taken"] spFresh) : FnOk P w K mg base CX0 4 f fd ["_law_stream", "_law_many"] spPool := by
  refine F.ok scPo (fun vs H Q E h => ?_) (fun cdv A outer s H vs Q E hr h => ?_)
  · obtain ⟨st, l, c, many, rfl, _⟩ := h
    rfl
  · obtain ⟨st, l, c, many, rfl, S, hc, m0, m1, k⟩ := h
    obtain ⟨n, rfl⟩ := Int.eq_ofNat_of_zero_le m0
    refine ⟨_, pss_cut (ps_set (i := 2) scPo.nd rfl (Or.inl rfl) (pe_lst pa_nil))
        (pss_cut (ps_for PassesOwn.never rfl (pi_range1 rfl T.range (pa_cons (pv 1) pa_nil)) (pg_name (i := 3) scPo.nd rfl (Or.inl rfl)) (pss_one (ps_expr (pe_bm PySem.F.plainAttrs_list PySem.F.slot_list_append PySem.F.type_list_append mt_append (pv 2) (pa_cons (pe_call GFr (hr.mono (by decide)) rfl aFr.m aFr.k aFr.b .nil pass0 (pa_cons (pv 0) (pa_cons (pv 2) pa_nil))) pa_nil)))))
        (pss_one (ps_ret (pv 2)))), ?_⟩
    refine ⟨fun σ H' => ∃ p, σ = [some (.ref st), some (.int n), some (.ref p), none] ∧ H p = none ∧ H' = upd H p (.lst []), ⟨Nat.zero_le _, fun p hp => ⟨p, rfl, hp, rfl⟩⟩, ?_⟩
    rintro _ _ ⟨p, rfl, hp, rfl⟩
    have np := S.ne_new hp
    refine ⟨fun σ H' => ∃ x3 zs, σ = [some (.ref st), some (.int n), some (.ref p), x3] ∧ zs.length = n ∧ zs.Nodup ∧ (∀ z ∈ zs, IsNm z) ∧ Pool H' st l p zs ∧ But st l H H' ∧ ∃ c', Strm H' st l c' ∧ c' ≤ c + 11 * n, ?_, ?_⟩
    · refine ⟨_, rfl, n, rfl, by omega, by omega, for_range (lo := 0) (n := n) (fun i σ H' => ∃ x3 zs, σ = [some (.ref st), some (.int n), some (.ref p), x3] ∧ zs.length = i ∧ zs.Nodup ∧ (∀ z ∈ zs, IsNm z) ∧ Pool H' st l p zs ∧ But st l H H' ∧ ∃ c', Strm H' st l c' ∧ c' ≤ c + 11 * i)
        ⟨none, [], rfl, rfl, List.nodup_nil, by simp, ⟨upd_same, np.1, np.2⟩, But.same (same_new hp), c, S.up (same_new hp), by omega⟩ ?_ fun _ _ h => h⟩
      rintro i _ H1 hi ⟨x3, zs, rfl, hz, nd, nm, L, B, c1, S1, hc1⟩
      refine ⟨_, rfl, .inl ⟨rfl, _, SqL.of L.h⟩, _, rfl, _, rfl, st, l, p, c1, zs, rfl, S1, by omega, L, by omega, fun z H2 c2 nz nin B2 S2 hc2 => ?_⟩
      have L2 := L.but B2
      refine ⟨p, _, _, rfl, rfl, L2.h, ?_, _, zs ++ [z], rfl, by rw [List.length_append, hz]; rfl, List.nodup_append.mpr ⟨nd, List.nodup_cons.mpr ⟨by simp, List.nodup_nil⟩, ?_⟩, ?_, ⟨?_, L2.n1, L2.n2⟩, (B.trans B2).put hp, c2, S2.put np, by omega⟩
      · rw [List.length_map, hz]
        exact Nat.lt_of_lt_of_le (show i < 1001 by omega) (by decide)
      · intro a ha b hb e
        rw [e, List.mem_singleton.mp hb] at ha
        exact nin ha
      · intro y hy
        rcases List.mem_append.mp hy with q | q
        · exact nm y q
        · rw [List.mem_singleton.mp q]
          exact nz
      · rw [upd_same, List.map_append]
        rfl
    rintro _ H2 ⟨x3, zs, rfl, hz, nd, nm, L, B, c', S', hc'⟩
    exact ⟨_, rfl, k p zs H2 c' (by omega) nd nm hp L B S' (by omega)⟩
theorem scLo : FnScope ["_law_stream", "_law_pool_here", "_law_way"] ["_law_stream", "_law_pool_here"] (defScope sLook) := ⟨rfl, rfl, rfl, by decide +kernel, rfl, by decide +kernel, by decide +kernel⟩
theorem ok_look {f : Addr} {fd : FuncData} (F : Fun K "_law_look" "_law_look" sLook f fd) (T : TB mg) (aD : aD' K mg fD fdD) (aP : At K mg "_law_pick" fP fdP ["_law_stream", "_law_things"]) (aPa : At K mg "_law_path" fPa fdPa ["_law_stream", "_law_pool_here", "_law_most"]) (GD : FnOk P w K mg base CX0 1 fD fdD ["_law_stream", "_law_many"] spDraw)
    (GP : FnOk P w K mg base CX0 2 fP fdP ["_law_stream", "_law_things"] spPick) (GPa : FnOk P w K mg base CX0 3 fPa fdPa ["_law_stream", "_law_pool_here", "_law_most"] spPath) : FnOk P w K mg base CX0 4 f fd ["_law_stream", "_law_pool_here"] spLook := by
  refine F.ok scLo (fun vs H Q E h => ?_) (fun cdv A outer s H vs Q E hr h => ?_)
  · obtain ⟨st, l, p, c, zs, rfl, _⟩ := h
    rfl
  · obtain ⟨st, l, p, c, zs, rfl, S, hc, L, z0, z1, nm, k⟩ := h
    refine ⟨_, pss_cut (ps_set (i := 2) scLo.nd rfl (Or.inl rfl) (pe_call GD (hr.mono (by decide)) rfl aD.m aD.k aD.b .nil pass0 (pa_cons (pv 0) (pa_cons pe_int pa_nil))))
        (pss_cons (ps_if (pt_cmpR op_lt (pv 2) pe_int (nomark _)) (pss_one (ps_ret (pe_tup (pa_cons pe_str (pa_cons (pe_call GPa (hr.mono (by decide)) rfl aPa.m aPa.k aPa.b .nil pass0 (pa_cons (pv 0) (pa_cons (pv 1) (pa_cons pe_int pa_nil)))) pa_nil))))) (pss_nil))
        (pss_cons (ps_if (pt_cmpR op_lt (pv 2) pe_int (nomark _)) (pss_one (ps_ret (pe_tup (pa_cons pe_str (pa_cons (pe_ifExp (pt_cmpR op_eq (pe_call GD (hr.mono (by decide)) rfl aD.m aD.k aD.b .nil pass0 (pa_cons (pv 0) (pa_cons pe_int pa_nil))) pe_int (nomark _)) pe_str (pe_call GPa (hr.mono (by decide)) rfl aPa.m aPa.k aPa.b .nil pass0 (pa_cons (pv 0) (pa_cons (pv 1) (pa_cons pe_int pa_nil))))) pa_nil))))) (pss_nil))
        (pss_one (ps_ret (pe_ifExp (pt_cmpR op_eq (pv 2) pe_int (nomark _)) (pe_tup (pa_cons pe_str (pa_cons (pe_call GP (hr.mono (by decide)) rfl aP.m aP.k aP.b .nil pass0 (pa_cons (pv 0) (pa_cons (pv 1) pa_nil))) pa_nil))) (pe_tup (pa_cons pe_str pa_nil))))))), ?_⟩
    refine ⟨fun σ H' => ∃ d : Int, σ = [some (.ref st), some (.ref p), some (.int d)] ∧ But st l H H' ∧ Strm H' st l (c + 1), ⟨_, rfl, st, l, c, _, rfl, S, by omega, by decide, by decide, fun d H' d0 d1 B S' => ⟨d, rfl, B, S'⟩⟩, ?_⟩
    rintro _ H1 ⟨d, rfl, B1, S1⟩
    have L1 := L.but B1
    have fin : ∀ (k' : Lk) (H2 : Hp) (c2 : Nat) (t : Addr), LkOn zs 3 k' → But st l H1 H2 → Strm H2 st l c2 → c2 ≤ c + 6 → H2 t = none → Q (.ref t) (upd H2 t (.tup (lkV k'))) := fun k' H2 c2 t o B2 S2 hc2 ht =>
      k t k' _ c2 o (But.none (B1.trans B2) ht (S2.ne_new ht)) upd_same ((B1.trans B2).put (But.none (B1.trans B2) ht (S2.ne_new ht))) (S2.up (same_new ht)) hc2
    refine ⟨_, rfl, _, _, rfl, rfl, _, rfl, ite2 (fun _ => ?_) (fun _ => ?_)⟩
    · refine ⟨_, rfl, _, rfl, st, l, p, c + 1, zs, 3, rfl, S1, by omega, L1, z0, z1, nm, by decide, by decide, fun ys H2 c2 y1 y2 hy B2 S2 hc2 => ⟨by show 2 ≤ sizeLine; decide, fun t ht => ?_⟩⟩
      exact fin (.rd ys) H2 c2 t ⟨by rintro rfl; exact absurd y1 (by decide), by omega, hy⟩ B2 S2 (by omega) ht
    refine ⟨_, rfl, _, _, rfl, rfl, _, rfl, ite2 (fun _ => ?_) (fun _ => ?_)⟩
    · refine ⟨_, rfl, st, l, c + 1, _, rfl, S1, by omega, by decide, by decide, fun e H2 e0 e1 B2 S2 => ⟨rfl, _, rfl, ite2 (fun _ => ?_) (fun _ => ?_)⟩⟩
      · exact ⟨by show 2 ≤ sizeLine; decide, fun t ht => fin (.ls []) H2 _ t ⟨Nat.zero_le _, by simp⟩ B2 S2 (by omega) ht⟩
      · refine ⟨_, rfl, _, rfl, st, l, p, c + 1 + 1, zs, 2, rfl, S2, by omega, L1.but B2, z0, z1, nm, by decide, by decide, fun ys H3 c3 y1 y2 hy B3 S3 hc3 => ⟨by show 2 ≤ sizeLine; decide, fun t ht => ?_⟩⟩
        exact fin (.ls ys) H3 c3 t ⟨by omega, hy⟩ (B2.trans B3) S3 (by omega) ht
    refine ⟨_, rfl, rfl, _, rfl, ite2 (fun _ => ?_) (fun _ => ?_)⟩
    · refine ⟨_, rfl, _, rfl, .inl ⟨st, l, c + 1, p, _, rfl, S1, by omega, L1.h, L1.n1, L1.n2, by rw [List.length_map]; exact z0, by rw [List.length_map]; exact z1, fun i x H2 hx B2 S2 => ⟨by show 2 ≤ sizeLine; decide, fun t ht => ?_⟩⟩⟩
      obtain ⟨z, hz, rfl⟩ := List.mem_map.mp (List.mem_of_getElem? hx)
      exact fin (.se z) H2 _ t hz B2 S2 (by omega) ht
    · exact ⟨by show 1 ≤ sizeLine; decide, fun t ht => fin .tl H1 _ t trivial (fun _ _ e _ _ => e) S1 (by omega) ht⟩
end
end W

set_option maxHeartbeats 3900000
namespace W
open PySem PySem.Spec PyProof.Rows L2 TL
/-! paths as lists of names, against texts -/
theorem tl_sl : tl ("/" : Str) = [47] := by decide +kernel
def Nms (p : List Str) : Prop := ∀ y ∈ p, IsNm y
instance (p : List Str) : Decidable (Nms p) := by unfold Nms; infer_instance
abbrev jl (p : List Str) : List Nat := joinL [47] (p.map tl)
theorem tl_js (p : List Str) : tl (js p) = jl p := by
  show tl (Txt.join "/" p) = jl p
  rw [join_eq, tl_join, tl_sl]
theorem nm_free {y : Str} (h : IsNm y) : 47 ∉ tl y := fun m => by
  have := h.2.2 47 m
  omega
theorem nm_ne {y : Str} (h : IsNm y) : tl y ≠ [] := fun e => by
  have h1 := h.1
  rw [len_tl, e] at h1
  exact absurd h1 (by decide)
theorem Nms.tail {y : Str} {p : List Str} (h : Nms (y :: p)) : Nms p := fun z hz => h z (List.mem_cons_of_mem _ hz)
theorem Nms.app {p q : List Str} (hp : Nms p) (hq : Nms q) : Nms (p ++ q) := fun z hz => (List.mem_append.mp hz).elim (hp z) (hq z)
theorem Nms.left {p q : List Str} (h : Nms (p ++ q)) : Nms p := fun z hz => h z (List.mem_append_left _ hz)
theorem Nms.right {p q : List Str} (h : Nms (p ++ q)) : Nms q := fun z hz => h z (List.mem_append_right _ hz)
theorem jl_app : ∀ {q r : List Str}, q ≠ [] → r ≠ [] → jl (q ++ r) = jl q ++ 47 :: jl r
  | [], _, h, _ => absurd rfl h
  | [y], [], _, h => absurd rfl h
  | [y], z :: r, _, _ => rfl
  | y :: z :: q, r, _, hr => by
    have ih := jl_app (q := z :: q) (r := r) (by simp) hr
    show tl y ++ ([47] ++ jl (z :: q ++ r)) = (tl y ++ ([47] ++ jl (z :: q))) ++ 47 :: jl r
    rw [ih]
    simp
theorem jl_ne {p : List Str} (hp : Nms p) (h : p ≠ []) : jl p ≠ [] := by
  match p, h with
  | y :: r, _ =>
    intro e
    have hy := nm_ne (hp y List.mem_cons_self)
    cases r with
    | nil => exact hy e
    | cons z r =>
      have e2 : tl y ++ ([47] ++ jl (z :: r)) = [] := e
      exact hy (List.append_eq_nil_iff.mp e2).1
theorem split_js {p : List Str} (hp : Nms p) (h : p ≠ []) : Txt.split (js p) "/" = p :=
  split_join (s := 47) (S := []) tl_sl (by decide +kernel) h fun y hy => nm_free (hp y hy)
theorem js_nil : js [] = "" := rfl
theorem js_one (y : Str) : js [y] = y := ext_tl (by rw [tl_js]; rfl)
theorem js_ne {p : List Str} (hp : Nms p) (h : p ≠ []) : js p ≠ "" := fun e => by
  have e2 := congrArg tl e
  rw [tl_js] at e2
  exact jl_ne hp h e2
theorem js_inj {p q : List Str} (hp : Nms p) (hq : Nms q) (e : js p = js q) : p = q := by
  by_cases h1 : p = []
  · by_cases h2 : q = []
    · rw [h1, h2]
    · rw [h1] at e
      exact absurd e.symm (js_ne hq h2)
  · by_cases h2 : q = []
    · rw [h2] at e
      exact absurd e (js_ne hp h1)
    · rw [← split_js hp h1, e, split_js hq h2]
theorem js_eq {p q : List Str} (hp : Nms p) (hq : Nms q) : decide (js p = js q) = decide (p = q) := by
  by_cases h : p = q
  · rw [h]
    simp
  · rw [decide_eq_false h, decide_eq_false fun e => h (js_inj hp hq e)]
/-- strictly beneath -/
def ben (p q : List Str) : Bool := q.isPrefixOf p && decide (q.length < p.length)
theorem ben_iff {p q : List Str} : ben p q = true ↔ ∃ r, r ≠ [] ∧ p = q ++ r := by
  unfold ben
  rw [Bool.and_eq_true, List.isPrefixOf_iff_prefix, decide_eq_true_iff]
  constructor
  · rintro ⟨⟨r, rfl⟩, h⟩
    refine ⟨r, ?_, rfl⟩
    rintro rfl
    simp at h
  · rintro ⟨r, hr, rfl⟩
    refine ⟨⟨r, rfl⟩, ?_⟩
    have := List.length_pos_iff.mpr hr
    rw [List.length_append]
    omega
theorem spl_ne (S : List Nat) : ∀ (k : Nat) (acc l : List Nat), spl S k acc l ≠ []
  | k, acc, [] => by
    rw [spl_nil]
    simp
  | 0, acc, c :: r => by
    unfold spl
    by_cases h : pre S (c :: r) = true
    · rw [if_pos h]
      simp
    · rw [if_neg h]
      exact spl_ne S 0 _ r
  | k + 1, acc, _ :: r => spl_ne S k acc r
theorem spl_pre : ∀ {q : List Str} {t : List Nat}, q ≠ [] → Nms q → spl [47] 0 [] (jl q ++ 47 :: t) = q.map tl ++ spl [47] 0 [] t
  | [], _, h, _ => absurd rfl h
  | [y], t, _, hq => by
    have e := spl_part1 (s := 47) (S := []) (acc := []) (p := tl y) (rest := t) (nm_free (hq y List.mem_cons_self))
    exact e
  | y :: z :: r, t, _, hq => by
    have e := spl_part1 (s := 47) (S := []) (acc := []) (p := tl y) (rest := jl (z :: r) ++ 47 :: t) (nm_free (hq y List.mem_cons_self))
    have ih := spl_pre (q := z :: r) (t := t) (by simp) hq.tail
    have e2 : jl (y :: z :: r) ++ 47 :: t = tl y ++ ([47] ++ (jl (z :: r) ++ 47 :: t)) := by
      show tl y ++ ([47] ++ jl (z :: r)) ++ 47 :: t = _
      simp
    rw [e2]
    refine e.trans ?_
    rw [ih]
    rfl
theorem spl_js {p : List Str} (hp : Nms p) (h : p ≠ []) : spl [47] 0 [] (jl p) = p.map tl :=
  spl_join (s := 47) (S := []) (by simpa using h) fun z hz => by
    obtain ⟨y, hy, rfl⟩ := List.mem_map.mp hz
    exact nm_free (hp y hy)
theorem under {p q : List Str} (hp : Nms p) (hq : Nms q) (h : q ≠ []) : (jl q ++ [47]) <+: jl p ↔ ben p q = true := by
  rw [ben_iff]
  constructor
  · rintro ⟨t, e⟩
    have e1 : jl p = jl q ++ 47 :: t := by
      rw [← e]
      simp
    have hp0 : p ≠ [] := by
      rintro rfl
      have : ([] : List Nat) = jl q ++ 47 :: t := e1
      simp at this
    have e2 := spl_js hp hp0
    rw [e1, spl_pre h hq] at e2
    have e3 : (p.take q.length).map tl = q.map tl := by
      rw [List.map_take, ← e2]
      rw [show q.length = (q.map tl).length by rw [List.length_map], List.take_left']
      rfl
    have e4 := map_tl_inj e3
    refine ⟨p.drop q.length, ?_, ?_⟩
    · intro z
      have z2 : p.length ≤ q.length := List.drop_eq_nil_iff.mp z
      have z3 := congrArg List.length e2
      rw [List.length_append, List.length_map, List.length_map] at z3
      have z4 := List.length_pos_iff.mpr (spl_ne [47] 0 [] t)
      omega
    · conv => lhs; rw [← List.take_append_drop q.length p]
      rw [e4]
  · rintro ⟨r, hr, rfl⟩
    rw [jl_app h hr]
    exact ⟨jl r, by simp⟩
theorem sw_pre (x y : Str) : Txt.startswith x y = (tl y).isPrefixOf (tl x) := by
  show (decide (0 + y.length ≤ x.length) && Builtin.Str.subAt x y 0) = _
  rw [PySem.StrLaws.subAt_eq]
  apply Bool.eq_iff_iff.mpr
  rw [Bool.and_eq_true, List.isPrefixOf_iff_prefix, decide_eq_true_iff, List.drop_zero, beq_iff_eq, List.prefix_iff_eq_take]
  constructor
  · rintro ⟨_, h⟩
    rw [len_tl] at h
    exact h.symm
  · intro h
    refine ⟨?_, by rw [len_tl]; exact h.symm⟩
    have := congrArg List.length h
    rw [List.length_take] at this
    rw [len_tl, len_tl]
    omega
theorem sw_js {p q : List Str} (hp : Nms p) (hq : Nms q) (h : q ≠ []) : Txt.startswith (js p) (js q ++ "/") = ben p q := by
  rw [sw_pre, tl_append, tl_js, tl_js, tl_sl]
  apply Bool.eq_iff_iff.mpr
  rw [List.isPrefixOf_iff_prefix]
  exact under hp hq h
/-! slices -/
theorem tl_cutS (z : Str) (lo hi : Option Int) : tl (cutS z lo hi) = ((tl z).drop (HT.sIx z.length 0 lo)).take (HT.sIx z.length z.length hi - HT.sIx z.length 0 lo) := rfl
end W

set_option maxHeartbeats 3900000
namespace CB
open PySem PySem.Spec PyProof.Rows L2
/-! comprehensions whose turns add to the heap alone: one rule for all walks -/
theorem same_mk {H : Hp} {p : Addr} {o : HO} (h : H p = none) : Same H (upd H p o) := fun a u e => by
  rw [upd_ne (ne_of_none e h)]
  exact e
theorem same_ch {H H' : Hp} {p : Addr} {o : HO} (a : Same H H') (h : H p = none) : Same H (upd H' p o) := fun c u e => by
  rw [upd_ne (ne_of_none e h)]
  exact a c u e
section
variable {J : It} {n : Nat} {G : Hp → Prop} {Y : Nat → Hp → V → Hp → Prop} {j : Nat} {te : TE} {σ : L2.St} {H1 : Hp} {D : Addr} {Qd : Hp → Prop}
theorem wipe1 (x : V) : wipe ((wipe σ [j]).set j (some x)) [j] = wipe σ [j] := by
  show ((σ.set j none).set j (some x)).set j none = σ.set j none
  simp
theorem lcW (w : Walk J n G Y) (ys : List V) (hn : ys.length = n) (hs : n < 1000000) (hD : H1 D = none) (hG : ∀ H', Same H1 H' → G H')
    (turn : ∀ (i : Nat) (x y : V) (H2 H3 : Hp), ys[i]? = some y → Same H1 H2 → Y i H2 x H3 → ∀ Q1 : VK, (∀ H4, Same H2 H4 → Q1 y H4) → te ((wipe σ [j]).set j (some x)) H3 Q1)
    (hd : ∀ H', Same H1 H' → H' D = some (.lst ys) → Qd H') :
    ∃ W : Nat → Nat → Hp → Prop, (∃ m, W 0 m (upd H1 D (.lst []))) ∧ ∀ i m H, W i m H →
      (J.stop i H ∧ Qd H) ∨ (J.go i H ∧ ∃ Nx : Hp → Prop, (∀ H', Nx H' → ∃ m', m' < m ∧ W (i + 1) m' H') ∧ ∀ x H', J.yld i H x H' → gName j x (wipe σ [j]) H' fun σ2 H2 => wipe σ2 [j] = wipe σ [j] ∧ tYes σ2 H2 fun b H3 =>
        if b = true then te σ2 H3 fun y H4 => ∃ acc, H4 D = some (.lst acc) ∧ acc.length < sizeLine ∧ Nx (upd H4 D (.lst (acc ++ [y]))) else Nx H3) := by
  subst hn
  refine lc_it w (fun i H' => Same H1 H' ∧ H' D = some (.lst (ys.take i))) ⟨same_mk hD, upd_same⟩ (fun i H' _ q => hG H' q.1) ?_ ?_
  · rintro i x H2 H3 hi ⟨s2, hd2⟩ y
    have hy : ys[i]? = some ys[i] := List.getElem?_eq_getElem hi
    refine ⟨wipe1 x, ?_⟩
    refine turn i x ys[i] H2 H3 hy s2 y _ fun H4 s4 => ⟨_, s4 _ _ hd2, ?_, same_ch (s2.trans s4) hD, ?_⟩
    · rw [List.length_take]
      exact Nat.lt_of_lt_of_le (show min i ys.length < 1000000 by omega) (by decide)
    · rw [upd_same, List.take_succ, hy]
      rfl
  · rintro H' ⟨s, h⟩
    rw [List.take_length] at h
    exact hd H' s h
end
section
variable {K : PySem.W.Frag} {α : Type} {j : Nat} {te : TE} {σ : L2.St} {H1 : Hp} {D a : Addr} {Qd : Hp → Prop}
theorem map_two {α : Type} {zs : List α} {u g : α → V} {i : Nat} {x y : V} (hx : (zs.map u)[i]? = some x) (hy : (zs.map g)[i]? = some y) : ∃ z ∈ zs, x = u z ∧ y = g z := by
  rw [List.getElem?_map] at hx hy
  match e : zs[i]? with
  | none =>
    rw [e] at hx
    cases hx
  | some z =>
    rw [e] at hx hy
    cases hx
    cases hy
    exact ⟨z, List.mem_of_getElem? e, rfl, rfl⟩
theorem lc_mapL (zs : List α) (u g : α → V) (hs : zs.length < 1000000) (hD : H1 D = none) (ha : SqL K H1 a (zs.map u))
    (turn : ∀ z ∈ zs, ∀ H2, Same H1 H2 → ∀ Q1 : VK, (∀ H4, Same H2 H4 → Q1 (g z) H4) → te ((wipe σ [j]).set j (some (u z))) H2 Q1) (hd : ∀ H', Same H1 H' → H' D = some (.lst (zs.map g)) → Qd H') :
    ∃ W : Nat → Nat → Hp → Prop, (∃ m, W 0 m (upd H1 D (.lst []))) ∧ ∀ i m H, W i m H →
      ((Itl K a).stop i H ∧ Qd H) ∨ ((Itl K a).go i H ∧ ∃ Nx : Hp → Prop, (∀ H', Nx H' → ∃ m', m' < m ∧ W (i + 1) m' H') ∧ ∀ x H', (Itl K a).yld i H x H' → gName j x (wipe σ [j]) H' fun σ2 H2 => wipe σ2 [j] = wipe σ [j] ∧ tYes σ2 H2 fun b H3 =>
        if b = true then te σ2 H3 fun y H4 => ∃ acc, H4 D = some (.lst acc) ∧ acc.length < sizeLine ∧ Nx (upd H4 D (.lst (acc ++ [y]))) else Nx H3) := by
  refine lcW (walk_list (K := K) (a := a) (xs := zs.map u)) (zs.map g) (by rw [List.length_map, List.length_map]) (by rw [List.length_map]; exact hs) hD (fun H' s => s.seq ha) ?_ hd
  rintro i x y H2 H3 hy s ⟨rfl, hx⟩ Q1 k
  obtain ⟨z, hz, rfl, rfl⟩ := map_two hx hy
  exact turn z hz _ s Q1 k
theorem sameT {H H' : Hp} {xs : List V} (e : Same H H') (h : SqT K H a xs) : SqT K H' a xs := by
  rcases h with (h | ⟨o, h⟩) | h
  · exact .inl (.inl (e _ _ h))
  · exact .inl (.inr ⟨o, e _ _ h⟩)
  · exact .inr h
theorem lc_mapT (zs : List α) (u g : α → V) (hs : zs.length < 1000000) (hD : H1 D = none) (ha : SqT K H1 a (zs.map u))
    (turn : ∀ z ∈ zs, ∀ H2, Same H1 H2 → ∀ Q1 : VK, (∀ H4, Same H2 H4 → Q1 (g z) H4) → te ((wipe σ [j]).set j (some (u z))) H2 Q1) (hd : ∀ H', Same H1 H' → H' D = some (.lst (zs.map g)) → Qd H') :
    ∃ W : Nat → Nat → Hp → Prop, (∃ m, W 0 m (upd H1 D (.lst []))) ∧ ∀ i m H, W i m H →
      ((Itt K a).stop i H ∧ Qd H) ∨ ((Itt K a).go i H ∧ ∃ Nx : Hp → Prop, (∀ H', Nx H' → ∃ m', m' < m ∧ W (i + 1) m' H') ∧ ∀ x H', (Itt K a).yld i H x H' → gName j x (wipe σ [j]) H' fun σ2 H2 => wipe σ2 [j] = wipe σ [j] ∧ tYes σ2 H2 fun b H3 =>
        if b = true then te σ2 H3 fun y H4 => ∃ acc, H4 D = some (.lst acc) ∧ acc.length < sizeLine ∧ Nx (upd H4 D (.lst (acc ++ [y]))) else Nx H3) := by
  refine lcW (walk_tup (K := K) (a := a) (xs := zs.map u)) (zs.map g) (by rw [List.length_map, List.length_map]) (by rw [List.length_map]; exact hs) hD (fun H' s => sameT s ha) ?_ hd
  rintro i x y H2 H3 hy s ⟨rfl, hx⟩ Q1 k
  obtain ⟨z, hz, rfl, rfl⟩ := map_two hx hy
  exact turn z hz _ s Q1 k
theorem lc_mapS (z : Str) (g : Nat → V) (hs : z.length < 1000000) (hD : H1 D = none)
    (turn : ∀ c ∈ z.cps.toList, ∀ H2, Same H1 H2 → ∀ Q1 : VK, (∀ H4, Same H2 H4 → Q1 (g c) H4) → te ((wipe σ [j]).set j (some (.str ⟨#[c]⟩))) H2 Q1) (hd : ∀ H', Same H1 H' → H' D = some (.lst (z.cps.toList.map g)) → Qd H') :
    ∃ W : Nat → Nat → Hp → Prop, (∃ m, W 0 m (upd H1 D (.lst []))) ∧ ∀ i m H, W i m H →
      ((Its z).stop i H ∧ Qd H) ∨ ((Its z).go i H ∧ ∃ Nx : Hp → Prop, (∀ H', Nx H' → ∃ m', m' < m ∧ W (i + 1) m' H') ∧ ∀ x H', (Its z).yld i H x H' → gName j x (wipe σ [j]) H' fun σ2 H2 => wipe σ2 [j] = wipe σ [j] ∧ tYes σ2 H2 fun b H3 =>
        if b = true then te σ2 H3 fun y H4 => ∃ acc, H4 D = some (.lst acc) ∧ acc.length < sizeLine ∧ Nx (upd H4 D (.lst (acc ++ [y]))) else Nx H3) := by
  refine lcW (walk_str (z := z)) (z.cps.toList.map g) (by rw [List.length_map, Array.length_toList]) hs hD (fun _ _ => trivial) ?_ hd
  rintro i x y H2 H3 hy s ⟨rfl, c, hc, rfl⟩ Q1 k
  rw [List.getElem?_map, Array.getElem?_toList, hc] at hy
  cases hy
  exact turn c (by rw [Array.mem_toList_iff]; exact Array.mem_of_getElem? hc) _ s Q1 k
/-- all and any over such a list -/
theorem all_of {H : Hp} {Q : VK} (zs : List α) (f : α → Bool) (h : H D = some (.lst (zs.map fun z => .bl (f z)))) (q : Q (.bl (zs.all f)) H) : rAll K [.ref D] H Q :=
  ⟨D, zs.map f, rfl, SqL.of (by rw [h, List.map_map]; rfl), by rw [List.all_map]; exact q⟩
theorem any_of {H : Hp} {Q : VK} (zs : List α) (f : α → Bool) (h : H D = some (.lst (zs.map fun z => .bl (f z)))) (q : Q (.bl (zs.any f)) H) : rAny K [.ref D] H Q :=
  ⟨D, zs.map f, rfl, SqL.of (by rw [h, List.map_map]; rfl), by rw [List.any_map]; exact q⟩
end
/-! methods of built-in types beneath a comprehension's binder: the written part given by hand -/
section
variable {X : Cx} {o e : Expr} {es : List Expr} {to : TE} {t : TA} {name : Str} {apos cpos : Pos} {T id : String} {r : V → List V → Hp → VK → Prop}
theorem pe_bmK (K0 : PySem.W.Frag) (hK : X.K = K0) (pa : PlainAttrs T) (slot : Slot T name id) (hty : typeOf (.builtin id) = pure (.type "method_descriptor")) (hm : MtR X id r) (ho : PE X o to) (ha : PA X (e :: es) t)
    (hb : attributeBase o name X.env (eval o X.env) = eval o X.env := by rfl)
    (hf : ((backTo cpos (starEach (e :: es) X.env)).all (fun x => !x.1) && (backToKw cpos (keywordEach [] X.env)).all (fun x => x.1.isSome) && decide ((e :: es).length + ([] : List Keyword).length + (if ([] : List Keyword).isEmpty then 0 else 1) < 30)) = true := by rfl)
    (hl : (apos.endLine == cpos.line) = true := by rfl) (hs : starEach (e :: es) X.env = (false, eval e X.env) :: starEach es X.env := by rfl) (hp : (backTo cpos (starEach es X.env)).any (·.1) = false := by rfl) :
    PE X (.Call (.Attribute o name apos) (e :: es) [] cpos) (tBM K0 T r to t) := by
  subst hK
  exact pe_bm pa slot hty hm ho ha hb hf hl hs hp
theorem pe_bm0K (K0 : PySem.W.Frag) (hK : X.K = K0) (pa : PlainAttrs T) (slot : Slot T name id) (hty : typeOf (.builtin id) = pure (.type "method_descriptor")) (hm : MtR X id r) (ho : PE X o to)
    (hb : attributeBase o name X.env (eval o X.env) = eval o X.env := by rfl) (hl : (apos.endLine == cpos.line) = true := by rfl) : PE X (.Call (.Attribute o name apos) [] [] cpos) (tBM0 K0 T r to) := by
  subst hK
  exact pe_bm0 pa slot hty hm ho hb hl
end
section
variable {X : Cx} {K0 : PySem.W.Frag}
theorem pg_tupK {es : List Expr} {k : Nat} {t : TGs} {n : Nat} {pos : Pos} (hK : X.K = K0) (hc : X.calm = true) (h : PGs X es t) (hn : (assignEach es X.env).length = n := by rfl) (hs : (assignEach es X.env).findIdx? (·.1) = none := by rfl) : PG X (.Tuple es k pos) (gTup K0 n t) := by
  subst hK
  exact pg_tup hc h hn hs
theorem ix_listK (hK : X.K = K0) : IxR X (rIxL K0) := by
  subst hK
  exact ix_list
theorem ix_tupK (hK : X.K = K0) : IxR X (rIxT K0) := by
  subst hK
  exact ix_tup
theorem in_seqK (hK : X.K = K0) : OpR X (compareOp .In) (rIn K0 false) := by
  subst hK
  exact op_in_seq
theorem notIn_seqK (hK : X.K = K0) : OpR X (compareOp .NotIn) (rIn K0 true) := by
  subst hK
  exact op_notIn_seq
theorem eqDK (hK : X.K = K0) (hu : X.A.units + 64 < cLine) : OpR X (compareOp .Eq) (rEqD K0) := by
  subst hK
  exact op_eqD hu
theorem neDK (hK : X.K = K0) (hu : X.A.units + 64 < cLine) : OpR X (compareOp .NotEq) (rNeD K0) := by
  subst hK
  exact op_neD hu
end
/-! a row: a tuple or a list -/
def RowAt (H : Hp) (v : V) (xs : List V) : Prop := ∃ a, v = .ref a ∧ (H a = some (.tup xs) ∨ H a = some (.lst xs))
theorem RowAt.up {H H' : Hp} {v : V} {xs : List V} (h : RowAt H v xs) (s : Same H H') : RowAt H' v xs := by
  obtain ⟨a, e, h | h⟩ := h
  · exact ⟨a, e, .inl (s _ _ h)⟩
  · exact ⟨a, e, .inr (s _ _ h)⟩
def rIxRow : R2 := fun x y H Q => ∃ xs i v, RowAt H x xs ∧ y = .int i ∧ atI xs i = some v ∧ Q v H
def rLenRow : List V → Hp → VK → Prop := fun vs H Q => ∃ x xs, vs = [x] ∧ RowAt H x xs ∧ Q (.int (xs.length : Int)) H
/-- isinstance(x, (list, tuple)) -/
def LT (H : Hp) (v : V) (b : Bool) : Prop := (b = true ∧ ∃ xs, RowAt H v xs) ∨ (b = false ∧ (v = .non ∨ (∃ z, v = .str z) ∨ (∃ i, v = .int i) ∨ ∃ c, v = .bl c))
def rLT : List V → Hp → VK → Prop := fun vs H Q => ∃ v tp b, vs = [v, .ref tp] ∧ H tp = some (.tup [.ty "list", .ty "tuple"]) ∧ LT H v b ∧ Q (.bl b) H
def rTupRow : List V → Hp → VK → Prop := fun vs H Q => ∃ v xs, vs = [v] ∧ RowAt H v xs ∧ ∀ a H', Same H H' → H' a = some (.tup xs) → Q (.ref a) H'
section
variable {X : Cx}
theorem ix_row : IxR X rIxRow := by
  intro value slice pins s σ H x y v u Q I rx ry h hs
  obtain ⟨xs, i, w, ⟨a, rfl, h1 | h1⟩, rfl, ha, q⟩ := h
  · exact ix_tup (X := X) value slice pins s σ H _ _ v u Q I rx ry ⟨a, xs, i, w, rfl, rfl, SqT.of h1, ha, q⟩ hs
  · exact ix_list (X := X) value slice pins s σ H _ _ v u Q I rx ry ⟨a, xs, i, w, rfl, rfl, SqL.of h1, ha, q⟩ hs
theorem call_len_row : CallR X (.builtin "len") rLenRow := by
  intro pins s σ H xs us Q I r h
  obtain ⟨x, ys, rfl, ⟨a, rfl, h1 | h1⟩, q⟩ := h
  · exact call_len_seq (X := X) pins s σ H _ us Q I r ⟨a, ys, rfl, .inr (SqT.of h1), q⟩
  · exact call_len_seq (X := X) pins s σ H _ us Q I r ⟨a, ys, rfl, .inl (SqL.of h1), q⟩
theorem kitLT {K : PySem.W.Frag} {n : String} {b c : Bool} (h1 : kitB n "list" = some b) (h2 : kitB n "tuple" = some c) : PySem.W.kitAny K (.type n) [.type "list", .type "tuple"] = some (b || c) :=
  kitAny_cons (kit_ty h1) (fun e => by
    subst e
    exact kitAny_cons (kit_ty h2) (fun e2 => by
      subst e2
      exact kitAny_nil) (fun e2 => by
      subst e2
      rfl)) (fun e => by
    subst e
    rfl)
theorem isi_LT : CallR X (.builtin "isinstance") rLT := by
  intro pins s σ H xs us Q I r h
  obtain ⟨v, tp, b, rfl, ht, hl, q⟩ := h
  have go : ∀ (n : String) (c : Bool), TyX X.K H v (.type n) → PySem.W.kitAny X.K (.type n) [.type "list", .type "tuple"] = some c → Q (.bl c) H → wpAny (model X.prog X.w) X.A (call (.builtin "isinstance") us) (EP X pins σ Q) X.xe s := fun n c t k q =>
    call_isiT (X := X) pins s σ H _ us Q I r ⟨v, tp, _, .type n, [.type "list", .type "tuple"], c, rfl, ht, .cons (.ty "list") (.cons (.ty "tuple") .nil), t, k, q⟩
  rcases hl with ⟨rfl, ys, a, rfl, h1 | h1⟩ | ⟨rfl, rfl | ⟨z, rfl⟩ | ⟨i, rfl⟩ | ⟨c, rfl⟩⟩
  · exact go "tuple" true (.base (.tup h1)) (kitLT (b := false) (c := true) (by decide +kernel) (by decide +kernel)) q
  · exact go "list" true (.base (.lst h1)) (kitLT (b := true) (c := false) (by decide +kernel) (by decide +kernel)) q
  · exact go "NoneType" false (.base .non) (kitLT (b := false) (c := false) (by decide +kernel) (by decide +kernel)) q
  · exact go "str" false (.base (.str z)) (kitLT (b := false) (c := false) (by decide +kernel) (by decide +kernel)) q
  · exact go "int" false (.base (.int i)) (kitLT (b := false) (c := false) (by decide +kernel) (by decide +kernel)) q
  · exact go "bool" false (.base (.bl c)) (kitLT (b := false) (c := false) (by decide +kernel) (by decide +kernel)) q
theorem call_tup_row : CallR X (.type "tuple") rTupRow := by
  intro pins s σ H xs us Q I r h
  obtain ⟨v, ys, rfl, ⟨a, rfl, h1 | h1⟩, q⟩ := h
  · exact call_tuple_of (X := X) pins s σ H _ us Q I r ⟨a, ys, rfl, .inr ⟨SqT.of h1, q a H (Same.refl H) h1⟩⟩
  · exact call_tuple_of (X := X) pins s σ H _ us Q I r ⟨a, ys, rfl, .inl ⟨SqL.of h1, fun l hl => q l _ (same_mk hl) upd_same⟩⟩
/-- a walk over a name that holds a tuple or a list -/
def iSeqV (K : PySem.W.Frag) (i : Nat) : TI := fun σ H R => ∃ a, σ[i]? = some (some (.ref a)) ∧ ((∃ xs, SqT K H a xs ∧ R (Itt K a) H) ∨ ∃ xs, SqL K H a xs ∧ R (Itl K a) H)
theorem pi_seqv {tg l : Expr} {i : Nat} (hl : PE X l (tVar i)) : PI X tg l (iSeqV X.K i) := by
  refine ⟨fun pins s σ H R I h => ?_⟩
  obtain ⟨a, ha, ⟨xs, q, r⟩ | ⟨xs, q, r⟩⟩ := h
  · exact (pi_tup hl).run pins s σ H R I ⟨_, ha, a, rfl, ⟨xs, q⟩, r⟩
  · exact (pi_list hl).run pins s σ H R I ⟨_, ha, a, rfl, ⟨xs, q⟩, r⟩
end
section
variable {K : PySem.W.Frag} {α : Type} {i j : Nat} {te : TE} {σ : L2.St} {H : Hp} {v : V} {Q : VK}
theorem lc_row (zs : List α) (u g : α → V) (hi : σ[i]? = some (some v)) (h : RowAt H v (zs.map u)) (hs : zs.length < 1000000)
    (turn : ∀ z ∈ zs, ∀ H2, Same H H2 → ∀ Q1 : VK, (∀ H4, Same H2 H4 → Q1 (g z) H4) → te ((wipe σ [j]).set j (some (u z))) H2 Q1) (hd : ∀ D H', Same H H' → H D = none → H' D = some (.lst (zs.map g)) → Q (.ref D) H') :
    tLc (iSeqV K i) (gName j) tYes te [j] σ H Q := by
  obtain ⟨a, rfl, h1 | h1⟩ := h
  · exact ⟨a, hi, .inl ⟨_, SqT.of h1, fun D hD => lc_mapT zs u g hs hD (SqT.of h1) turn fun H' s h2 => hd D H' s hD h2⟩⟩
  · exact ⟨a, hi, .inr ⟨_, SqL.of h1, fun D hD => lc_mapL zs u g hs hD (SqL.of h1) turn fun H' s h2 => hd D H' s hD h2⟩⟩
theorem all_row (zs : List α) (u : α → V) (f : α → Bool) (hi : σ[i]? = some (some v)) (h : RowAt H v (zs.map u)) (hs : zs.length < 1000000)
    (turn : ∀ z ∈ zs, ∀ H2, Same H H2 → ∀ Q1 : VK, (∀ H4, Same H2 H4 → Q1 (.bl (f z)) H4) → te ((wipe σ [j]).set j (some (u z))) H2 Q1) (hd : ∀ H', Same H H' → Q (.bl (zs.all f)) H') :
    tCB (rAll K) (tCons (tLc (iSeqV K i) (gName j) tYes te [j]) tNil) σ H Q := by
  show tLc (iSeqV K i) (gName j) tYes te [j] σ H fun v H1 => rAll K [v] H1 Q
  exact lc_row zs u (fun z => .bl (f z)) hi h hs turn fun D H' s _ hD => all_of zs f hD (hd H' s)
theorem any_row (zs : List α) (u : α → V) (f : α → Bool) (hi : σ[i]? = some (some v)) (h : RowAt H v (zs.map u)) (hs : zs.length < 1000000)
    (turn : ∀ z ∈ zs, ∀ H2, Same H H2 → ∀ Q1 : VK, (∀ H4, Same H2 H4 → Q1 (.bl (f z)) H4) → te ((wipe σ [j]).set j (some (u z))) H2 Q1) (hd : ∀ H', Same H H' → Q (.bl (zs.any f)) H') :
    tCB (rAny K) (tCons (tLc (iSeqV K i) (gName j) tYes te [j]) tNil) σ H Q := by
  show tLc (iSeqV K i) (gName j) tYes te [j] σ H fun v H1 => rAny K [v] H1 Q
  exact lc_row zs u (fun z => .bl (f z)) hi h hs turn fun D H' s _ hD => any_of zs f hD (hd H' s)
theorem set_row {y : Nat} {D0 : Ends} (zs : List α) (u g : α → V) (hi : σ[i]? = some (some v)) (h : RowAt H v (zs.map u)) (hs : zs.length < 1000000)
    (turn : ∀ z ∈ zs, ∀ H2, Same H H2 → ∀ Q1 : VK, (∀ H4, Same H2 H4 → Q1 (g z) H4) → te ((wipe σ [j]).set j (some (u z))) H2 Q1) (hd : ∀ D H', Same H H' → H D = none → H' D = some (.lst (zs.map g)) → D0.nx (σ.set y (some (.ref D))) H') :
    tAsg (tLc (iSeqV K i) (gName j) tYes te [j]) (gName y) D0 σ H := by
  show tLc (iSeqV K i) (gName j) tYes te [j] σ H fun x H1 => D0.nx (σ.set y (some x)) H1
  exact lc_row zs u g hi h hs turn hd
theorem iteY {c A B : Prop} [Decidable c] (h : c) (a : A) : if decide c = true then A else B := by
  rw [if_pos (decide_eq_true h)]
  exact a
theorem iteN {c A B : Prop} [Decidable c] (h : ¬ c) (b : B) : if decide c = true then A else B := by
  rw [if_neg (by rw [decide_eq_false h]; exact Bool.false_ne_true)]
  exact b
theorem cut_1 (xs : List V) : cutV xs (some 1) none = xs.drop 1 := by
  show (xs.drop (HT.sIx xs.length 0 (some ((1 : Nat) : Int)))).take (HT.sIx xs.length xs.length none - HT.sIx xs.length 0 (some ((1 : Nat) : Int))) = xs.drop 1
  rw [HT.sIx_nat, HT.sIx_none]
  by_cases h : 1 ≤ xs.length
  · rw [Nat.min_eq_left h, List.take_of_length_le (by rw [List.length_drop]; exact Nat.le_refl _)]
  · rw [List.drop_eq_nil_of_le (by omega), List.drop_eq_nil_of_le (by omega)]
    exact List.take_nil
end
/-! two names for each item: zip, enumerate -/
section
variable {J : It} {n : Nat} {G : Hp → Prop} {fx fy : Nat → Option V} {i j : Nat} {te : TE} {σ : L2.St} {H1 : Hp} {D : Addr} {Qd : Hp → Prop} {K : PySem.W.Frag}
theorem wipe2 (hij : i ≠ j) (x y : V) : wipe (((wipe σ [i, j]).set i (some x)).set j (some y)) [i, j] = wipe σ [i, j] := by
  show (((((σ.set j none).set i none).set i (some x)).set j (some y)).set j none).set i none = (σ.set j none).set i none
  rw [List.set_set, List.set_set, List.set_comm _ _ hij, List.set_set, List.set_set]
theorem lcW2 (w : Walk J n G (YPair fx fy)) (hij : i ≠ j) (ys : List V) (hn : ys.length = n) (hs : n < 1000000) (hD : H1 D = none) (hG : ∀ H', Same H1 H' → G H')
    (turn : ∀ (m : Nat) (x x' y : V) (H2 : Hp), ys[m]? = some y → fx m = some x → fy m = some x' → Same H1 H2 → ∀ Q1 : VK, (∀ H4, Same H2 H4 → Q1 y H4) → te (((wipe σ [i, j]).set i (some x)).set j (some x')) H2 Q1)
    (hd : ∀ H', Same H1 H' → H' D = some (.lst ys) → Qd H') :
    ∃ W : Nat → Nat → Hp → Prop, (∃ m, W 0 m (upd H1 D (.lst []))) ∧ ∀ k m H, W k m H →
      (J.stop k H ∧ Qd H) ∨ (J.go k H ∧ ∃ Nx : Hp → Prop, (∀ H', Nx H' → ∃ m', m' < m ∧ W (k + 1) m' H') ∧ ∀ x H', J.yld k H x H' → gTup K 2 (gCons (gName i) (gCons (gName j) gNil)) x (wipe σ [i, j]) H' fun σ2 H2 => wipe σ2 [i, j] = wipe σ [i, j] ∧ tYes σ2 H2 fun b H3 =>
        if b = true then te σ2 H3 fun y H4 => ∃ acc, H4 D = some (.lst acc) ∧ acc.length < sizeLine ∧ Nx (upd H4 D (.lst (acc ++ [y]))) else Nx H3) := by
  subst hn
  refine lc_it w (fun i H' => Same H1 H' ∧ H' D = some (.lst (ys.take i))) ⟨same_mk hD, upd_same⟩ (fun i H' _ q => hG H' q.1) ?_ ?_
  · rintro m x H2 H3 hi ⟨s2, hd2⟩ ⟨T, x1, x2, rfl, hT, rfl, e1, e2⟩
    have hy : ys[m]? = some ys[m] := List.getElem?_eq_getElem hi
    refine ⟨T, _, rfl, SqT.of upd_same, rfl, x1, _, rfl, x2, _, rfl, rfl, wipe2 hij x1 x2, ?_⟩
    have s3 : Same H2 (upd H2 T (.tup [x1, x2])) := same_mk hT
    refine turn m x1 x2 ys[m] _ hy e1 e2 (s2.trans s3) _ fun H4 s4 => ⟨_, s4 _ _ (s3 _ _ hd2), ?_, same_ch ((s2.trans s3).trans s4) hD, ?_⟩
    · rw [List.length_take]
      exact Nat.lt_of_lt_of_le (show min m ys.length < 1000000 by omega) (by decide)
    · rw [upd_same, List.take_succ, hy]
      rfl
  · rintro H' ⟨s, h⟩
    rw [List.take_length] at h
    exact hd H' s h
end
/-! values told by what is true of them, where only tuples count -/
section
variable {J : It} {n : Nat} {G : Hp → Prop} {Y : Nat → Hp → V → Hp → Prop} {j : Nat} {te : TE} {σ : L2.St} {H1 : Hp} {D : Addr} {Qd : Hp → Prop}
def TupS (H H' : Hp) : Prop := ∀ b xs, H b = some (.tup xs) → H' b = some (.tup xs)
theorem TupS.of {H H' : Hp} (s : Same H H') : TupS H H' := fun b xs h => s b _ h
theorem lcR (w : Walk J n G Y) (R : Nat → V → Hp → Prop) (mono : ∀ i y H H', TupS H H' → R i y H → R i y H') (hs : n < 1000000) (hD : H1 D = none) (hG : ∀ H', Same H1 H' → G H')
    (turn : ∀ (i : Nat) (x : V) (H2 H3 : Hp), i < n → Same H1 H2 → Y i H2 x H3 → ∀ Q1 : VK, (∀ y H4, Same H2 H4 → R i y H4 → Q1 y H4) → te ((wipe σ [j]).set j (some x)) H3 Q1)
    (hd : ∀ ys H', ys.length = n → Same H1 H' → H' D = some (.lst ys) → (∀ i y, ys[i]? = some y → R i y H') → Qd H') :
    ∃ W : Nat → Nat → Hp → Prop, (∃ m, W 0 m (upd H1 D (.lst []))) ∧ ∀ i m H, W i m H →
      (J.stop i H ∧ Qd H) ∨ (J.go i H ∧ ∃ Nx : Hp → Prop, (∀ H', Nx H' → ∃ m', m' < m ∧ W (i + 1) m' H') ∧ ∀ x H', J.yld i H x H' → gName j x (wipe σ [j]) H' fun σ2 H2 => wipe σ2 [j] = wipe σ [j] ∧ tYes σ2 H2 fun b H3 =>
        if b = true then te σ2 H3 fun y H4 => ∃ acc, H4 D = some (.lst acc) ∧ acc.length < sizeLine ∧ Nx (upd H4 D (.lst (acc ++ [y]))) else Nx H3) := by
  refine lc_it w (fun i H' => Same H1 H' ∧ ∃ ys, ys.length = i ∧ H' D = some (.lst ys) ∧ ∀ m y, ys[m]? = some y → R m y H') ⟨same_mk hD, [], rfl, upd_same, fun m y h => by cases h⟩ (fun i H' _ q => hG H' q.1) ?_ ?_
  · rintro i x H2 H3 hi ⟨s2, ys, hl, hd2, hr⟩ y
    refine ⟨wipe1 x, ?_⟩
    refine turn i x H2 H3 hi s2 y _ fun v H4 s4 r => ?_
    have hd4 := s4 _ _ hd2
    have up : TupS H4 (upd H4 D (.lst (ys ++ [v]))) := fun b xs h => by
      rw [upd_ne (ne_of h hd4 (by intro z; cases z))]
      exact h
    refine ⟨_, hd4, Nat.lt_of_lt_of_le (show ys.length < 1000000 by omega) (by decide), same_ch (s2.trans s4) hD, ys ++ [v], by rw [List.length_append, hl]; rfl, upd_same, fun m z hm => ?_⟩
    by_cases e : m < ys.length
    · rw [List.getElem?_append_left e] at hm
      exact mono _ _ _ _ up (mono _ _ _ _ (TupS.of s4) (hr m z hm))
    · rw [List.getElem?_append_right (by omega)] at hm
      have e2 : m = ys.length := by
        have := (List.getElem?_eq_some_iff.mp hm).1
        rw [List.length_singleton] at this
        omega
      subst e2
      rw [Nat.sub_self] at hm
      cases hm
      rw [hl]
      exact mono _ _ _ _ up r
  · rintro H' ⟨s, ys, hl, h, hr⟩
    exact hd ys H' hl s h hr
end
section
variable {K : PySem.W.Frag} {i j : Nat} {te : TE} {σ : L2.St} {H : Hp} {v : V} {Q : VK}
theorem lcR_row (xs : List V) (R : Nat → V → Hp → Prop) (mono : ∀ i y H H', TupS H H' → R i y H → R i y H') (hi : σ[i]? = some (some v)) (h : RowAt H v xs) (hs : xs.length < 1000000)
    (turn : ∀ (m : Nat) (x : V) (H2 : Hp), xs[m]? = some x → Same H H2 → ∀ Q1 : VK, (∀ y H4, Same H2 H4 → R m y H4 → Q1 y H4) → te ((wipe σ [j]).set j (some x)) H2 Q1)
    (hd : ∀ D ys H', ys.length = xs.length → Same H H' → H D = none → H' D = some (.lst ys) → (∀ i y, ys[i]? = some y → R i y H') → Q (.ref D) H') : tLc (iSeqV K i) (gName j) tYes te [j] σ H Q := by
  obtain ⟨a, rfl, h1 | h1⟩ := h
  · refine ⟨a, hi, .inl ⟨_, SqT.of h1, fun D hD => lcR (walk_tup (K := K) (a := a) (xs := xs)) R mono hs hD (fun H' s => sameT s (SqT.of h1)) ?_ fun ys H' l s h2 r => hd D ys H' l s hD h2 r⟩⟩
    rintro m x H2 H3 hm s ⟨rfl, hx⟩ Q1 k
    exact turn m x _ hx s Q1 k
  · refine ⟨a, hi, .inr ⟨_, SqL.of h1, fun D hD => lcR (walk_list (K := K) (a := a) (xs := xs)) R mono hs hD (fun H' s => s.seq (SqL.of h1)) ?_ fun ys H' l s h2 r => hd D ys H' l s hD h2 r⟩⟩
    rintro m x H2 H3 hm s ⟨rfl, hx⟩ Q1 k
    exact turn m x _ hx s Q1 k
theorem setR_row {y : Nat} {D0 : Ends} (xs : List V) (R : Nat → V → Hp → Prop) (mono : ∀ i y H H', TupS H H' → R i y H → R i y H') (hi : σ[i]? = some (some v)) (h : RowAt H v xs) (hs : xs.length < 1000000)
    (turn : ∀ (m : Nat) (x : V) (H2 : Hp), xs[m]? = some x → Same H H2 → ∀ Q1 : VK, (∀ y H4, Same H2 H4 → R m y H4 → Q1 y H4) → te ((wipe σ [j]).set j (some x)) H2 Q1)
    (hd : ∀ D ys H', ys.length = xs.length → Same H H' → H D = none → H' D = some (.lst ys) → (∀ i y, ys[i]? = some y → R i y H') → D0.nx (σ.set y (some (.ref D))) H') : tAsg (tLc (iSeqV K i) (gName j) tYes te [j]) (gName y) D0 σ H := by
  show tLc (iSeqV K i) (gName j) tYes te [j] σ H fun x H1 => D0.nx (σ.set y (some x)) H1
  exact lcR_row xs R mono hi h hs turn hd
end
end CB

set_option maxHeartbeats 3900000
namespace W
open PySem PySem.Spec PyProof.Rows L2 TL
theorem cut_from (z : Str) (n : Nat) : tl (cutS z (some (n : Int)) none) = (tl z).drop n := by
  rw [tl_cutS, HT.sIx_nat, HT.sIx_none, len_tl]
  rw [List.take_of_length_le (by rw [List.length_drop]; exact Nat.le_refl _)]
  by_cases h : n ≤ (tl z).length
  · rw [Nat.min_eq_left h]
  · rw [Nat.min_eq_right (by omega), List.drop_eq_nil_of_le (Nat.le_refl _), List.drop_eq_nil_of_le (by omega)]
theorem cut_to (z : Str) (n : Nat) : tl (cutS z none (some (n : Int))) = (tl z).take n := by
  rw [tl_cutS, HT.sIx_nat, HT.sIx_none, List.drop_zero, Nat.sub_zero, len_tl]
  by_cases h : n ≤ (tl z).length
  · rw [Nat.min_eq_left h]
  · rw [Nat.min_eq_right (by omega), List.take_of_length_le (Nat.le_refl _), List.take_of_length_le (by omega)]
theorem cut_last (z : Str) : tl (cutS z (some (-1)) none) = (tl z).drop ((tl z).length - 1) := by
  rw [tl_cutS, HT.sIx_none, len_tl]
  have e : HT.sIx (tl z).length 0 (some (-1)) = (tl z).length - 1 := by
    show (if (-1 : Int) < 0 then ((-1 : Int) + ((tl z).length : Int)).toNat else min (-1 : Int).toNat (tl z).length) = _
    rw [if_pos (by decide)]
    omega
  rw [e]
  rw [List.take_of_length_le (by rw [List.length_drop]; exact Nat.le_refl _)]
/-- what all beneath begins with -/
def bg (p : List Str) : Str := if p = [] then "" else js p ++ "/"
theorem bg_str (p : List Str) (hp : Nms p) : (if decide (js p = "") = true then ("" : Str) else js p ++ "/") = bg p := by
  unfold bg
  by_cases h : p = []
  · rw [if_pos h, h]
    rfl
  · rw [if_neg h, decide_eq_false (js_ne hp h)]
    rfl
theorem sw_bg {p q : List Str} (hp : Nms p) (hq : Nms q) : (decide (p ≠ q) && Txt.startswith (js p) (bg q)) = ben p q := by
  unfold bg
  by_cases h : q = []
  · rw [if_pos h, h, sw_pre]
    have e : tl ("" : Str) = [] := rfl
    rw [e]
    unfold ben
    cases p with
    | nil => rfl
    | cons y r => simp
  · rw [if_neg h, sw_js hp hq h]
    by_cases e : p = q
    · rw [e]
      simp [ben]
    · rw [decide_eq_true e, Bool.true_and]
theorem jl_drop {q r : List Str} (hq : q ≠ []) (hr : r ≠ []) : (jl (q ++ r)).drop ((jl q).length + 1) = jl r := by
  rw [jl_app hq hr]
  rw [show jl q ++ 47 :: jl r = (jl q ++ [47]) ++ jl r by simp]
  rw [show (jl q).length + 1 = (jl q ++ [47]).length by simp, List.drop_left']
  rfl
theorem bg_len (q : List Str) : (bg q).length = if q = [] then 0 else (jl q).length + 1 := by
  unfold bg
  by_cases h : q = []
  · rw [if_pos h, if_pos h]
    rfl
  · rw [if_neg h, if_neg h, len_tl, tl_append, tl_js, tl_sl]
    simp
theorem rest_bg (q : List Str) {r : List Str} (hr : r ≠ []) : cutS (js (q ++ r)) (some ((bg q).length : Int)) none = js r := by
  refine ext_tl ?_
  rw [cut_from, tl_js, tl_js, bg_len]
  by_cases h : q = []
  · rw [if_pos h, h]
    rfl
  · rw [if_neg h, jl_drop h hr]
theorem head_bg {p q : List Str} (hp : Nms p) (hq : Nms q) (h : q ≠ []) : decide (cutS (js p) none (some (((js q).length + 1 : Nat) : Int)) = js q ++ "/") = ben p q := by
  have e9 : (jl q ++ [47]).length = (jl q).length + 1 := by simp
  have e : (cutS (js p) none (some (((js q).length + 1 : Nat) : Int)) = js q ++ "/") ↔ (jl q ++ [47]) <+: jl p := by
    rw [List.prefix_iff_eq_take]
    constructor
    · intro z
      have z2 := congrArg tl z
      rw [cut_to, tl_append, tl_js, tl_js, tl_sl, len_tl, tl_js] at z2
      rw [e9]
      exact z2.symm
    · intro z
      refine ext_tl ?_
      rw [cut_to, tl_append, tl_js, tl_js, tl_sl, len_tl, tl_js]
      rw [e9] at z
      exact z.symm
  rw [decide_eq_decide.mpr e]
  apply Bool.eq_iff_iff.mpr
  rw [decide_eq_true_iff]
  exact under hp hq h
theorem js_cons (y : Str) {r : List Str} (h : r ≠ []) : js (y :: r) = y ++ "/" ++ js r := by
  refine ext_tl ?_
  rw [tl_js, tl_append, tl_append, tl_js, tl_sl]
  show jl ([y] ++ r) = _
  rw [jl_app (by simp) h]
  show tl y ++ 47 :: jl r = _
  simp
theorem js_app {q r : List Str} (hq : q ≠ []) (hr : r ≠ []) : js (q ++ r) = js q ++ "/" ++ js r := by
  refine ext_tl ?_
  rw [tl_js, tl_append, tl_append, tl_js, tl_js, tl_sl, jl_app hq hr]
  simp
theorem bg_app (q : List Str) {r : List Str} (hr : r ≠ []) : bg q ++ js r = js (q ++ r) := by
  unfold bg
  by_cases h : q = []
  · rw [if_pos h, h]
    exact ext_tl (by rw [tl_append]; rfl)
  · rw [if_neg h, js_app h hr]
theorem part_js {y : Str} {r : List Str} (hy : IsNm y) : Txt.partition (js (y :: r)) "/" = if r = [] then (y, ("" : Str), ("" : Str)) else (y, ("/" : Str), js r) := by
  by_cases h : r = []
  · rw [if_pos h, h, js_one]
    exact partition_none tl_sl (nm_free hy)
  · rw [if_neg h, js_cons y h]
    exact partition_app tl_sl (nm_free hy)
/-! entries -/
def ent (n : Str) (b : Bool) : Str := if b = true then n ++ "/" else n
theorem tl_ent (n : Str) (b : Bool) : tl (ent n b) = tl n ++ if b = true then [47] else [] := by
  unfold ent
  cases b
  · simp
  · rw [if_pos rfl, tl_append, tl_sl, if_pos rfl]
theorem ent_inj {n m : Str} {b c : Bool} (hn : IsNm n) (hm : IsNm m) (e : ent n b = ent m c) : n = m ∧ b = c := by
  have h := congrArg tl e
  rw [tl_ent, tl_ent] at h
  cases b <;> cases c
  · simp only [Bool.false_eq_true, if_false, List.append_nil] at h
    exact ⟨ext_tl h, rfl⟩
  · simp only [Bool.false_eq_true, if_false, List.append_nil, if_true] at h
    exact absurd (by rw [h]; simp) (nm_free hn)
  · simp only [Bool.false_eq_true, if_false, List.append_nil, if_true] at h
    exact absurd (by rw [← h]; simp) (nm_free hm)
  · simp only [if_true] at h
    exact ⟨ext_tl (List.append_cancel_right h), rfl⟩
theorem ent_eq {n m : Str} {b c : Bool} (hn : IsNm n) (hm : IsNm m) : decide (ent n b = ent m c) = decide ((n, b) = (m, c)) := by
  by_cases e : ent n b = ent m c
  · obtain ⟨e1, e2⟩ := ent_inj hn hm e
    subst e1
    subst e2
    simp
  · rw [decide_eq_false e, decide_eq_false]
    intro z
    cases z
    exact e rfl
theorem ew (x y : Str) : Txt.endswith x y = (decide ((tl y).length ≤ (tl x).length) && decide ((tl x).drop ((tl x).length - (tl y).length) = tl y)) := by
  show (decide (0 + y.length ≤ x.length) && Builtin.Str.subAt x y (x.length - y.length)) = _
  rw [PySem.StrLaws.subAt_eq, len_tl, len_tl, Nat.zero_add]
  by_cases h : (tl y).length ≤ (tl x).length
  · rw [decide_eq_true h, Bool.true_and, Bool.true_and]
    have e : (((tl x).drop ((tl x).length - (tl y).length)).take (tl y).length) = (tl x).drop ((tl x).length - (tl y).length) := List.take_of_length_le (by rw [List.length_drop]; omega)
    have e5 : (((tl x).drop ((tl x).length - (tl y).length)).take (tl y).length == tl y) = ((tl x).drop ((tl x).length - (tl y).length) == tl y) := by rw [e]
    refine e5.trans ?_
    apply Bool.eq_iff_iff.mpr
    rw [beq_iff_eq, decide_eq_true_iff]
  · rw [decide_eq_false h]
    rfl
theorem last_drop (u : List Nat) (c : Nat) : (u ++ [c]).drop ((u ++ [c]).length - 1) = [c] := by
  rw [show (u ++ [c]).length - 1 = u.length by simp, List.drop_left']
  rfl
theorem last_free {u : List Nat} (h : 47 ∉ u) : u.drop (u.length - 1) ≠ [47] := fun e => h (by
  have : 47 ∈ u.drop (u.length - 1) := by
    rw [e]
    simp
  exact List.mem_of_mem_drop this)
theorem ew_ent {n : Str} (hn : IsNm n) (b : Bool) : Txt.endswith (ent n b) "/" = b := by
  rw [ew, tl_sl, tl_ent]
  cases b
  · simp only [Bool.false_eq_true, if_false, List.append_nil]
    rw [decide_eq_false (p := (tl n).drop ((tl n).length - [47].length) = [47]) (last_free (nm_free hn)), Bool.and_false]
  · simp only [if_true]
    rw [decide_eq_true (by simp), Bool.true_and]
    exact decide_eq_true (last_drop _ _)
theorem cut_ent {n : Str} (hn : IsNm n) (b : Bool) : decide (cutS (ent n b) (some (-1)) none = "/") = b := by
  cases b
  · refine decide_eq_false fun e => ?_
    have e2 := congrArg tl e
    rw [cut_last, tl_ent, tl_sl] at e2
    simp only [Bool.false_eq_true, if_false, List.append_nil] at e2
    exact last_free (nm_free hn) e2
  · refine decide_eq_true (ext_tl ?_)
    rw [cut_last, tl_ent, tl_sl]
    simp only [if_true]
    exact last_drop _ _
theorem tl_sub (x : Str) (i j : Nat) : tl (Builtin.Str.strSub x i j) = ((tl x).drop i).take (j - i) := tl_strSub x i j
theorem rms {x y : Str} (h : Txt.endswith x y = true) : tl (Txt.removesuffix x y) = (tl x).take ((tl x).length - (tl y).length) := by
  have h2 : (decide (y.length ≤ x.length) && Builtin.Str.subAt x y (x.length - y.length)) = true := by
    rw [← h]
    show _ = (decide (0 + y.length ≤ x.length) && Builtin.Str.subAt x y (x.length - y.length))
    rw [Nat.zero_add]
  show tl (Txt.affix x (if (decide (y.length ≤ x.length) && Builtin.Str.subAt x y (x.length - y.length)) = true then some (0, x.length - y.length) else none)) = _
  rw [if_pos h2]
  show tl (if x.length - y.length - 0 == x.length then x else Builtin.Str.strSub x 0 (x.length - y.length)) = _
  rw [len_tl, len_tl]
  by_cases e : ((tl x).length - (tl y).length - 0 == (tl x).length) = true
  · rw [if_pos e]
    rw [beq_iff_eq] at e
    rw [List.take_of_length_le (by omega)]
  · rw [if_neg e, tl_sub, List.drop_zero]
    rfl
theorem rms_no {x y : Str} (h : Txt.endswith x y = false) : Txt.removesuffix x y = x := by
  have h2 : (decide (y.length ≤ x.length) && Builtin.Str.subAt x y (x.length - y.length)) = false := by
    rw [← h]
    show _ = (decide (0 + y.length ≤ x.length) && Builtin.Str.subAt x y (x.length - y.length))
    rw [Nat.zero_add]
  show Txt.affix x (if (decide (y.length ≤ x.length) && Builtin.Str.subAt x y (x.length - y.length)) = true then some (0, x.length - y.length) else none) = _
  rw [if_neg (by rw [h2]; simp)]
  rfl
theorem rms_ent {n : Str} (hn : IsNm n) (b : Bool) : Txt.removesuffix (ent n b) "/" = n := by
  cases b
  · exact rms_no (ew_ent hn false)
  · refine ext_tl ?_
    rw [rms (ew_ent hn true), tl_ent, tl_sl]
    simp
/-! strip -/
theorem tw_free {u r : List Nat} (h0 : u.head? ≠ some 47) (h : u ≠ []) : (u ++ r).takeWhile (fun c => c == 47) = [] := by
  match u, h with
  | c :: u, _ =>
    rw [List.cons_append, List.takeWhile_cons_of_neg]
    intro z
    exact h0 (by rw [List.head?_cons, beq_iff_eq.mp z])
theorem tw_rep (k : Nat) (r : List Nat) (h : r.head? ≠ some 47) : (List.replicate k 47 ++ r).takeWhile (fun c => c == 47) = List.replicate k 47 := by
  induction k with
  | zero =>
    rw [List.replicate_zero, List.nil_append]
    by_cases e : r = []
    · rw [e]
      rfl
    · have := tw_free (r := []) h e
      rw [List.append_nil] at this
      exact this
  | succ k ih => rw [List.replicate_succ, List.cons_append, List.takeWhile_cons_of_pos rfl, ih]
theorem strip_core {x : Str} {u : List Nat} {k : Nat} (h0 : u.head? ≠ some 47) (h1 : u.getLast? ≠ some 47) (hx : tl x = u ++ List.replicate k 47) : tl (Txt.stripChars x "/") = u := by
  have g : (("/" : Str).cps.contains : Nat → Bool) = fun c => c == 47 := by
    funext c
    have e : ("/" : Str).cps = #[47] := by decide +kernel
    rw [e]
    apply Bool.eq_iff_iff.mpr
    rw [Array.contains_iff_mem, beq_iff_eq]
    simp
  show tl (Txt.stripBy ("/" : Str).cps.contains true true x) = u
  rw [stripBy_eq, tl_sub, g]
  show ((tl x).drop ((tl x).takeWhile fun c => c == 47).length).take ((x.length - (((tl x).drop ((tl x).takeWhile fun c => c == 47).length).reverse.takeWhile fun c => c == 47).length) - ((tl x).takeWhile fun c => c == 47).length) = u
  rw [len_tl, hx]
  by_cases e : u = []
  · rw [e, List.nil_append]
    have t := tw_rep k [] (by simp)
    rw [List.append_nil] at t
    rw [t, List.length_replicate, List.drop_eq_nil_of_le (by rw [List.length_replicate]; exact Nat.le_refl _)]
    exact List.take_nil
  · rw [tw_free h0 e]
    show ((u ++ List.replicate k 47).drop 0).take (((u ++ List.replicate k 47).length - (((u ++ List.replicate k 47).drop 0).reverse.takeWhile fun c => c == 47).length) - 0) = u
    rw [List.drop_zero, List.reverse_append, List.reverse_replicate, tw_rep k u.reverse (by rw [List.head?_reverse]; exact h1), List.length_replicate, List.length_append, List.length_replicate, Nat.add_sub_cancel, Nat.sub_zero, List.take_left']
    rfl
theorem jl_head : ∀ {p : List Str}, Nms p → (jl p).head? ≠ some 47
  | [], _ => by intro q; cases q
  | y :: r, h => by
    have hy := h y List.mem_cons_self
    have e : ∃ t, jl (y :: r) = tl y ++ t := by
      cases r with
      | nil => exact ⟨[], (List.append_nil _).symm⟩
      | cons z r => exact ⟨_, rfl⟩
    obtain ⟨t, e⟩ := e
    rw [e]
    intro q
    match h2 : tl y with
    | [] => exact nm_ne hy h2
    | c :: u =>
      rw [h2, List.cons_append, List.head?_cons] at q
      refine nm_free hy ?_
      rw [h2, Option.some.inj q]
      exact List.mem_cons_self
theorem jl_last : ∀ {p : List Str}, Nms p → (jl p).getLast? ≠ some 47
  | [], _ => by intro q; cases q
  | [y], h => fun q => nm_free (h y List.mem_cons_self) (List.mem_of_getLast? q)
  | y :: z :: r, h => by
    have ih := jl_last (p := z :: r) h.tail
    show (tl y ++ ([47] ++ jl (z :: r))).getLast? ≠ some 47
    rw [List.getLast?_append, List.getLast?_append]
    intro q
    match e : (jl (z :: r)).getLast? with
    | none => exact jl_ne h.tail (by simp) (List.getLast?_eq_none_iff.mp e)
    | some c =>
      rw [e] at q
      exact ih (by rw [e]; exact q)
theorem strip_ent {n : Str} (hn : IsNm n) (b : Bool) : Txt.stripChars (ent n b) "/" = n := by
  refine ext_tl (strip_core (k := if b = true then 1 else 0) ?_ ?_ ?_)
  · have := jl_head (p := [n]) (by simpa [Nms] using hn)
    exact this
  · have := jl_last (p := [n]) (by simpa [Nms] using hn)
    exact this
  · rw [tl_ent]
    cases b <;> rfl
/-- a front: a path with a stroke behind it, or nothing -/
theorem strip_front {q p : List Str} (hq : Nms q) (hp : Nms p) : Txt.stripChars (bg q ++ js p) "/" = js (q ++ p) := by
  by_cases h : p = []
  · subst h
    rw [List.append_nil]
    refine ext_tl ?_
    rw [tl_js]
    refine strip_core (k := if q = [] then 0 else 1) (jl_head hq) (jl_last hq) ?_
    unfold bg
    by_cases e : q = []
    · rw [if_pos e, if_pos e, e]
      rfl
    · rw [if_neg e, if_neg e, tl_append, tl_append, tl_js, tl_sl]
      show jl q ++ [47] ++ [] = jl q ++ [47]
      rw [List.append_nil]
  · rw [bg_app q h]
    refine ext_tl ?_
    rw [tl_js]
    refine strip_core (k := 0) (jl_head (hq.app hp)) (jl_last (hq.app hp)) ?_
    rw [tl_js]
    simp
end W

set_option maxHeartbeats 3900000
namespace W
open PySem PySem.Spec PyProof.Rows L2 TL
open C8 (pss_cut tCut pe_gc)
open CB
abbrev sIsName : Stmt := top 12
abbrev sIsPath : Stmt := top 13
abbrev sIsPlace : Stmt := top 14
abbrev sBeg : Stmt := top 15
abbrev sRest : Stmt := top 17
def Sh (z : Str) : Prop := z.length ≤ 1000
theorem Sh.line {z : Str} (h : Sh z) : z.length ≤ sizeLine := Nat.le_trans h (by decide)
theorem js_len : ∀ {p : List Str}, Nms p → (js p).length ≤ 9 * p.length
  | [], _ => Nat.le_of_eq rfl
  | [y], h => by
    rw [js_one]
    have := (h y List.mem_cons_self).2.1
    show y.length ≤ 9
    omega
  | y :: z :: r, h => by
    have ih := js_len (p := z :: r) h.tail
    have := (h y List.mem_cons_self).2.1
    rw [js_cons y (by simp), len_tl, tl_append, tl_append, List.length_append, List.length_append, tl_sl, ← len_tl, ← len_tl]
    show y.length + 1 + (js (z :: r)).length ≤ _
    rw [List.length_cons (a := y)]
    omega
theorem js_sh {p : List Str} (h : Nms p) (hl : p.length ≤ 100) : Sh (js p) := by
  have := js_len h
  unfold Sh
  omega
theorem nm_sh {y : Str} (h : IsNm y) : Sh y := by
  have := h.2.1
  unfold Sh
  omega
/-- the package's constants and what it reads of the built-in names -/
structure TPk (mg : Str → Option Value) : Prop where
  b : TB mg
  STROKE : ∃ t, mg "STROKE" = some (.str "/" t)
  ROOT : ∃ t, mg "ROOT" = some (.str "" t)
  LETTERS : ∃ t, mg "LETTERS" = some (.str letters t)
  LONGEST : ∃ t, mg "LONGEST" = some (.int 8 t)
def spS1 (C : Str → Prop) (g : Str → V) : Sp := fun vs H Q _ => ∃ z, vs = [.str z] ∧ C z ∧ ∀ H', Same H H' → Q (g z) H'
def spS2 (C : Str → Str → Prop) (g : Str → Str → V) : Sp := fun vs H Q _ => ∃ x y, vs = [.str x, .str y] ∧ C x y ∧ ∀ H', Same H H' → Q (g x y) H'
def begS (z : Str) : Str := if decide (z = "") = true then "" else z ++ "/"
theorem begS_js {p : List Str} (h : Nms p) : begS (js p) = bg p := bg_str p h
def benS (x y : Str) : Bool := (!decide (x = y)) && Txt.startswith x (begS y)
theorem benS_js {p q : List Str} (hp : Nms p) (hq : Nms q) : benS (js p) (js q) = ben p q := by
  unfold benS
  rw [begS_js hq, js_eq hp hq, ← sw_bg hp hq]
  by_cases e : p = q <;> simp [e]
abbrev spIsName : Sp := spS1 Sh fun z => .bl (decide (IsNm z))
def spIsPath : Sp := fun vs H Q _ => ∃ p, vs = [.str (js p)] ∧ Nms p ∧ p.length ≤ 100 ∧ ∀ H', Same H H' → Q (.bl (decide (p ≠ []))) H'
def spIsPlace : Sp := fun vs H Q _ => ∃ p, vs = [.str (js p)] ∧ Nms p ∧ p.length ≤ 100 ∧ ∀ H', Same H H' → Q (.bl true) H'
abbrev spBeg : Sp := spS1 Sh fun z => .str (begS z)
abbrev spBen : Sp := spS2 (fun x y => Sh x ∧ Sh y) fun x y => .bl (benS x y)
abbrev spAt : Sp := spS2 (fun x y => Sh x ∧ Sh y) fun x y => .bl (decide (x = y) || benS x y)
abbrev spRest : Sp := spS2 (fun x y => Sh x ∧ Sh y) fun x y => .str (cutS x (some ((begS y).length : Int)) none)
theorem isNm_eq (z : Str) : decide (IsNm z) = (decide (1 ≤ z.length) && decide (z.length ≤ 8) && (tl z).all fun c => decide (c ∈ letters.cps.toList)) := by
  apply Bool.eq_iff_iff.mpr
  rw [decide_eq_true_iff, Bool.and_eq_true, Bool.and_eq_true, decide_eq_true_iff, decide_eq_true_iff, List.all_eq_true]
  constructor
  · rintro ⟨h1, h2, h3⟩
    refine ⟨⟨h1, h2⟩, fun c hc => decide_eq_true ?_⟩
    obtain ⟨a, b⟩ := h3 c hc
    have := letter_at (c - 97) (by omega)
    rw [show 97 + (c - 97) = c by omega] at this
    exact List.mem_of_getElem? this
  · rintro ⟨⟨h1, h2⟩, h3⟩
    exact ⟨h1, h2, fun c hc => letters_all c (of_decide_eq_true (h3 c hc))⟩
section
variable {P : Program} {w : World} {K : PySem.W.Frag} {mg : Str → Option Value} {base : Heap}
theorem scIsName : FnScope ["thing", "letter"] ["thing"] (defScope sIsName) := ⟨rfl, rfl, rfl, by decide +kernel, rfl, by decide +kernel, by decide +kernel⟩
theorem ok_isName {f : Addr} {fd : FuncData} (F : Fun K "is_name" "is_name" sIsName f fd) (T0 : TPk mg) : FnOk P w K mg base CX0 1 f fd ["thing"] spIsName := by
  have T := T0.b
  obtain ⟨t1, mLETTERS⟩ := T0.LETTERS
  obtain ⟨t2, mLONGEST⟩ := T0.LONGEST
  refine F.ok scIsName (fun vs H Q E h => ?_) (fun cdv A outer s H vs Q E hr h => ?_)
  · obtain ⟨z, rfl, _⟩ := h
    rfl
  · obtain ⟨z, rfl, hz, k⟩ := h
    refine ⟨_, pss_cons (ps_if (PW.pt (pw_or (pt_not (pt_val (pe_callB call_isi (by rfl) T.isinstance (by decide +kernel) (pa_cons (pv 0) (pa_cons (pe_bltn (v := .ty "str") (by rfl) T.str (by decide +kernel) rfl) pa_nil))))) (pw_or1 (pt_not (pt_chain op_le op_le pe_int (pe_callB call_len_str (by rfl) T.len PySem.boot_len (pa_cons (pv 0) pa_nil)) (pe_glob (v := .int 8) rfl mLONGEST ⟨_, rfl⟩)))))) (pss_one (ps_ret pe_bl)) (pss_nil))
        (pss_one (ps_ret (pe_callB (cr_all rfl) (by rfl) T.all boot_all (pa_cons (pe_lc (own := [("letter", 1)]) (g := gName 1) (tt := tYes) rfl scIsName.nd (pi_str (pv 0)) (blkOk_by (own := [("letter", 1)]) (N := ["thing", "letter"]) (sc := defScope sIsName) (by decide +kernel)) (fun _ _ _ _ _ => (pg_name (i := 1) scIsName.nd rfl (Or.inl rfl))) (fun _ _ _ _ _ => pts_nil) (fun _ _ _ _ _ => (pe_cmpR op_in_sign (pv 1) (pe_glob (v := .str letters) rfl mLETTERS ⟨_, rfl⟩) (by rfl)))) pa_nil)))), ?_⟩
    refine ⟨_, rfl, _, _, .type "str", .type "str", true, rfl, .ty "str", .base (.str _), kit_ty (by decide +kernel), _, rfl, iteF ⟨_, rfl, _, rfl, hz.line, _, _, rfl, rfl, _, rfl, ?_⟩⟩
    have k : ∀ H', Same H H' → Q (.bl (decide (IsNm z))) H' := k
    rw [isNm_eq] at k
    by_cases h1 : 1 ≤ z.length
    · rw [decide_eq_true (show (1 : Int) ≤ (z.length : Int) by omega)]
      rw [decide_eq_true h1, Bool.true_and] at k
      refine iteT ⟨_, _, rfl, rfl, _, rfl, ?_⟩
      by_cases h8 : z.length ≤ 8
      · rw [decide_eq_true (show ((z.length : Nat) : Int) ≤ (8 : Int) by omega)]
        rw [decide_eq_true h8, Bool.true_and] at k
        refine iteF ⟨_, rfl, z, rfl, fun D hD => ?_⟩
        refine lc_mapS z (fun c => .bl (decide (c ∈ letters.cps.toList))) (by omega) hD ?_ ?_
        · intro c hc H2 s2 Q1 k1
          exact ⟨_, rfl, c, letters, rfl, rfl, k1 H2 (Same.refl H2)⟩
        · intro H' s' hD'
          exact all_of _ _ hD' (k H' s')
      · rw [decide_eq_false (show ¬ ((z.length : Nat) : Int) ≤ (8 : Int) by omega)]
        rw [decide_eq_false h8, Bool.false_and] at k
        exact iteT (k H (Same.refl H))
    · rw [decide_eq_false (show ¬ (1 : Int) ≤ (z.length : Int) by omega)]
      rw [decide_eq_false h1, Bool.false_and, Bool.false_and] at k
      exact iteF ⟨_, rfl, iteT (k H (Same.refl H))⟩
theorem scIsPath : FnScope ["thing", "part"] ["thing"] (defScope sIsPath) := ⟨rfl, rfl, rfl, by decide +kernel, rfl, by decide +kernel, by decide +kernel⟩
theorem ok_isPath {f fN : Addr} {fd fdN : FuncData} (F : Fun K "is_path" "is_path" sIsPath f fd) (T0 : TPk mg) (aIsName : At K mg "is_name" fN fdN ["thing"]) (GIsName : FnOk P w K mg base CX0 1 fN fdN ["thing"] spIsName) : FnOk P w K mg base CX0 2 f fd ["thing"] spIsPath := by
  have T := T0.b
  obtain ⟨t1, mSTROKE⟩ := T0.STROKE
  refine F.ok scIsPath (fun vs H Q E h => ?_) (fun cdv A outer s H vs Q E hr h => ?_)
  · obtain ⟨z, rfl, _⟩ := h
    rfl
  · obtain ⟨p, rfl, hp, hl, k⟩ := h
    refine ⟨_, pss_one (ps_ret (pe_and (pe_callB call_isi (by rfl) T.isinstance (by decide +kernel) (pa_cons (pv 0) (pa_cons (pe_bltn (v := .ty "str") (by rfl) T.str (by decide +kernel) rfl) pa_nil))) (pe_one (pe_callB (cr_all rfl) (by rfl) T.all boot_all (pa_cons (pe_lc (own := [("part", 1)]) (g := gName 1) (tt := tYes) rfl scIsPath.nd (pi_list (pe_bm PySem.F.plainAttrs_str PySem.F.slot_str_split PySem.F.type_str_split mt_split (pv 0) (pa_cons (pe_glob (v := .str "/") rfl mSTROKE ⟨_, rfl⟩) pa_nil))) (blkOk_by (own := [("part", 1)]) (N := ["thing", "part"]) (sc := defScope sIsPath) (by decide +kernel)) (fun _ _ _ _ _ => (pg_name (i := 1) scIsPath.nd rfl (Or.inl rfl))) (fun _ _ _ _ _ => pts_nil) (fun _ _ _ _ _ => (pe_call GIsName (hr.mono (by decide)) rfl aIsName.m aIsName.k aIsName.b .nil pass0 (pa_cons (pv 1) pa_nil)))) pa_nil))))), ?_⟩
    have hs := js_sh hp hl
    obtain ⟨ys, e1, e2, e3⟩ : ∃ ys, Txt.split (js p) "/" = ys ∧ (∀ y ∈ ys, Sh y) ∧ (ys.length < 1000000 ∧ ys.all (fun y => decide (IsNm y)) = decide (p ≠ [])) := by
      by_cases h : p = []
      · subst h
        refine ⟨[""], by decide +kernel, ?_, by decide, by decide +kernel⟩
        intro y hy
        rw [List.mem_singleton.mp hy]
        exact Nat.zero_le _
      · refine ⟨p, split_js hp h, fun y hy => nm_sh (hp y hy), by omega, ?_⟩
        rw [decide_eq_true h, List.all_eq_true]
        exact fun y hy => decide_eq_true (hp y hy)
    refine ⟨_, rfl, _, _, .type "str", .type "str", true, rfl, .ty "str", .base (.str _), kit_ty (by decide +kernel), true, rfl, iteT ⟨_, rfl, rfl, js p, "/", rfl, rfl, rfl, ?_, fun l hl' => ⟨l, rfl, ⟨_, SqL.of upd_same⟩, fun D hD => ?_⟩⟩⟩
    · have := hs
      unfold Sh at this
      exact Nat.le_trans (show (js p).length + 2 ≤ 1002 by omega) (by decide)
    · rw [e1] at hD ⊢
      have s1 : Same H (upd H l (.lst (ys.map V.str))) := same_mk hl'
      refine lc_mapL ys V.str (fun y => .bl (decide (IsNm y))) e3.1 hD (SqL.of upd_same) ?_ ?_
      · intro y hy H2 s2 Q1 k1
        exact ⟨_, rfl, y, rfl, e2 y hy, k1⟩
      · intro H' s' hD'
        refine all_of _ _ hD' ?_
        rw [e3.2]
        exact k H' (s1.trans s')
theorem scIsPlace : FnScope ["thing"] ["thing"] (defScope sIsPlace) := ⟨rfl, rfl, rfl, by decide +kernel, rfl, by decide +kernel, by decide +kernel⟩
theorem ok_isPlace {f fN : Addr} {fd fdN : FuncData} (F : Fun K "is_place" "is_place" sIsPlace f fd) (T0 : TPk mg) (aIsPath : At K mg "is_path" fN fdN ["thing"]) (GIsPath : FnOk P w K mg base CX0 2 fN fdN ["thing"] spIsPath) : FnOk P w K mg base CX0 3 f fd ["thing"] spIsPlace := by
  have T := T0.b
  obtain ⟨t1, mROOT⟩ := T0.ROOT
  refine F.ok scIsPlace (fun vs H Q E h => ?_) (fun cdv A outer s H vs Q E hr h => ?_)
  · obtain ⟨z, rfl, _⟩ := h
    rfl
  · obtain ⟨p, rfl, hp, hl, k⟩ := h
    refine ⟨_, pss_one (ps_ret (pe_or (pe_call GIsPath (hr.mono (by decide)) rfl aIsPath.m aIsPath.k aIsPath.b .nil pass0 (pa_cons (pv 0) pa_nil)) (pe_one (pe_and (pe_callB call_isi (by rfl) T.isinstance (by decide +kernel) (pa_cons (pv 0) (pa_cons (pe_bltn (v := .ty "str") (by rfl) T.str (by decide +kernel) rfl) pa_nil))) (pe_one (pe_cmpR op_eq (pv 0) (pe_glob (v := .str "") rfl mROOT ⟨_, rfl⟩) (nomark _))))))), ?_⟩
    refine ⟨_, rfl, p, rfl, hp, hl, fun H1 s1 => ⟨_, rfl, ?_⟩⟩
    by_cases h : p = []
    · rw [decide_eq_false (not_not_intro h)]
      subst h
      exact iteF ⟨_, rfl, _, _, .type "str", .type "str", true, rfl, .ty "str", .base (.str _), kit_ty (by decide +kernel), _, rfl, iteT ⟨_, rfl, rfl, k H1 s1⟩⟩
    · rw [decide_eq_true h]
      exact iteT (k H1 s1)
theorem scBeg : FnScope ["place"] ["place"] (defScope sBeg) := ⟨rfl, rfl, rfl, by decide +kernel, rfl, by decide +kernel, by decide +kernel⟩
theorem ok_beg {f : Addr} {fd : FuncData} (F : Fun K "beginning" "beginning" sBeg f fd) (T0 : TPk mg) : FnOk P w K mg base CX0 1 f fd ["place"] spBeg := by
  obtain ⟨t1, mROOT⟩ := T0.ROOT
  obtain ⟨t2, mSTROKE⟩ := T0.STROKE
  refine F.ok scBeg (fun vs H Q E h => ?_) (fun cdv A outer s H vs Q E hr h => ?_)
  · obtain ⟨z, rfl, _⟩ := h
    rfl
  · obtain ⟨z, rfl, hz, k⟩ := h
    refine ⟨_, pss_one (ps_ret (pe_ifExp (pt_cmpR op_eq (pv 0) (pe_glob (v := .str "") rfl mROOT ⟨_, rfl⟩) (nomark _)) (pe_glob (v := .str "") rfl mROOT ⟨_, rfl⟩) (pe_op op_add_str (pv 0) (pe_glob (v := .str "/") rfl mSTROKE ⟨_, rfl⟩)))), ?_⟩
    refine ⟨_, rfl, rfl, _, rfl, ?_⟩
    have k : ∀ H', Same H H' → Q (.str (begS z)) H' := k
    unfold begS at k
    by_cases h : z = ""
    · subst h
      exact iteT (k H (Same.refl H))
    · rw [decide_eq_false (show ¬ V.str z = V.str "" from fun q => h (V.str.inj q))]
      rw [decide_eq_false h] at k
      refine iteF ⟨_, rfl, _, _, rfl, rfl, ?_, k H (Same.refl H)⟩
      have := hz
      unfold Sh at this
      exact Nat.le_trans (show z.length + 1 ≤ 1001 by omega) (by decide)
theorem begS_sh {z : Str} (h : Sh z) : (begS z).length ≤ sizeLine := by
  have := h
  unfold Sh at this
  refine Nat.le_trans (show (begS z).length ≤ 1001 from ?_) (by decide)
  unfold begS
  by_cases e : z = ""
  · rw [if_pos (decide_eq_true e)]
    exact Nat.zero_le _
  · rw [if_neg (by rw [decide_eq_false e]; simp), len_tl, tl_append, List.length_append, tl_sl, ← len_tl]
    show z.length + 1 ≤ 1001
    omega
theorem scRest : FnScope ["path", "place"] ["path", "place"] (defScope sRest) := ⟨rfl, rfl, rfl, by decide +kernel, rfl, by decide +kernel, by decide +kernel⟩
theorem ok_rest {f fN : Addr} {fd fdN : FuncData} (F : Fun K "rest_in" "rest_in" sRest f fd) (T0 : TPk mg) (aBeg : At K mg "beginning" fN fdN ["place"]) (GBeg : FnOk P w K mg base CX0 1 fN fdN ["place"] spBeg) : FnOk P w K mg base CX0 2 f fd ["path", "place"] spRest := by
  have T := T0.b
  refine F.ok scRest (fun vs H Q E h => ?_) (fun cdv A outer s H vs Q E hr h => ?_)
  · obtain ⟨x, y, rfl, _⟩ := h
    rfl
  · obtain ⟨x, y, rfl, ⟨hx, hy⟩, k⟩ := h
    refine ⟨_, pss_one (ps_ret (pe_slice sl_str (pv 0) (po_some (pe_callB call_len_str (by rfl) T.len PySem.boot_len (pa_cons (pe_call GBeg (hr.mono (by decide)) rfl aBeg.m aBeg.k aBeg.b .nil pass0 (pa_cons (pv 1) pa_nil)) pa_nil))) po_none)), ?_⟩
    exact ⟨_, rfl, _, rfl, y, rfl, hy, fun H1 s1 => ⟨begS y, rfl, begS_sh hy, ⟨_, rfl, x, rfl, hx.line, k H1 s1⟩⟩⟩
end
end W

set_option maxHeartbeats 3900000
namespace W
open PySem PySem.Spec PyProof.Rows L2 TL
open C8 (pss_cut tCut pe_gc)
open CB
abbrev sRow : Stmt := top 19
abbrev sAsLook : Stmt := top 20
abbrev sCanLook : Stmt := top 21
/-- an answer: none, a text, entries (name, whether a folder) -/
inductive An
  | no
  | tx (z : Str)
  | es (l : List (Str × Bool))
deriving DecidableEq
def entV (e : Str × Bool) : V := .str (ent e.1 e.2)
/-- an answer as it is passed; as it is told -/
def AnIn (H : Hp) (v : V) : An → Prop
  | .no => v = .non
  | .tx z => v = .str z
  | .es l => RowAt H v (l.map entV)
def AnAt (H : Hp) (v : V) : An → Prop
  | .no => v = .non
  | .tx z => v = .str z
  | .es l => ∃ a, v = .ref a ∧ H a = some (.tup (l.map entV))
def SiIn (H : Hp) (v : V) (s : Lk × An) : Prop := ∃ vk va, RowAt H v [vk, va] ∧ RowAt H vk (lkV s.1) ∧ AnIn H va s.2
def SiAt (H : Hp) (v : V) (s : Lk × An) : Prop := ∃ t u va, v = .ref t ∧ H t = some (.tup [.ref u, va]) ∧ H u = some (.tup (lkV s.1)) ∧ AnAt H va s.2
theorem AnIn.up {H H' : Hp} {v : V} {a : An} (h : AnIn H v a) (s : Same H H') : AnIn H' v a := by
  cases a with
  | no => exact h
  | tx z => exact h
  | es l => exact RowAt.up h s
theorem AnAt.up {H H' : Hp} {v : V} {a : An} (h : AnAt H v a) (s : Same H H') : AnAt H' v a := by
  cases a with
  | no => exact h
  | tx z => exact h
  | es l =>
    obtain ⟨a, e, h⟩ := h
    exact ⟨a, e, s _ _ h⟩
theorem AnAt.in {H : Hp} {v : V} {a : An} (h : AnAt H v a) : AnIn H v a := by
  cases a with
  | no => exact h
  | tx z => exact h
  | es l =>
    obtain ⟨a, e, h⟩ := h
    exact ⟨a, e, .inl h⟩
theorem SiAt.up {H H' : Hp} {v : V} {a : Lk × An} (h : SiAt H v a) (s : Same H H') : SiAt H' v a := by
  obtain ⟨t, u, va, e, h1, h2, h3⟩ := h
  exact ⟨t, u, va, e, s _ _ h1, s _ _ h2, h3.up s⟩
theorem SiIn.up {H H' : Hp} {v : V} {a : Lk × An} (h : SiIn H v a) (s : Same H H') : SiIn H' v a := by
  obtain ⟨vk, va, h1, h2, h3⟩ := h
  exact ⟨vk, va, h1.up s, h2.up s, h3.up s⟩
theorem SiAt.in {H : Hp} {v : V} {a : Lk × An} (h : SiAt H v a) : SiIn H v a := by
  obtain ⟨t, u, va, e, h1, h2, h3⟩ := h
  exact ⟨.ref u, va, ⟨t, e, .inl h1⟩, ⟨u, rfl, .inl h2⟩, h3.in⟩
/-- a look, an answer that are ones -/
def LkOk : Lk → Prop
  | .rd p => p ≠ [] ∧ Nms p ∧ p.length ≤ 90
  | .ls p => Nms p ∧ p.length ≤ 90
  | .se n => IsNm n
  | .tl => True
def Ents (l : List (Str × Bool)) : Prop := (∀ e ∈ l, IsNm e.1) ∧ (l.map (·.1)).Pairwise (fun a b : Str => a.cps.toList < b.cps.toList) ∧ l.length ≤ 1000
def AnOk : Lk → An → Prop
  | .rd _, .no => True
  | .rd _, .tx _ => True
  | .ls p, .no => p ≠ []
  | .ls p, .es l => Ents l ∧ (l ≠ [] ∨ p = [])
  | .se _, .no => True
  | .se _, .tx _ => True
  | .tl, .tx _ => True
  | _, _ => False
def SiOk (s : Lk × An) : Prop := LkOk s.1 ∧ AnOk s.1 s.2
def spRow : Sp := fun vs H Q _ => ∃ v xs n, vs = [v, .int n] ∧ RowAt H v xs ∧ ∀ H', Same H H' → Q (.bl (decide ((xs.length : Int) = n))) H'
def spAsLook : Sp := fun vs H Q _ => ∃ v k, vs = [v] ∧ RowAt H v (lkV k) ∧ LkOk k ∧ ∀ t H', Same H H' → H' t = some (.tup (lkV k)) → Q (.ref t) H'
def spCanLook : Sp := fun vs H Q _ => ∃ k, vs = lkV k ∧ vs.length = 2 ∧ LkOk k ∧ ∀ H', Same H H' → Q (.bl true) H'
def spCanShow : Sp := fun vs H Q _ => ∃ t va k a, vs = [.ref t, va] ∧ H t = some (.tup (lkV k)) ∧ AnIn H va a ∧ LkOk k ∧ AnOk k a ∧ ∀ H', Same H H' → Q (.bl true) H'
def spIsListing : Sp := fun vs H Q _ => ∃ v l, vs = [v] ∧ RowAt H v (l.map entV) ∧ Ents l ∧ ∀ H', Same H H' → Q (.bl true) H'
def spIsEntry : Sp := fun vs H Q _ => ∃ n b, vs = [.str (ent n b)] ∧ IsNm n ∧ ∀ H', Same H H' → Q (.bl true) H'
def spAsSight : Sp := fun vs H Q _ => ∃ v s, vs = [v] ∧ SiIn H v s ∧ SiOk s ∧ ∀ v' H', Same H H' → SiAt H' v' s → Q v' H'
section
variable {P : Program} {w : World} {K : PySem.W.Frag} {mg : Str → Option Value} {base : Heap}
theorem scRow : FnScope ["thing", "size"] ["thing", "size"] (defScope sRow) := ⟨rfl, rfl, rfl, by decide +kernel, rfl, by decide +kernel, by decide +kernel⟩
theorem ok_row {f : Addr} {fd : FuncData} (F : Fun K "is_row" "is_row" sRow f fd) (T : TB mg) : FnOk P w K mg base CX0 1 f fd ["thing", "size"] spRow := by
  refine F.ok scRow (fun vs H Q E h => ?_) (fun cdv A outer s H vs Q E hr h => ?_)
  · obtain ⟨v, xs, n, rfl, _⟩ := h
    rfl
  · obtain ⟨v, xs, n, rfl, hv, k⟩ := h
    refine ⟨_, pss_one (ps_ret (pe_and (pe_callB isi_LT (by rfl) T.isinstance (by decide +kernel) (pa_cons (pv 0) (pa_cons (pe_tup (pa_cons (pe_bltn (v := .ty "list") (by rfl) T.list (by decide +kernel) rfl) (pa_cons (pe_bltn (v := .ty "tuple") (by rfl) T.tuple (by decide +kernel) rfl) pa_nil))) pa_nil))) (pe_one (pe_cmpR op_eq (pe_callB call_len_row (by rfl) T.len PySem.boot_len (pa_cons (pv 0) pa_nil)) (pv 1) (nomark _))))), ?_⟩
    refine ⟨_, rfl, by show 2 ≤ sizeLine; decide, fun tp ht => ⟨v, tp, true, rfl, upd_same, .inl ⟨rfl, xs, hv.up (same_mk ht)⟩, _, rfl, iteT ⟨_, rfl, v, xs, rfl, hv.up (same_mk ht), _, rfl, rfl, ?_⟩⟩⟩
    have e : decide (V.int (xs.length : Int) = V.int n) = decide ((xs.length : Int) = n) := by
      rw [decide_eq_decide]
      exact ⟨fun z => V.int.inj z, fun z => by rw [z]⟩
    rw [e]
    exact k _ (same_mk ht)
theorem scCanLook : FnScope ["word", "where"] ["word", "where"] (defScope sCanLook) := ⟨rfl, rfl, rfl, by decide +kernel, rfl, by decide +kernel, by decide +kernel⟩
theorem ok_canLook {f fN fPh fPl : Addr} {fd fdN fdPh fdPl : FuncData} (F : Fun K "can_look" "can_look" sCanLook f fd) (T0 : TPk mg) (aIsName : At K mg "is_name" fN fdN ["thing"]) (aIsPath : At K mg "is_path" fPh fdPh ["thing"]) (aIsPlace : At K mg "is_place" fPl fdPl ["thing"])
    (GIsName : FnOk P w K mg base CX0 1 fN fdN ["thing"] spIsName) (GIsPath : FnOk P w K mg base CX0 2 fPh fdPh ["thing"] spIsPath) (GIsPlace : FnOk P w K mg base CX0 3 fPl fdPl ["thing"] spIsPlace) : FnOk P w K mg base CX0 4 f fd ["word", "where"] spCanLook := by
  have T := T0.b
  refine F.ok scCanLook (fun vs H Q E h => ?_) (fun cdv A outer s H vs Q E hr h => ?_)
  · obtain ⟨k, _, h2, _⟩ := h
    exact h2
  · obtain ⟨k, rfl, h2, hk, q⟩ := h
    refine ⟨_, pss_cons (ps_if (pt_not (pt_val (pe_callB call_isi (by rfl) T.isinstance (by decide +kernel) (pa_cons (pv 0) (pa_cons (pe_bltn (v := .ty "str") (by rfl) T.str (by decide +kernel) rfl) pa_nil))))) (pss_one (ps_ret pe_bl)) (pss_nil))
            (pss_cons (ps_if (pt_cmpR op_eq (pv 0) pe_str (nomark _)) (pss_one (ps_ret (pe_call GIsPath (hr.mono (by decide)) rfl aIsPath.m aIsPath.k aIsPath.b .nil pass0 (pa_cons (pv 1) pa_nil)))) (pss_nil))
            (pss_cons (ps_if (pt_cmpR op_eq (pv 0) pe_str (nomark _)) (pss_one (ps_ret (pe_call GIsPlace (hr.mono (by decide)) rfl aIsPlace.m aIsPlace.k aIsPlace.b .nil pass0 (pa_cons (pv 1) pa_nil)))) (pss_nil))
            (pss_one (ps_ret (pe_and (pe_cmpR op_eq (pv 0) pe_str (nomark _)) (pe_one (pe_call GIsName (hr.mono (by decide)) rfl aIsName.m aIsName.k aIsName.b .nil pass0 (pa_cons (pv 1) pa_nil)))))))), ?_⟩
    cases k with
    | rd p =>
      refine ⟨_, rfl, _, _, .type "str", .type "str", true, rfl, .ty "str", .base (.str _), kit_ty (by decide +kernel), _, rfl, iteF ⟨_, rfl, rfl, _, rfl, iteY rfl ⟨_, rfl, p, rfl, hk.2.1, Nat.le_trans hk.2.2 (by decide), fun H1 s1 => ?_⟩⟩⟩
      rw [decide_eq_true hk.1]
      exact q H1 s1
    | ls p =>
      exact ⟨_, rfl, _, _, .type "str", .type "str", true, rfl, .ty "str", .base (.str _), kit_ty (by decide +kernel), _, rfl, iteF ⟨_, rfl, rfl, _, rfl, iteN (by decide +kernel) ⟨_, rfl, rfl, _, rfl, iteY rfl ⟨_, rfl, p, rfl, hk.1, Nat.le_trans hk.2 (by decide), q⟩⟩⟩⟩
    | se n =>
      refine ⟨_, rfl, _, _, .type "str", .type "str", true, rfl, .ty "str", .base (.str _), kit_ty (by decide +kernel), _, rfl, iteF ⟨_, rfl, rfl, _, rfl, iteN (by decide +kernel) ⟨_, rfl, rfl, _, rfl, iteN (by decide +kernel) ⟨_, rfl, rfl, _, rfl, iteY rfl ⟨_, rfl, n, rfl, nm_sh hk, fun H1 s1 => ?_⟩⟩⟩⟩⟩
      show Q (.bl (decide (IsNm n))) H1
      rw [decide_eq_true (show IsNm n from hk)]
      exact q H1 s1
    | tl => exact absurd h2 (by decide)
theorem scAsLook : FnScope ["thing"] ["thing"] (defScope sAsLook) := ⟨rfl, rfl, rfl, by decide +kernel, rfl, by decide +kernel, by decide +kernel⟩
theorem ok_asLook {f fR fC : Addr} {fd fdR fdC : FuncData} (F : Fun K "as_look" "as_look" sAsLook f fd) (T : TB mg) (aRow : At K mg "is_row" fR fdR ["thing", "size"]) (aCanLook : At K mg "can_look" fC fdC ["word", "where"])
    (GRow : FnOk P w K mg base CX0 1 fR fdR ["thing", "size"] spRow) (GCanLook : FnOk P w K mg base CX0 4 fC fdC ["word", "where"] spCanLook) : FnOk P w K mg base CX0 5 f fd ["thing"] spAsLook := by
  refine F.ok scAsLook (fun vs H Q E h => ?_) (fun cdv A outer s H vs Q E hr h => ?_)
  · obtain ⟨v, k, rfl, _⟩ := h
    rfl
  · obtain ⟨v, k, rfl, hv, hk, q⟩ := h
    refine ⟨_, pss_cons (ps_if (PW.pt (pw_and (pt_val (pe_call GRow (hr.mono (by decide)) rfl aRow.m aRow.k aRow.b .nil pass0 (pa_cons (pv 0) (pa_cons pe_int pa_nil)))) (pw_and (pt_val (pe_callB call_isi (by rfl) T.isinstance (by decide +kernel) (pa_cons (pe_ix ix_row (pv 0) pe_int (fun _ _ => rfl)) (pa_cons (pe_bltn (v := .ty "str") (by rfl) T.str (by decide +kernel) rfl) pa_nil)))) (pw_and1 (pt_cmpR op_eq (pe_ix ix_row (pv 0) pe_int (fun _ _ => rfl)) pe_str (nomark _)))))) (pss_one (ps_ret (pe_tup (pa_cons pe_str pa_nil)))) (pss_nil))
            (pss_cons (ps_if (PW.pt (pw_and (pt_val (pe_call GRow (hr.mono (by decide)) rfl aRow.m aRow.k aRow.b .nil pass0 (pa_cons (pv 0) (pa_cons pe_int pa_nil)))) (pw_and1 (pt_val (pe_call GCanLook (hr.mono (by decide)) rfl aCanLook.m aCanLook.k aCanLook.b .nil pass0 (pa_cons (pe_ix ix_row (pv 0) pe_int (fun _ _ => rfl)) (pa_cons (pe_ix ix_row (pv 0) pe_int (fun _ _ => rfl)) pa_nil))))))) (pss_one (ps_ret (pe_tup (pa_cons (pe_ix ix_row (pv 0) pe_int (fun _ _ => rfl)) (pa_cons (pe_ix ix_row (pv 0) pe_int (fun _ _ => rfl)) pa_nil))))) (pss_nil))
            (pss_one (ps_ret pe_non))), ?_⟩
    have two : ∀ (x y : V), lkV k = [x, y] → ∃ Z : Prop, True := fun _ _ _ => ⟨True, trivial⟩
    by_cases e : k = .tl
    · subst e
      refine ⟨_, rfl, v, _, 1, rfl, hv, fun H1 s1 => ⟨_, rfl, iteY rfl ⟨_, rfl, _, 0, _, hv.up s1, rfl, atI_nat (j := 0) rfl, _, _, .type "str", .type "str", true, rfl, .ty "str", .base (.str _), kit_ty (by decide +kernel), _, rfl, iteT ⟨_, rfl, _, 0, _, hv.up s1, rfl, atI_nat (j := 0) rfl, rfl, _, rfl, iteY rfl ⟨by show 1 ≤ sizeLine; decide, fun t ht => ?_⟩⟩⟩⟩⟩
      exact q t _ (same_ch s1 (s1.free ht)) upd_same
    · obtain ⟨x, y, exy⟩ : ∃ x y, lkV k = [x, y] := by
        cases k with
        | tl => exact absurd rfl e
        | _ => exact ⟨_, _, rfl⟩
      rw [exy] at hv
      refine ⟨_, rfl, v, _, 1, rfl, hv, fun H1 s1 => ⟨_, rfl, iteN (by show ¬ ((2 : Nat) : Int) = 1; decide) ⟨_, rfl, v, _, 2, rfl, hv.up s1, fun H2 s2 => ⟨_, rfl, iteY rfl ?_⟩⟩⟩⟩
      have v2 := (hv.up s1).up s2
      refine ⟨_, rfl, _, 0, _, v2, rfl, atI_nat (j := 0) rfl, _, rfl, _, 1, _, v2, rfl, atI_nat (j := 1) rfl, k, exy.symm, rfl, hk, fun H3 s3 => ⟨_, rfl, iteT ?_⟩⟩
      have v3 := v2.up s3
      refine ⟨_, rfl, _, 0, _, v3, rfl, atI_nat (j := 0) rfl, _, rfl, _, 1, _, v3, rfl, atI_nat (j := 1) rfl, by show 2 ≤ sizeLine; decide, fun t ht => ?_⟩
      refine q t _ (same_ch ((s1.trans s2).trans s3) (((s1.trans s2).trans s3).free ht)) ?_
      rw [exy]
      exact upd_same
def strD (l : List Str) : PyData := .tuple (l.map .str)
abbrev Okz (z : Str) : Prop := PyData.strOk z = true
theorem okz_of {z : Str} (h : ∀ c ∈ tl z, c < 1114112) : Okz z := by
  show (z.cps.all fun c => decide (c < 1114112)) = true
  rw [Array.all_eq_true_iff_forall_mem]
  intro c hc
  exact decide_eq_true (h c (Array.mem_toList_iff.mpr hc))
theorem jl_small : ∀ {p : List Str}, Nms p → ∀ c ∈ jl p, c < 128
  | [], _ => by intro c hc; cases hc
  | [y], h => fun c hc => by
    have := (h y List.mem_cons_self).2.2 c hc
    omega
  | y :: z :: r, h => fun c hc => by
    have e : jl (y :: z :: r) = tl y ++ ([47] ++ jl (z :: r)) := rfl
    rw [e] at hc
    rcases List.mem_append.mp hc with q | q
    · have := (h y List.mem_cons_self).2.2 c q
      omega
    · rcases List.mem_append.mp q with q | q
      · rw [List.mem_singleton.mp q]
        decide
      · exact jl_small h.tail c q
theorem okz_js {p : List Str} (h : Nms p) : Okz (js p) := okz_of fun c hc => by
  rw [tl_js] at hc
  have := jl_small h c hc
  omega
theorem okz_nm {z : Str} (h : IsNm z) : Okz z := okz_of fun c hc => by
  have := h.2.2 c hc
  omega
theorem okz_ent {z : Str} (h : IsNm z) (b : Bool) : Okz (ent z b) := okz_of fun c hc => by
  rw [tl_ent] at hc
  rcases List.mem_append.mp hc with q | q
  · have := h.2.2 c q
    omega
  · cases b
    · cases q
    · rw [List.mem_singleton.mp q]
      decide
theorem lay_strs : ∀ l : List Str, (∀ z ∈ l, Okz z) → PyData.canLayAll0 (l.map .str) = true
  | [], _ => by simp [PyData.canLayAll0]
  | z :: r, h => by
    have h1 : PyData.strOk z = true := h z List.mem_cons_self
    simp [PyData.canLayAll0, PyData.canLay0, lay_strs r fun y hy => h y (List.mem_cons_of_mem _ hy), h1]
theorem dep_strs : ∀ l : List Str, PyData.depthAll (l.map .str) ≤ 1
  | [] => by simp [PyData.depthAll]
  | z :: r => by
    have := dep_strs r
    simp only [List.map_cons, PyData.depthAll, PyData.depth]
    omega
theorem shaped_strs (l : List Str) (hl : ∀ z ∈ l, Okz z) : SeqAt.shaped (strD l) = true := by
  have h := dep_strs l
  have h2 : PyData.depth (.tuple (l.map .str)) ≤ 64 := by
    simp only [PyData.depth]
    omega
  show (PyData.canLay0 (.tuple (l.map .str)) && decide (PyData.depth (.tuple (l.map .str)) ≤ 64)) = true
  rw [Bool.and_eq_true]
  exact ⟨by simp only [PyData.canLay0]; exact lay_strs l hl, decide_eq_true h2⟩
theorem dp_strs {H : Hp} : ∀ l : List Str, DpAll K H (l.map V.str) (l.map PyData.str)
  | [] => .nil
  | z :: r => .cons (.str z) (dp_strs r)
theorem eqv_str2 (a b c d : Str) : PyData.eqv (strD [a, b]) (strD [c, d]) = ((a == c) && (b == d)) := by
  simp [strD, PyData.eqv, PyData.eqvAll]
end
end W

set_option maxHeartbeats 3900000
namespace CB
open PySem PySem.Spec PyProof.Rows L2 PyProof.V
/-! two rules that were lacking: a text times 0 or 1; setdefault by a tuple -/
def rMulS : R2 := fun x y H Q => ∃ (z : Str) (b : Bool), x = .str z ∧ y = .int (b2i b) ∧ z.length ≤ sizeLine ∧ Q (.str (if b = true then z else "")) H
section
variable {X : Cx}
theorem op_mulS : OpR X (binaryOp .Mult) rMulS := by
  intro pins s σ H x y v u Q I rx ry h
  obtain ⟨z, b, rfl, rfl, hz, q⟩ := h
  obtain ⟨t, rfl⟩ := rx
  obtain ⟨t', rfl⟩ := ry
  cases b with
  | false => exact P.mul_str_none (by decide) (by decide) ⟨.str "", H, I.tok _, ⟨_, rfl⟩, q⟩
  | true =>
    refine P.mul_str (by decide) (fun _ h => by cases h) (fun _ h => by cases h) ?_
    show (Made.val (.str z t)).post _ s
    exact ⟨.str z, H, I, ⟨_, rfl⟩, q⟩
/-- d.setdefault(k, x), k a tuple of texts and ints -/
def rSetdT : V → List V → Hp → VK → Prop := fun x xs H Q => ∃ (a : Addr) (kvs : List (List L2.Key × V)) (k : List L2.Key) (b : Addr) (d : V), x = .ref a ∧ xs = [.ref b, d] ∧ H a = some (.dT kvs) ∧ H b = some (.tup (k.map kV)) ∧ kvs.length < sizeLine ∧
  (∀ v, valV kvs k = some v → Q v H) ∧ (valV kvs k = none → Q d (upd H a (.dT (putK kvs k d))))
theorem mt_setdT (hu : X.A.units + 1 < cLine) : MtR X "dict.setdefault" rSetdT := by
  intro pins s σ H x xs v us Q I rx rxs h
  obtain ⟨a, kvs, k, b, d, rfl, rfl, ha, hb, hl, q1, q2⟩ := h
  cases rx
  obtain ⟨u1, u2, rfl, r1, r2⟩ := vals2 rxs
  cases r1
  obtain ⟨z, hd, xs', rel, dd⟩ := dt_of I.hok ha
  have hz : xs'.length ≤ sizeLine := by
    rw [← Paired.length rel]
    exact z
  refine call_setdefault_heap (knd := tupleKind (mixKind X.prog X.w)) (k := k) (tupleKind_room_in1 hu) (key_of I.hok hb) hd dd (fun p hp => ?_) (fun hn h' dd' hs => ?_) hz
  · have r := rel.val k
    rw [hp] at r
    obtain ⟨v0, ev, rv⟩ : ∃ v0, valV kvs k = some v0 ∧ RelV v0 p.2 := by
      cases ev : valV kvs k with
      | none =>
        rw [ev] at r
        exact (show False from r).elim
      | some v0 =>
        rw [ev] at r
        exact ⟨v0, rfl, r⟩
    exact ⟨v0, H, I.tok _, rv, q1 v0 ev⟩
  · have r := rel.val k
    rw [hn] at r
    have e : valV kvs k = none := by
      cases ev : valV kvs k with
      | none => rfl
      | some v0 =>
        rw [ev] at r
        exact (show False from r).elim
    obtain ⟨o, es, ep, hq, h2, h3, h4, _, h5⟩ := dd'
    have hl2 : (putK kvs k d).length ≤ sizeLine := by
      have := length_putK kvs k d
      omega
    refine ⟨d, _, d_write (ob := .dT (putK kvs k d)) I (by rw [ha]; exact True.intro) hs ⟨o, hq⟩ ⟨hl2, hd, _, (rel.put k hb r2).keeps fun c ys ec => ?_, o, es, ep, hq, h2, h3, h4, h5⟩, r2, q2 e⟩
    rw [upd_ne (ne_of ec ha (fun z => nomatch z))]
    exact ec
variable {K0 : PySem.W.Frag}
theorem len_seqK (hK : X.K = K0) : CallR X (.builtin "len") (fun xs H Q => ∃ p ys, xs = [V.ref p] ∧ (SqL K0 H p ys ∨ SqT K0 H p ys) ∧ Q (V.int (ys.length : Int)) H) := by
  subst hK
  exact call_len_seq
theorem sl_listK (hK : X.K = K0) : SlR X (rSlL K0) := by
  subst hK
  exact sl_list
def tJoinK (K0 : PySem.W.Frag) (to te : TE) : TE := tM1 (fun x xs H Q => ∃ a p, ∃ ys : List Str, x = .str a ∧ xs = [.ref p] ∧ (SqL K0 H p (ys.map V.str) ∨ SqT K0 H p (ys.map V.str)) ∧ (ys.map (·.length)).sum + ys.length * a.length ≤ 16777216 ∧ Q (.str (Txt.join a ys)) H) to te
theorem pe_joinK {o e : Expr} {to te : TE} {apos pos : Pos} (hK : X.K = K0) (ho : PE X o to) (he : PE X e te) (h1 : starEach [e] X.env = [(false, eval e X.env)] := by rfl) (h2 : attributeBase o "join" X.env (eval o X.env) = eval o X.env := by rfl)
    (h3 : (apos.endLine == pos.line) = true := by rfl) : PE X (.Call (.Attribute o "join" apos) [e] [] pos) (tJoinK K0 to te) := by
  subst hK
  exact pe_join ho he h1 h2 h3
end
end CB

set_option maxHeartbeats 3900000
namespace W
open PySem PySem.Spec PyProof.Rows L2 TL
open C8 (pss_cut tCut pe_gc)
open CB
abbrev sBeneath : Stmt := top 35
def spBeneath : Sp := fun vs H Q _ => ∃ p q, vs = [.str (js p), .str (js q)] ∧ Nms p ∧ Nms q ∧ q.length ≤ 100 ∧ p.length ≤ 100 ∧ ∀ H', Same H H' → Q (.bl (ben p q)) H'
section
variable {P : Program} {w : World} {K : PySem.W.Frag} {mg : Str → Option Value} {base : Heap} {fD fP fPa fFr fMx fTe fLo : Addr} {fdD fdP fdPa fdFr fdMx fdTe fdLo : FuncData}
theorem scBe : FnScope ["_law_path_here", "_law_other"] ["_law_path_here", "_law_other"] (defScope sBeneath) := ⟨rfl, rfl, rfl, by decide +kernel, rfl, by decide +kernel, by decide +kernel⟩
theorem ok_beneath {f : Addr} {fd : FuncData} (F : Fun K "_law_beneath" "_law_beneath" sBeneath f fd) (T : TB mg) : FnOk P w K mg base CX0 1 f fd ["_law_path_here", "_law_other"] spBeneath := by
  refine F.ok scBe (fun vs H Q E h => ?_) (fun cdv A outer s H vs Q E hr h => ?_)
  · obtain ⟨p, q, rfl, _⟩ := h
    rfl
  · obtain ⟨p, q, rfl, hp, hq, lq, lp, k⟩ := h
    refine ⟨_, pss_one (ps_ret (pe_and (pe_cmpR op_ne (pv 0) pe_str (nomark _)) (pe_one (pe_or (pe_cmpR op_eq (pv 1) pe_str (nomark _)) (pe_one (pe_cmpR op_eq (pe_slice sl_str (pv 0) po_none (po_some (pe_op op_add (pe_callB call_len_str (by rfl) T.len PySem.boot_len (pa_cons (pv 1) pa_nil)) pe_int))) (pe_op op_add_str (pv 1) pe_str) (nomark _))))))), ?_⟩
    have shp := js_sh hp lp
    have shq := js_sh hq lq
    refine ⟨_, rfl, rfl, _, rfl, ?_⟩
    by_cases ep : p = []
    · subst ep
      have e : ben [] q = false := by
        unfold ben
        cases q <;> rfl
      rw [e] at k
      exact iteF (k H (Same.refl H))
    rw [decide_eq_false (show ¬ V.str (js p) = V.str "" from fun z => js_ne hp ep (V.str.inj z))]
    refine iteT ⟨_, rfl, rfl, _, rfl, ?_⟩
    by_cases eq : q = []
    · subst eq
      have e : ben p [] = true := ben_iff.mpr ⟨p, ep, rfl⟩
      rw [e] at k
      exact iteT (k H (Same.refl H))
    rw [decide_eq_false (show ¬ V.str (js q) = V.str "" from fun z => js_ne hq eq (V.str.inj z))]
    have add : (js q).length + ("/" : Str).length ≤ sizeLine := by
      have := shq
      unfold Sh at this
      exact Nat.le_trans (show (js q).length + 1 ≤ 1001 by omega) (by decide)
    refine iteF ⟨_, rfl, _, rfl, _, rfl, shq.line, _, _, rfl, rfl, _, rfl, js p, rfl, shp.line, _, rfl, _, _, rfl, rfl, add, rfl, ?_⟩
    have e := head_bg hp hq eq
    have e2 : decide (V.str (cutS (js p) none (some (((js q).length : Int) + 1))) = V.str (js q ++ "/")) = ben p q := by
      rw [← e, decide_eq_decide]
      exact ⟨fun z => V.str.inj z, fun z => congrArg V.str z⟩
    rw [e2]
    exact k H (Same.refl H)
end
end W

set_option maxHeartbeats 3900000
namespace W
open PySem PySem.Spec PyProof.Rows L2 TL
open C8 (pss_cut tCut pe_gc)
open CB
abbrev sRoom : Stmt := top 36
abbrev sFiles : Stmt := top 38
abbrev sWorld : Stmt := top 39
abbrev sNin : Stmt := top 41
abbrev sShows : Stmt := top 42
/-- files: paths as lists of names, each with its text -/
abbrev Fs := List (List Str × Str)
def fsK (fs : Fs) : List (L2.Key × V) := fs.map fun e => (.inr (js e.1), .str e.2)
def room (fs : Fs) (p : List Str) : Bool := !(fs.any fun e => ben p e.1 || ben e.1 p)
/-- the text of a path put in -/
def putF (fs : Fs) (p : List Str) (t : Str) : Fs := if p ∈ fs.map (·.1) then fs.map (fun e => if e.1 = p then (e.1, t) else e) else fs ++ [(p, t)]
theorem putF_keys (fs : Fs) (p : List Str) (t : Str) : (putF fs p t).map (·.1) = if p ∈ fs.map (·.1) then fs.map (·.1) else fs.map (·.1) ++ [p] := by
  unfold putF
  by_cases h : p ∈ fs.map (·.1)
  · rw [if_pos h, if_pos h, List.map_map]
    refine List.map_congr_left fun e _ => ?_
    show (if e.1 = p then (e.1, t) else e).1 = e.1
    split <;> rfl
  · rw [if_neg h, if_neg h, List.map_append]
    rfl
theorem fsK_put {fs : Fs} {p : List Str} {t : Str} (hf : ∀ e ∈ fs, Nms e.1) (hp : Nms p) : putK (fsK fs) (.inr (js p)) (.str t) = fsK (putF fs p t) := by
  have key : ∀ e ∈ fs, decide ((Sum.inr (js e.1) : L2.Key) = .inr (js p)) = decide (e.1 = p) := fun e he => decide_eq_decide.mpr ⟨fun q => js_inj (hf e he) hp (Sum.inr.inj q), fun q => by rw [q]⟩
  have an : ((fsK fs).any fun kv => decide (kv.1 = (.inr (js p) : L2.Key))) = decide (p ∈ fs.map (·.1)) := by
    unfold fsK
    rw [List.any_map, Bool.eq_iff_iff, List.any_eq_true, decide_eq_true_iff, List.mem_map]
    constructor
    · rintro ⟨e, he, q⟩
      exact ⟨e, he, of_decide_eq_true ((key e he).symm.trans q)⟩
    · rintro ⟨e, he, q⟩
      exact ⟨e, he, (key e he).trans (decide_eq_true q)⟩
  unfold putK putF
  rw [an]
  by_cases h : p ∈ fs.map (·.1)
  · rw [if_pos (decide_eq_true h), if_pos h]
    unfold fsK
    rw [List.map_map, List.map_map]
    refine List.map_congr_left fun e he => ?_
    show (if (Sum.inr (js e.1) : L2.Key) = .inr (js p) then ((Sum.inr (js e.1) : L2.Key), V.str t) else (Sum.inr (js e.1), V.str e.2)) = (Sum.inr (js (if e.1 = p then (e.1, t) else e).1), V.str (if e.1 = p then (e.1, t) else e).2)
    by_cases q : e.1 = p
    · rw [if_pos q, if_pos (by rw [q])]
    · rw [if_neg q, if_neg fun z => q (of_decide_eq_true ((key e he).symm.trans (decide_eq_true z)))]
  · rw [if_neg (fun z => h (of_decide_eq_true z)), if_neg h]
    unfold fsK
    rw [List.map_append]
    rfl
/-- files that may stand together -/
structure GoodF (zs : List Str) (fs : Fs) : Prop where
  path : ∀ e ∈ fs, e.1 ≠ [] ∧ e.1.length ≤ 3 ∧ ∀ y ∈ e.1, y ∈ zs
  text : ∀ e ∈ fs, e.2 ∈ texts
  nd : (fs.map (·.1)).Nodup
  free : ∀ p ∈ fs.map (·.1), ∀ q ∈ fs.map (·.1), ben p q = false
theorem GoodF.put {zs : List Str} {fs : Fs} {p : List Str} {t : Str} (g : GoodF zs fs) (h1 : p ≠ []) (h2 : p.length ≤ 3) (h3 : ∀ y ∈ p, y ∈ zs) (ht : t ∈ texts) (r : room fs p = true) : GoodF zs (putF fs p t) := by
  have rm : ∀ q ∈ fs.map (·.1), ben p q = false ∧ ben q p = false := fun q hq => by
    obtain ⟨e, he, rfl⟩ := List.mem_map.mp hq
    unfold room at r
    rw [Bool.not_eq_true', List.any_eq_false] at r
    have := r e he
    simp only [Bool.or_eq_true, not_or, Bool.not_eq_true] at this
    exact this
  have self : ben p p = false := by
    cases q : ben p p with
    | false => rfl
    | true =>
      unfold ben at q
      rw [Bool.and_eq_true, decide_eq_true_iff] at q
      exact absurd q.2 (Nat.lt_irrefl _)
  have keys : ∀ q ∈ (putF fs p t).map (·.1), q ∈ fs.map (·.1) ∨ q = p := fun q hq => by
    rw [putF_keys] at hq
    split at hq
    · exact .inl hq
    · exact (List.mem_append.mp hq).imp id List.mem_singleton.mp
  refine ⟨fun e he => ?_, fun e he => ?_, ?_, fun a ha b hb => ?_⟩
  · rcases keys e.1 (List.mem_map_of_mem he) with q | q
    · obtain ⟨e', he', q⟩ := List.mem_map.mp q
      rw [← q]
      exact g.path e' he'
    · rw [q]
      exact ⟨h1, h2, h3⟩
  · unfold putF at he
    split at he
    · obtain ⟨e', he', rfl⟩ := List.mem_map.mp he
      split
      · exact ht
      · exact g.text e' he'
    · rcases List.mem_append.mp he with he | he
      · exact g.text e he
      · rw [List.mem_singleton.mp he]
        exact ht
  · rw [putF_keys]
    split
    · exact g.nd
    · rename_i h
      rw [List.nodup_append]
      refine ⟨g.nd, by simp, fun a ha b hb => ?_⟩
      rw [List.mem_singleton.mp hb]
      rintro rfl
      exact h ha
  · rcases keys a ha with ha1 | ea
    · rcases keys b hb with hb1 | eb
      · exact g.free a ha1 b hb1
      · rw [eb]
        exact (rm a ha1).2
    · rw [ea]
      rcases keys b hb with hb1 | eb
      · exact (rm b hb1).1
      · rw [eb]
        exact self
theorem putF_len (fs : Fs) (p : List Str) (t : Str) : (putF fs p t).length ≤ fs.length + 1 := by
  unfold putF
  split
  · rw [List.length_map]
    omega
  · rw [List.length_append]
    exact Nat.le_refl _
def spFiles : Sp := fun vs H Q _ => ∃ (st l p : Addr) (c : Nat) (zs : List Str) (most : Nat), vs = [.ref st, .ref p, .int most] ∧ Strm H st l c ∧ c ≤ 800000 ∧ Pool H st l p zs ∧ 0 < zs.length ∧ zs.length < 1000 ∧ (∀ z ∈ zs, IsNm z) ∧ most ≤ 50 ∧
  ∀ (d : Addr) (fs : Fs) (H' : Hp) (c' : Nat), H d = none → H' d = some (.dK (fsK fs)) → GoodF zs fs → fs.length ≤ most → But st l H H' → Strm H' st l c' → c' ≤ c + 1 + 5 * most → Q (.ref d) H'
def spRoom : Sp := fun vs H Q _ => ∃ d fs p, vs = [.ref d, .str (js p)] ∧ H d = some (.dK (fsK fs)) ∧ fs.length ≤ 1000 ∧ (∀ e ∈ fs, Nms e.1 ∧ e.1.length ≤ 100) ∧ Nms p ∧ p.length ≤ 100 ∧ ∀ H', Same H H' → Q (.bl (room fs p)) H'
section
variable {P : Program} {w : World} {K : PySem.W.Frag} {mg : Str → Option Value} {base : Heap} {fBe : Addr} {fdBe : FuncData}
theorem scRoom : FnScope ["_law_files_here", "_law_path_here", "_law_one"] ["_law_files_here", "_law_path_here"] (defScope sRoom) := ⟨rfl, rfl, rfl, by decide +kernel, rfl, by decide +kernel, by decide +kernel⟩
theorem ok_room {f : Addr} {fd : FuncData} (F : Fun K "_law_has_room" "_law_has_room" sRoom f fd) (T : TB mg) (aBe : At K mg "_law_beneath" fBe fdBe ["_law_path_here", "_law_other"]) (GBe : FnOk P w K mg base CX0 1 fBe fdBe ["_law_path_here", "_law_other"] spBeneath) :
    FnOk P w K mg base CX0 2 f fd ["_law_files_here", "_law_path_here"] spRoom := by
  refine F.ok scRoom (fun vs H Q E h => ?_) (fun cdv A outer s H vs Q E hr h => ?_)
  · obtain ⟨d, fs, p, rfl, _⟩ := h
    rfl
  · obtain ⟨d, fs, p, rfl, hd, fl, hf, hp, pl, k⟩ := h
    refine ⟨_, pss_one (ps_ret (pe_not (pe_callB (cr_any rfl) (by rfl) T.any boot_any (pa_cons (pe_lock (pe_lc (own := [("_law_one", 2)]) (g := gName 2) (tt := tYes) rfl scRoom.nd (pi_keys (pv 0)) (blkOk_by (own := [("_law_one", 2)]) (N := ["_law_files_here", "_law_path_here", "_law_one"]) (sc := defScope sRoom) (by decide +kernel)) (fun _ _ _ _ _ => (pg_name (i := 2) scRoom.nd rfl (Or.inl rfl))) (fun _ _ _ _ _ => pts_nil) (fun _ _ _ _ _ => (by exact (pe_or (pe_call GBe (hr.mono (by decide)) rfl aBe.m aBe.k aBe.b .nil pass0 (pa_cons (pv 1) (pa_cons (pv 2) pa_nil))) (pe_one (pe_call GBe (hr.mono (by decide)) rfl aBe.m aBe.k aBe.b .nil pass0 (pa_cons (pv 2) (pa_cons (pv 1) pa_nil))))))))) pa_nil)))), ?_⟩
    refine ⟨d, _, hd, trivial, fun od => ⟨_, rfl, d, od, rfl, .inl ⟨fsK fs, upd_same, fun D hD => ?_⟩⟩⟩
    refine lcW (walk_keys (kvs := fsK fs)) (fs.map fun e => .bl (ben p e.1 || ben e.1 p)) (by unfold fsK; rw [List.length_map, List.length_map]) (by unfold fsK; rw [List.length_map]; omega) hD (fun H' s => s _ _ upd_same) ?_ ?_
    · rintro i x y _ H3 hy s3 ⟨rfl, k0, v, hkv, rfl⟩ Q1 k1
      unfold fsK at hkv
      rw [List.getElem?_map] at hkv hy
      obtain ⟨e, he, ek⟩ := Option.map_eq_some_iff.mp hkv
      rw [he] at hy
      cases hy
      cases ek
      have hm := hf e (List.mem_of_getElem? he)
      refine ⟨_, rfl, _, rfl, p, e.1, rfl, hp, hm.1, hm.2, pl, fun H4 s4 => ⟨_, rfl, ?_⟩⟩
      have k1 : ∀ H4, Same H3 H4 → Q1 (.bl (ben p e.1 || ben e.1 p)) H4 := k1
      cases h1 : ben p e.1 with
      | true =>
        rw [h1] at k1
        exact iteT (k1 _ s4)
      | false =>
        rw [h1] at k1
        refine iteF ⟨_, rfl, _, rfl, e.1, p, rfl, hm.1, hp, pl, hm.2, fun H5 s5 => k1 _ (s4.trans s5)⟩
    · intro H1 s1 hD1
      have su : Same H (upd H1 d (.dK (fsK fs))) := fun b u hb => by
        by_cases e : b = d
        · rw [e] at hb ⊢
          rw [upd_same, ← hd]
          exact hb
        · rw [upd_ne e]
          exact s1 _ _ (by rw [upd_ne e]; exact hb)
      refine ⟨s1 _ _ upd_same, D, fs.map fun e => ben p e.1 || ben e.1 p, rfl, SqL.of ?_, _, rfl, ?_⟩
      · rw [upd_ne (fun e => by rw [e, upd_same] at hD; cases hD), hD1, List.map_map]
        rfl
      · rw [List.any_map]
        exact k _ su
theorem scFiles : FnScope ["_law_stream", "_law_pool_here", "_law_most", "_law_files_here", "_law_k", "_law_path_here"] ["_law_stream", "_law_pool_here", "_law_most"] (defScope sFiles) := ⟨rfl, rfl, rfl, by decide +kernel, rfl, by decide +kernel, by decide +kernel⟩
theorem ok_files {f fD fPa fTe fRo : Addr} {fd fdD fdPa fdTe fdRo : FuncData} (F : Fun K "_law_files" "_law_files" sFiles f fd) (T : TB mg) (aD : aD' K mg fD fdD) (GD : FnOk P w K mg base CX0 1 fD fdD ["_law_stream", "_law_many"] spDraw)
    (aPa : At K mg "_law_path" fPa fdPa ["_law_stream", "_law_pool_here", "_law_most"]) (GPa : FnOk P w K mg base CX0 3 fPa fdPa ["_law_stream", "_law_pool_here", "_law_most"] spPath)
    (aRoom : At K mg "_law_has_room" fRo fdRo ["_law_files_here", "_law_path_here"]) (GRoom : FnOk P w K mg base CX0 2 fRo fdRo ["_law_files_here", "_law_path_here"] spRoom)
    (aTe : At K mg "_law_text" fTe fdTe ["_law_stream"]) (GTe : FnOk P w K mg base CX0 2 fTe fdTe ["_law_stream"] spText) : FnOk P w K mg base CX0 4 f fd ["_law_stream", "_law_pool_here", "_law_most"] spFiles := by
  refine F.ok scFiles (fun vs H Q E h => ?_) (fun cdv A outer s H vs Q E hr h => ?_)
  · obtain ⟨st, l, p, c, zs, most, rfl, _⟩ := h
    rfl
  · obtain ⟨st, l, p, c, zs, most, rfl, S, hc, L, z0, z1, nm, hm, k⟩ := h
    have hu := hr.units
    have hu1 := Nat.lt_of_le_of_lt (Nat.add_le_add_left (show 1 ≤ 64 by decide) _) hr.units
    refine ⟨_, pss_cons (ps_set (i := 3) scFiles.nd rfl (Or.inl rfl) pe_dnewK)
            (pss_cons (ps_for PassesOwn.never rfl (pi_range1 rfl T.range (pa_cons (pe_call GD (hr.mono (by decide)) rfl aD.m aD.k aD.b .nil pass0 (pa_cons (pv 0) (pa_cons (pe_op op_add (pv 2) pe_int) pa_nil))) pa_nil)) (pg_name (i := 4) scFiles.nd rfl (Or.inl rfl)) (pss_cons (ps_set (i := 5) scFiles.nd rfl (Or.inl rfl) (pe_call GPa (hr.mono (by decide)) rfl aPa.m aPa.k aPa.b .nil pass0 (pa_cons (pv 0) (pa_cons (pv 1) (pa_cons pe_int pa_nil)))))
            (pss_one (ps_if (pt_val (pe_call GRoom (hr.mono (by decide)) rfl aRoom.m aRoom.k aRoom.b .nil pass0 (pa_cons (pv 3) (pa_cons (pv 5) pa_nil)))) (pss_one (ps_dput hu1 (pv 3) (pv 5) (pe_call GTe (hr.mono (by decide)) rfl aTe.m aTe.k aTe.b .nil pass0 (pa_cons (pv 0) pa_nil)) rfl)) (pss_nil)))))
            (pss_one (ps_ret (pv 3)))), ?_⟩
    refine fun d hd => ?_
    have nd := S.ne_new hd
    have s0 := same_mk (o := .dK []) hd
    refine ⟨_, rfl, _, rfl, _, _, rfl, rfl, st, l, c, _, rfl, S.up s0, by omega, by omega, by omega, fun n H1 n0 n1 B1 S1 => ?_⟩
    obtain ⟨n, rfl⟩ := Int.eq_ofNat_of_zero_le n0
    have d1 : H1 d = some (.dK (fsK [])) := B1 _ _ upd_same nd.1 nd.2
    refine ⟨n, rfl, by omega, by omega, for_range (lo := 0) (n := n) (fun i σ H' => ∃ x4 x5 fs c', σ = [some (.ref st), some (.ref p), some (.int most), some (.ref d), x4, x5] ∧ But st l H H' ∧ H' d = some (.dK (fsK fs)) ∧ GoodF zs fs ∧ fs.length ≤ i ∧ Strm H' st l c' ∧ c' ≤ c + 1 + 5 * i)
      ⟨none, none, [], c + 1, rfl, (But.same s0).trans B1, d1, ⟨by simp, by simp, by simp, by simp⟩, Nat.le_refl _, S1, by omega⟩ ?_ ?_⟩
    · rintro i _ H2 hi ⟨x4, x5, fs, c2, rfl, B2, h2, g, fl, S2, hc2⟩
      refine ⟨_, rfl, _, rfl, st, l, p, c2, zs, 3, rfl, S2, by omega, L.but B2, z0, z1, nm, by decide, by decide, fun ys H3 c3 y1 y3 yz B3 S3 hc3 => ?_⟩
      have hc3' : c3 ≤ c2 + 1 + 3 := hc3
      have h3 := B3 _ _ h2 nd.1 nd.2
      have ny : Nms ys := fun y hy => nm y (yz y hy)
      have yl : ys.length ≤ 3 := by omega
      have fe : ∀ e ∈ fs, Nms e.1 ∧ e.1.length ≤ 100 := fun e he => ⟨fun y hy => nm y ((g.path e he).2.2 y hy), by have := (g.path e he).2.1; omega⟩
      refine ⟨_, rfl, _, rfl, d, fs, ys, rfl, h3, by omega, fe, ny, by omega, fun H4 s4 => ⟨_, rfl, ite2 (fun hro => ?_) (fun _ => ?_)⟩⟩
      · refine ⟨_, rfl, st, l, c3, rfl, S3.up s4, by omega, fun t H5 ht B5 S5 => ?_⟩
        have h5 := B5 _ _ (s4 _ _ h3) nd.1 nd.2
        refine ⟨_, rfl, _, rfl, d, _, rfl, DPut.k (k := .inr (js ys)) h5 (Nat.lt_of_le_of_lt (show (fsK fs).length ≤ 50 by unfold fsK; rw [List.length_map]; omega) (by decide)), ?_⟩
        have hne : ys ≠ [] := by
          rintro rfl
          simp at y1
        rw [fsK_put (fun e he => (fe e he).1) ny]
        have B6 : But st l H H5 := (B2.trans (B3.trans (But.same s4))).trans B5
        refine ⟨_, _, putF fs ys t, c3 + 1, rfl, B6.put hd, upd_same, g.put hne yl yz ht hro, Nat.le_trans (putF_len fs ys t) (by omega), S5.put nd, by omega⟩
      · exact ⟨_, _, fs, c3, rfl, B2.trans (B3.trans (But.same s4)), s4 _ _ h3, g, by omega, S3.up s4, by omega⟩
    · rintro _ H2 ⟨x4, x5, fs, c2, rfl, B2, h2, g, fl, S2, hc2⟩
      exact ⟨_, rfl, k d fs H2 c2 hd h2 g (by omega) B2 S2 (by omega)⟩
end
end W

set_option maxHeartbeats 3900000
namespace W
open PySem PySem.Spec PyProof.Rows L2 TL
open C8 (pss_cut tCut pe_gc)
open CB
/-- settings: names, each with its text -/
abbrev Ss := List (Str × Str)
def ssK (ss : Ss) : List (L2.Key × V) := ss.map fun e => (.inr e.1, .str e.2)
structure GoodS (zs : List Str) (ss : Ss) : Prop where
  name : ∀ e ∈ ss, e.1 ∈ zs
  text : ∀ e ∈ ss, e.2 ∈ texts
  nd : (ss.map (·.1)).Nodup
theorem ssK_put {ss : Ss} {n : Str} {t : Str} (h : n ∉ ss.map (·.1)) : putK (ssK ss) (.inr n) (.str t) = ssK (ss ++ [(n, t)]) := by
  have an : ((ssK ss).any fun kv => decide (kv.1 = (.inr n : L2.Key))) = false := by
    unfold ssK
    rw [List.any_map, List.any_eq_false]
    intro e he q
    have : e.1 = n := Sum.inr.inj (of_decide_eq_true q)
    exact h (this ▸ List.mem_map_of_mem he)
  unfold putK
  rw [an, if_neg (by decide)]
  unfold ssK
  rw [List.map_append]
  rfl
def tools : List Str := ["", "1", "2"]
/-- a world as the law holds it -/
def WAt (H : Hp) (x : Addr) (fs : Fs) (ss : Ss) (z : Str) : Prop := ∃ d e, H x = some (.dK [(.inr "files", .ref d), (.inr "settings", .ref e), (.inr "tool", .str z)]) ∧ H d = some (.dK (fsK fs)) ∧ H e = some (.dK (ssK ss))
theorem WAt.same {H H' : Hp} {x : Addr} {fs : Fs} {ss : Ss} {z : Str} (h : WAt H x fs ss z) (s : Same H H') : WAt H' x fs ss z := by
  obtain ⟨d, e, h1, h2, h3⟩ := h
  exact ⟨d, e, s _ _ h1, s _ _ h2, s _ _ h3⟩
theorem dk_but {H H' : Hp} {st l a : Addr} {c : Nat} {kvs : List (L2.Key × V)} (S : Strm H st l c) (B : But st l H H') (h : H a = some (.dK kvs)) : H' a = some (.dK kvs) := by
  obtain ⟨ns, u, m, ⟨g1, g2⟩, _⟩ := S.ex
  exact B _ _ h (ne_of h g1 (by intro z; cases z)) (ne_of h g2 (by intro z; cases z))
theorem WAt.but {H H' : Hp} {st l x : Addr} {c : Nat} {fs : Fs} {ss : Ss} {z : Str} (h : WAt H x fs ss z) (S : Strm H st l c) (B : But st l H H') : WAt H' x fs ss z := by
  obtain ⟨d, e, h1, h2, h3⟩ := h
  exact ⟨d, e, dk_but S B h1, dk_but S B h2, dk_but S B h3⟩
theorem cut_take (xs : List V) (d : Nat) : cutV xs none (some (d : Int)) = xs.take d := by
  show (xs.drop (HT.sIx xs.length 0 none)).take (HT.sIx xs.length xs.length (some (d : Int)) - HT.sIx xs.length 0 none) = xs.take d
  rw [HT.sIx_none, HT.sIx_nat, List.drop_zero, Nat.sub_zero]
  by_cases h : d ≤ xs.length
  · rw [Nat.min_eq_left h]
  · rw [Nat.min_eq_right (by omega), List.take_of_length_le (Nat.le_refl _), List.take_of_length_le (by omega)]
theorem disp3 (u v t : V) : mergeK [] [((.inr "files" : L2.Key), u), (.inr "settings", v), (.inr "tool", t)] = [(.inr "files", u), (.inr "settings", v), (.inr "tool", t)] := by rfl
def spWorld : Sp := fun vs H Q _ => ∃ (st l p : Addr) (c : Nat) (zs : List Str) (most : Nat), vs = [.ref st, .ref p, .int most] ∧ Strm H st l c ∧ c ≤ 700000 ∧ Pool H st l p zs ∧ 0 < zs.length ∧ zs.length < 1000 ∧ (∀ z ∈ zs, IsNm z) ∧ zs.Nodup ∧ most ≤ 50 ∧
  ∀ (x : Addr) (fs : Fs) (ss : Ss) (z : Str) (H' : Hp) (c' : Nat), WAt H' x fs ss z → GoodF zs fs → fs.length ≤ most → GoodS zs ss → ss.length ≤ 2 → z ∈ tools → But st l H H' → Strm H' st l c' → c' ≤ c + 6 + 5 * most → Q (.ref x) H'
section
variable {P : Program} {w : World} {K : PySem.W.Frag} {mg : Str → Option Value} {base : Heap}
theorem scWorld : FnScope ["_law_stream", "_law_pool_here", "_law_most", "_law_settings", "_law_name"] ["_law_stream", "_law_pool_here", "_law_most"] (defScope sWorld) := ⟨rfl, rfl, rfl, by decide +kernel, rfl, by decide +kernel, by decide +kernel⟩
theorem ok_world {f fD fTe fFi : Addr} {fd fdD fdTe fdFi : FuncData} (F : Fun K "_law_world" "_law_world" sWorld f fd) (T : TB mg) (aD : aD' K mg fD fdD) (GD : FnOk P w K mg base CX0 1 fD fdD ["_law_stream", "_law_many"] spDraw)
    (aFiles : At K mg "_law_files" fFi fdFi ["_law_stream", "_law_pool_here", "_law_most"]) (GFiles : FnOk P w K mg base CX0 4 fFi fdFi ["_law_stream", "_law_pool_here", "_law_most"] spFiles)
    (aTe : At K mg "_law_text" fTe fdTe ["_law_stream"]) (GTe : FnOk P w K mg base CX0 2 fTe fdTe ["_law_stream"] spText) : FnOk P w K mg base CX0 5 f fd ["_law_stream", "_law_pool_here", "_law_most"] spWorld := by
  refine F.ok scWorld (fun vs H Q E h => ?_) (fun cdv A outer s H vs Q E hr h => ?_)
  · obtain ⟨st, l, p, c, zs, most, rfl, _⟩ := h
    rfl
  · obtain ⟨st, l, p, c, zs, most, rfl, S, hc, L, z0, z1, nm, znd, hm, k⟩ := h
    have hu := hr.units
    have hu1 := Nat.lt_of_le_of_lt (Nat.add_le_add_left (show 1 ≤ 64 by decide) _) hr.units
    refine ⟨_, pss_cons (ps_set (i := 3) scWorld.nd rfl (Or.inl rfl) pe_dnewK)
            (pss_cons (ps_for PassesOwn.never rfl (pi_list (pe_slice sl_list (pv 1) po_none (po_some pe_int))) (pg_name (i := 4) scWorld.nd rfl (Or.inl rfl)) (pss_one (ps_if (pt_cmpR op_eq (pe_call GD (hr.mono (by decide)) rfl aD.m aD.k aD.b .nil pass0 (pa_cons (pv 0) (pa_cons pe_int pa_nil))) pe_int (nomark _)) (pss_one (ps_dput hu1 (pv 3) (pv 4) (pe_call GTe (hr.mono (by decide)) rfl aTe.m aTe.k aTe.b .nil pass0 (pa_cons (pv 0) pa_nil)) rfl)) (pss_nil))))
            (pss_one (ps_ret (pe_disp (pps_cons pe_str (pe_call GFiles (hr.mono (by decide)) rfl aFiles.m aFiles.k aFiles.b .nil pass0 (pa_cons (pv 0) (pa_cons (pv 1) (pa_cons (pv 2) pa_nil)))) (pps_cons pe_str (pv 3) (pps_cons pe_str (pe_ix ix_list (pe_lst (pa_cons pe_str (pa_cons pe_str (pa_cons pe_str pa_nil)))) (pe_call GD (hr.mono (by decide)) rfl aD.m aD.k aD.b .nil pass0 (pa_cons (pv 0) (pa_cons pe_int pa_nil))) (fun _ _ => rfl)) pps_nil))) rfl rfl (by simp) (by decide))))), ?_⟩
    refine fun e he => ?_
    have ne := S.ne_new he
    have s0 := same_mk (o := .dK []) he
    refine ⟨_, rfl, 2, rfl, p, _, rfl, SqL.of (s0 _ _ L.h), fun q hq => ?_⟩
    rw [show cutV (zs.map V.str) none (some (2 : Int)) = (zs.take 2).map V.str from (cut_take _ 2).trans List.map_take.symm]
    have nq := (S.up s0).ne_new hq
    have s1 := s0.trans (same_mk (o := .lst ((zs.take 2).map V.str)) hq)
    have qe : q ≠ e := fun z => by rw [z, upd_same] at hq; cases hq
    have lt2 : (zs.take 2).length ≤ 2 := by rw [List.length_take]; omega
    refine ⟨q, rfl, ⟨_, SqL.of upd_same⟩, for_it (walk_list (K := K) (a := q) (xs := (zs.take 2).map V.str)) (fun i σ H' => ∃ x4 ss c', σ = [some (.ref st), some (.ref p), some (.int most), some (.ref e), x4] ∧ But st l H H' ∧ H' q = some (.lst ((zs.take 2).map V.str)) ∧ H' e = some (.dK (ssK ss)) ∧ GoodS zs ss ∧ ss.length ≤ i ∧ (∀ n ∈ ss.map (·.1), n ∈ (zs.take 2).take i) ∧ Strm H' st l c' ∧ c' ≤ c + 2 * i)
      ⟨none, [], c, rfl, But.same s1, upd_same, by rw [upd_ne qe.symm]; exact upd_same, ⟨by simp, by simp, by simp⟩, Nat.le_refl _, by simp, S.up s1, by omega⟩ (fun i σ H' _ q' => by obtain ⟨_, _, _, _, _, h, _⟩ := q'; exact SqL.of h) ?_ ?_⟩
    · rintro i x _ H2 H3 hi ⟨x4, ss, c2, rfl, B2, hq2, he2, g, sl, sub, S2, hc2⟩ ⟨rfl, hx⟩
      rw [List.length_map] at hi
      rw [List.getElem?_map, List.getElem?_eq_getElem hi] at hx
      cases hx
      have hnm : (zs.take 2)[i] ∈ zs := List.mem_of_mem_take (List.getElem_mem hi)
      have tk : (zs.take 2).take (i + 1) = (zs.take 2).take i ++ [(zs.take 2)[i]] := by
        rw [List.take_succ, List.getElem?_eq_getElem hi]
        rfl
      have sub' : ∀ n ∈ ss.map (·.1), n ∈ (zs.take 2).take (i + 1) := fun n hn => by
        rw [tk]
        exact List.mem_append_left _ (sub n hn)
      have new : (zs.take 2)[i] ∉ ss.map (·.1) := fun hn => by
        obtain ⟨j, hj, ej⟩ := List.getElem_of_mem (sub _ hn)
        rw [List.getElem_take] at ej
        have hj' : j < i := by
          rw [List.length_take] at hj
          omega
        have := (List.getElem_inj (znd.sublist (List.take_sublist 2 zs))).mp ej
        omega
      refine ⟨_, rfl, st, l, c2, 2, rfl, S2, by omega, by decide, by decide, fun n H3 n0 n1 B3 S3 => ⟨rfl, _, rfl, ite2 (fun _ => ?_) (fun _ => ?_)⟩⟩
      · refine ⟨_, rfl, st, l, c2 + 1, rfl, S3, by omega, fun t H4 ht B4 S4 => ?_⟩
        have he4 := B4 _ _ (B3 _ _ he2 ne.1 ne.2) ne.1 ne.2
        have hq4 := B4 _ _ (B3 _ _ hq2 nq.1 nq.2) nq.1 nq.2
        refine ⟨_, rfl, _, rfl, e, _, rfl, DPut.k (k := .inr (zs.take 2)[i]) he4 (Nat.lt_of_le_of_lt (show (ssK ss).length ≤ 2 by unfold ssK; rw [List.length_map]; omega) (by decide)), ?_⟩
        rw [ssK_put new]
        have B5 := B2.trans (B3.trans B4)
        refine ⟨_, ss ++ [((zs.take 2)[i], t)], c2 + 2, rfl, B5.put he, by rw [upd_ne qe]; exact hq4, upd_same, ⟨fun a ha => ?_, fun a ha => ?_, ?_⟩, by rw [List.length_append]; show ss.length + 1 ≤ i + 1; omega, fun n hn => ?_, S4.put ne, by omega⟩
        · rcases List.mem_append.mp ha with h | h
          · exact g.name a h
          · rw [List.mem_singleton.mp h]; exact hnm
        · rcases List.mem_append.mp ha with h | h
          · exact g.text a h
          · rw [List.mem_singleton.mp h]; exact ht
        · rw [List.map_append, List.nodup_append]
          refine ⟨g.nd, by simp, fun a ha b hb => ?_⟩
          rw [List.mem_singleton.mp hb]
          rintro rfl
          exact new ha
        · rw [List.map_append] at hn
          rcases List.mem_append.mp hn with h | h
          · exact sub' n h
          · rw [tk, List.mem_singleton.mp h]
            exact List.mem_append_right _ (List.mem_singleton.mpr rfl)
      · exact ⟨_, ss, c2 + 1, rfl, B2.trans B3, B3 _ _ hq2 nq.1 nq.2, B3 _ _ he2 ne.1 ne.2, g, by omega, sub', S3, by omega⟩
    · rintro _ H2 ⟨x4, ss, c2, rfl, B2, hq2, he2, g, sl, sub, S2, hc2⟩
      rw [List.length_map] at sl hc2
      refine fun x hx => ?_
      have nx := S2.ne_new hx
      have sx := same_mk (o := .dK []) hx
      refine ⟨_, rfl, _, rfl, _, rfl, st, l, p, c2, zs, most, rfl, S2.up sx, by omega, (L.but B2).but (But.same sx), z0, z1, nm, hm, fun d fs H3 c3 hd hd3 gf fl B3 S3 hc3 => ?_⟩
      have hx3 := B3 _ _ (upd_same (H := H2) (a := x) (o := .dK [])) nx.1 nx.2
      have he3 := B3 _ _ (sx _ _ he2) ne.1 ne.2
      refine ⟨_, rfl, by show 3 ≤ sizeLine; decide, fun r hr' => ?_⟩
      have sr := same_mk (o := .lst [.str "", .str "1", .str "2"]) hr'
      have nr := S3.ne_new hr'
      refine ⟨_, rfl, st, l, c3, 3, rfl, S3.up sr, by omega, by decide, by decide, fun n H4 n0 n1 B4 S4 => ?_⟩
      obtain ⟨n, rfl⟩ := Int.eq_ofNat_of_zero_le n0
      have hr4 := B4 _ _ (upd_same (H := H3) (a := r) (o := .lst [.str "", .str "1", .str "2"])) nr.1 nr.2
      have hx4 := B4 _ _ (sr _ _ hx3) nx.1 nx.2
      have he4 := B4 _ _ (sr _ _ he3) ne.1 ne.2
      have hd4 := dk_but (S3.up sr) B4 (sr _ _ hd3)
      have xe : x ≠ e := fun z => by rw [z, he2] at hx; cases hx
      have xd : x ≠ d := fun z => by rw [← z, upd_same] at hd; cases hd
      have BB : But st l H (upd H4 x (.dK [(.inr "files", .ref d), (.inr "settings", .ref e), (.inr "tool", .str (tools.getD n ""))])) := by
        have b1 : But st l H H4 := B2.trans ((But.same sx).trans (B3.trans ((But.same sr).trans B4)))
        intro b u hb h1 h2
        have hbx : b ≠ x := fun z => by rw [z] at hb; rw [B2 _ _ hb (z ▸ h1) (z ▸ h2)] at hx; cases hx
        rw [upd_ne hbx]
        exact b1 b u hb h1 h2
      have fin : ∀ z, z = tools.getD n "" → z ∈ tools → Q (.ref x) (upd H4 x (.dK [(.inr "files", .ref d), (.inr "settings", .ref e), (.inr "tool", .str z)])) := fun z ez hz => by
        subst ez
        exact k x fs ss _ _ (c3 + 1) ⟨d, e, upd_same, by rw [upd_ne xd.symm]; exact hd4, by rw [upd_ne xe.symm]; exact he4⟩ gf fl g (by omega) hz BB (S4.put nx) (by omega)
      have n3 : n = 0 ∨ n = 1 ∨ n = 2 := by omega
      rcases n3 with rfl | rfl | rfl
      · exact ⟨r, _, ((0 : Nat) : Int), _, rfl, rfl, SqL.of hr4, atI_nat rfl, hx4, [(.inr "files", .ref d), (.inr "settings", .ref e), (.inr "tool", .str "")], rfl, by show 3 ≤ 15; decide, by rw [disp3]; exact fin _ rfl (by decide +kernel)⟩
      · exact ⟨r, _, ((1 : Nat) : Int), _, rfl, rfl, SqL.of hr4, atI_nat rfl, hx4, [(.inr "files", .ref d), (.inr "settings", .ref e), (.inr "tool", .str "1")], rfl, by show 3 ≤ 15; decide, by rw [disp3]; exact fin _ rfl (by decide +kernel)⟩
      · exact ⟨r, _, ((2 : Nat) : Int), _, rfl, rfl, SqL.of hr4, atI_nat rfl, hx4, [(.inr "files", .ref d), (.inr "settings", .ref e), (.inr "tool", .str "2")], rfl, by show 3 ≤ 15; decide, by rw [disp3]; exact fin _ rfl (by decide +kernel)⟩
end
end W

set_option maxHeartbeats 3900000
namespace W
open PySem PySem.Spec PyProof.Rows L2 TL
open C8 (pss_cut tCut pe_gc)
open CB
/-! d != {} -/
def rNeE : R2 := fun x y H Q => ∃ a b kvs, x = .ref a ∧ y = .ref b ∧ H a = some (.dK kvs) ∧ H b = some (.dK []) ∧ Q (.bl (!kvs.isEmpty)) H
theorem op_neE {X : Cx} (hu : X.A.units < cLine) : OpR X (compareOp .NotEq) rNeE := by
  intro pins s σ H x y v u Q I rx ry h
  obtain ⟨a, b, ks, rfl, rfl, ea, eb, q⟩ := h
  cases rx
  cases ry
  obtain ⟨_, ya, va, ra, da⟩ := (show ObjOk X.prog X.w H s.heap a (.dK ks) from I.hok a _ ea)
  obtain ⟨_, yb, vb, rb, db⟩ := (show ObjOk X.prog X.w H s.heap b (.dK []) from I.hok b _ eb)
  have l1 := ra.length
  have l2 := rb.length
  have hits : va.length = vb.length → PySem.W.KeqHits X.A.in1 s vb va true := fun e => by
    cases va with
    | nil => exact .nil
    | cons z r => rw [← l2] at e; cases e
  refine PySem.W.keq_ne (knd := mixKind X.prog X.w) (r := true) ya yb da db hu hits ⟨.bl _, H, I, rfl, ?_⟩
  have e : (va.length == vb.length && true) = ks.isEmpty := by
    rw [← l1, ← l2]
    cases ks <;> rfl
  rw [e]
  exact q
/-- what lies beneath a folder: names, each with whether it is a folder itself -/
abbrev Nm := List (Str × Bool)
def nmK (fm : Nm) : List (L2.Key × V) := fm.map fun e => (.inr e.1, .str (ent e.1 e.2))
/-- the name n beneath q, as a folder or as a file -/
def Has (fs : Fs) (q : List Str) (n : Str) (b : Bool) : Prop := ∃ e ∈ fs, ∃ r, e.1 = q ++ n :: r ∧ b = decide (r ≠ [])
structure Fm (fs : Fs) (q : List Str) (fm : Nm) : Prop where
  nd : (fm.map (·.1)).Nodup
  has : ∀ n b, (n, b) ∈ fm ↔ Has fs q n b
def addN (fm : Nm) (n : Str) (b : Bool) : Nm := if n ∈ fm.map (·.1) then fm else fm ++ [(n, b)]
theorem nm_put {fm : Nm} {n : Str} {b : Bool} (h : ∀ c, (n, c) ∈ fm → c = b) : putK (nmK fm) (.inr n) (.str (ent n b)) = nmK (addN fm n b) := by
  have an : ((nmK fm).any fun kv => decide (kv.1 = (.inr n : L2.Key))) = decide (n ∈ fm.map (·.1)) := by
    unfold nmK
    rw [List.any_map, Bool.eq_iff_iff, List.any_eq_true, decide_eq_true_iff, List.mem_map]
    constructor
    · rintro ⟨e, he, q⟩
      exact ⟨e, he, Sum.inr.inj (of_decide_eq_true q)⟩
    · rintro ⟨e, he, q⟩
      exact ⟨e, he, decide_eq_true (by show (Sum.inr e.1 : L2.Key) = .inr n; rw [q])⟩
  unfold putK addN
  rw [an]
  by_cases hn : n ∈ fm.map (·.1)
  · rw [if_pos (decide_eq_true hn), if_pos hn]
    unfold nmK
    rw [List.map_map]
    refine List.map_congr_left fun e he => ?_
    show (if (Sum.inr e.1 : L2.Key) = .inr n then ((Sum.inr e.1 : L2.Key), V.str (ent n b)) else (Sum.inr e.1, V.str (ent e.1 e.2))) = (Sum.inr e.1, V.str (ent e.1 e.2))
    by_cases q : e.1 = n
    · have hb : e.2 = b := h e.2 (by rw [← q]; exact he)
      rw [if_pos (by rw [q]), q, hb]
    · rw [if_neg fun z => q (Sum.inr.inj z)]
  · rw [if_neg (fun z => hn (of_decide_eq_true z)), if_neg hn]
    unfold nmK
    rw [List.map_append]
    rfl
theorem has_one {zs : List Str} {fs : Fs} (g : GoodF zs fs) {q : List Str} {n : Str} {b c : Bool} (h1 : Has fs q n b) (h2 : Has fs q n c) : b = c := by
  obtain ⟨e1, m1, r1, p1, rfl⟩ := h1
  obtain ⟨e2, m2, r2, p2, rfl⟩ := h2
  have f1 := g.free _ (List.mem_map_of_mem m1) _ (List.mem_map_of_mem m2)
  have f2 := g.free _ (List.mem_map_of_mem m2) _ (List.mem_map_of_mem m1)
  by_cases a1 : r1 = []
  · by_cases a2 : r2 = []
    · rw [a1, a2]
    · have : ben e2.1 e1.1 = true := ben_iff.mpr ⟨r2, a2, by rw [p1, p2, a1]; simp⟩
      rw [this] at f2
      cases f2
  · by_cases a2 : r2 = []
    · have : ben e1.1 e2.1 = true := ben_iff.mpr ⟨r1, a1, by rw [p1, p2, a2]; simp⟩
      rw [this] at f1
      cases f1
    · rw [decide_eq_true a1, decide_eq_true a2]
theorem has_take {fs : Fs} {i : Nat} (hi : i < fs.length) {q : List Str} {n : Str} {b : Bool} : Has (fs.take (i + 1)) q n b ↔ Has (fs.take i) q n b ∨ ∃ r, fs[i].1 = q ++ n :: r ∧ b = decide (r ≠ []) := by
  have tk : fs.take (i + 1) = fs.take i ++ [fs[i]] := by
    rw [List.take_succ, List.getElem?_eq_getElem hi]
    rfl
  unfold Has
  rw [tk]
  constructor
  · rintro ⟨e, he, r, h1, h2⟩
    rcases List.mem_append.mp he with he | he
    · exact .inl ⟨e, he, r, h1, h2⟩
    · rw [List.mem_singleton.mp he] at h1
      exact .inr ⟨r, h1, h2⟩
  · rintro (⟨e, he, r, h1, h2⟩ | ⟨r, h1, h2⟩)
    · exact ⟨e, List.mem_append_left _ he, r, h1, h2⟩
    · exact ⟨fs[i], List.mem_append_right _ (List.mem_singleton.mpr rfl), r, h1, h2⟩
theorem Has.whole {fs : Fs} {i : Nat} {q : List Str} {n : Str} {b : Bool} (h : Has (fs.take i) q n b) : Has fs q n b := by
  obtain ⟨e, he, r⟩ := h
  exact ⟨e, List.mem_of_mem_take he, r⟩
theorem Fm.no {fs : Fs} {i : Nat} {q : List Str} {fm : Nm} (h : Fm (fs.take i) q fm) (hi : i < fs.length) (hb : ben fs[i].1 q = false) : Fm (fs.take (i + 1)) q fm := by
  refine ⟨h.nd, fun n b => (h.has n b).trans ⟨fun k => (has_take hi).mpr (.inl k), fun k => ?_⟩⟩
  rcases (has_take hi).mp k with k | ⟨r, h1, _⟩
  · exact k
  · have : ben fs[i].1 q = true := ben_iff.mpr ⟨n :: r, by simp, h1⟩
    rw [this] at hb
    cases hb
theorem Fm.yes {zs : List Str} {fs : Fs} (g : GoodF zs fs) {i : Nat} {q : List Str} {fm : Nm} (h : Fm (fs.take i) q fm) (hi : i < fs.length) {n : Str} {r : List Str} (he : fs[i].1 = q ++ n :: r) : Fm (fs.take (i + 1)) q (addN fm n (decide (r ≠ []))) := by
  have here : Has (fs.take (i + 1)) q n (decide (r ≠ [])) := (has_take hi).mpr (.inr ⟨r, he, rfl⟩)
  unfold addN
  by_cases hn : n ∈ fm.map (·.1)
  · rw [if_pos hn]
    obtain ⟨e, hm, en⟩ := List.mem_map.mp hn
    have hm' : (n, e.2) ∈ fm := by rw [← en]; exact hm
    have old := (h.has n e.2).mp hm'
    refine ⟨h.nd, fun m b => ⟨fun k => (has_take hi).mpr (.inl ((h.has m b).mp k)), fun k => ?_⟩⟩
    rcases (has_take hi).mp k with k | ⟨r', h1, h2⟩
    · exact (h.has m b).mpr k
    · rw [he] at h1
      have e3 := List.append_cancel_left h1
      obtain ⟨rfl, rfl⟩ := List.cons.inj e3
      have := has_one g old.whole (here.whole)
      rw [h2, ← this]
      exact hm'
  · rw [if_neg hn]
    refine ⟨?_, fun m b => ?_⟩
    · rw [List.map_append, List.nodup_append]
      refine ⟨h.nd, by simp, fun a ha c hc => ?_⟩
      rw [List.mem_singleton.mp hc]
      rintro rfl
      exact hn ha
    · rw [List.mem_append, h.has m b, has_take hi, List.mem_singleton, Prod.mk.injEq]
      constructor
      · rintro (k | ⟨rfl, rfl⟩)
        · exact .inl k
        · exact .inr ⟨r, he, rfl⟩
      · rintro (k | ⟨r', h1, h2⟩)
        · exact .inl k
        · rw [he] at h1
          obtain ⟨rfl, rfl⟩ := List.cons.inj (List.append_cancel_left h1)
          exact .inr ⟨rfl, h2⟩
theorem addN_len (fm : Nm) (n : Str) (b : Bool) : (addN fm n b).length ≤ fm.length + 1 := by
  unfold addN
  split
  · omega
  · rw [List.length_append]
    exact Nat.le_refl _
theorem perm_lift {α β : Type} {f : α → β} : ∀ {ys : List β} {l : List α}, ys.Perm (l.map f) → ∃ zs : List α, ys = zs.map f ∧ zs.Perm l
  | [], l, h => by
    have := h.length_eq
    rw [List.length_map] at this
    exact ⟨[], rfl, by rw [List.length_eq_zero_iff.mp this.symm]⟩
  | y :: ys, l, h => by
    obtain ⟨a, ha, rfl⟩ := List.mem_map.mp (h.mem_iff.mp List.mem_cons_self)
    obtain ⟨s, t, rfl⟩ := List.append_of_mem ha
    have p1 : (f a :: ys).Perm (f a :: (s ++ t).map f) := h.trans (by
      have := (List.perm_middle (a := a) (l₁ := s) (l₂ := t)).map f
      exact this)
    obtain ⟨zs, e, pz⟩ := perm_lift p1.cons_inv
    exact ⟨a :: zs, by rw [e]; rfl, (pz.cons a).trans List.perm_middle.symm⟩
theorem nm_val {fm : Nm} (nd : (fm.map (·.1)).Nodup) : ∀ e ∈ fm, valV (nmK fm) (.inr e.1) = some (.str (ent e.1 e.2)) := by
  induction fm with
  | nil => intro e he; cases he
  | cons a r ih =>
    intro e he
    rw [List.map_cons, List.nodup_cons] at nd
    unfold valV nmK
    rw [List.map_cons, List.find?_cons]
    rcases List.mem_cons.mp he with rfl | he
    · rw [show decide ((Sum.inr e.1 : L2.Key) = .inr e.1) = true from decide_eq_true rfl]
      rfl
    · have ne : a.1 ≠ e.1 := fun q => nd.1 (q ▸ List.mem_map_of_mem he)
      rw [show decide ((Sum.inr a.1 : L2.Key) = .inr e.1) = false from decide_eq_false fun q => ne (Sum.inr.inj q)]
      exact ih nd.2 e he
def spNin : Sp := fun vs H Q _ => ∃ d fs zs q, vs = [.ref d, .str (js q)] ∧ H d = some (.dK (fsK fs)) ∧ GoodF zs fs ∧ (∀ z ∈ zs, IsNm z) ∧ fs.length ≤ 50 ∧ Nms q ∧ q.length ≤ 100 ∧
  ∀ fm : Nm, Fm fs q fm → (fm = [] → q ≠ [] → ∀ H', Same H H' → Q .non H') ∧ ((fm ≠ [] ∨ q = []) → ∀ (t : Addr) (ys : Nm) (H' : Hp), Same H H' → ys.Perm fm → sortedS (ys.map (·.1)) = true → H' t = some (.tup (ys.map fun e => .str (ent e.1 e.2))) → Q (.ref t) H')
section
variable {P : Program} {w : World} {K : PySem.W.Frag} {mg : Str → Option Value} {base : Heap}
theorem scNin : FnScope ["_law_files_here", "_law_folder", "_law_found", "_law_path_here", "_law_rest", "_law_name"] ["_law_files_here", "_law_folder"] (defScope sNin) := ⟨rfl, rfl, rfl, by decide +kernel, rfl, by decide +kernel, by decide +kernel⟩
theorem ok_nin {f fBe : Addr} {fd fdBe : FuncData} (F : Fun K "_law_names_in" "_law_names_in" sNin f fd) (T : TB mg) (aBe : At K mg "_law_beneath" fBe fdBe ["_law_path_here", "_law_other"]) (GBe : FnOk P w K mg base CX0 1 fBe fdBe ["_law_path_here", "_law_other"] spBeneath) :
    FnOk P w K mg base CX0 2 f fd ["_law_files_here", "_law_folder"] spNin := by
  refine F.ok scNin (fun vs H Q E h => ?_) (fun cdv A outer s H vs Q E hr h => ?_)
  · obtain ⟨d, fs, zs, q, rfl, _⟩ := h
    rfl
  · obtain ⟨d, fs, zs, q, rfl, hd, g, nm, fl, hq, ql, k⟩ := h
    have hu := hr.units
    have hu0 := hr.units0
    have hu1 := Nat.lt_of_le_of_lt (Nat.add_le_add_left (show 1 ≤ 64 by decide) _) hr.units
    refine ⟨_, pss_cons (ps_set (i := 2) scNin.nd rfl (Or.inr rfl) pe_dnewK)
            (pss_cons (ps_lock (ps_for PassesOwn.never rfl (pi_keys (pv 0)) (pg_name (i := 3) scNin.nd rfl (Or.inl rfl)) (pss_one (ps_if (pt_val (pe_call GBe (hr.mono (by decide)) rfl aBe.m aBe.k aBe.b .nil pass0 (pa_cons (pv 3) (pa_cons (pv 1) pa_nil)))) (pss_cons (ps_set (i := 4) scNin.nd rfl (Or.inl rfl) (pe_slice sl_str (pv 3) (po_some (pe_op op_add (pe_callB call_len_str (by rfl) T.len PySem.boot_len (pa_cons (pv 1) pa_nil)) (pe_callTy call_int1 (by rfl) T.int (by decide +kernel) (pa_cons (pe_cmpR op_ne (pv 1) pe_str (nomark _)) pa_nil)))) po_none))
            (pss_cons (ps_set (i := 5) scNin.nd rfl (Or.inl rfl) (pe_ix ix_list (pe_bm PySem.F.plainAttrs_str PySem.F.slot_str_split PySem.F.type_str_split mt_split (pv 4) (pa_cons pe_str pa_nil)) pe_int (fun _ _ => rfl)))
            (pss_one (ps_dput hu1 (pv 2) (pv 5) (pe_ifExp (pt_cmpR op_eq (pv 4) (pv 5) (nomark _)) (pv 5) (pe_op op_add_str (pv 5) pe_str)) rfl)))) (pss_nil)))))
            (pss_one (ps_ret (pe_ifExp (PW.pt (pw_or (pt_cmpR (op_neE hu0) (pv 2) pe_dnewK (nomark _)) (pw_or1 (pt_cmpR op_eq (pv 1) pe_str (nomark _))))) (pe_callTy call_tuple_of (by rfl) T.tuple (by decide +kernel) (pa_cons (pe_lc (own := [("_law_name", 5)]) (g := gName 5) (tt := tYes) rfl scNin.nd (pi_list (pe_callB (call_sortedD rfl) (by rfl) T.sorted (by decide +kernel) (pa_cons (pv 2) pa_nil))) (blkOk_by (own := [("_law_name", 5)]) (N := ["_law_files_here", "_law_folder", "_law_found", "_law_path_here", "_law_rest", "_law_name"]) (sc := defScope sNin) (by decide +kernel)) (fun _ _ _ _ _ => (pg_name (i := 5) scNin.nd rfl (Or.inl rfl))) (fun _ _ _ _ _ => pts_nil) (fun _ _ _ _ _ => (by exact (pe_dget hu1 (pv 2) (pv 5) (fun _ _ => rfl))))) pa_nil)) pe_non)))), ?_⟩
    refine fun fo hfo => ?_
    have s0 := same_mk (o := .dK []) hfo
    have dfo : d ≠ fo := fun z => by rw [← z, hd] at hfo; cases hfo
    have up : ∀ H2 : Hp, (∀ b u, H b = some u → b ≠ d → H2 b = some u) → Same H (upd H2 d (.dK (fsK fs))) := fun H2 kp b u hb => by
      by_cases e : b = d
      · rw [e] at hb ⊢
        rw [upd_same, ← hd]
        exact hb
      · rw [upd_ne e]
        exact kp b u hb e
    refine ⟨d, _, s0 _ _ hd, trivial, fun od => ⟨_, rfl, d, od, rfl, .inl ⟨fsK fs, upd_same, for_it (walk_keys (kvs := fsK fs)) (fun i σ H' => ∃ x3 x4 x5 fm, σ = [some (.ref d), some (.str (js q)), some (.ref fo), x3, x4, x5] ∧ (∀ b u, H b = some u → b ≠ d → H' b = some u) ∧ H' d = some (.frz od (.dK (fsK fs))) ∧ H' fo = some (.dK (nmK fm)) ∧ Fm (fs.take i) q fm ∧ fm.length ≤ i)
      ⟨none, none, none, [], rfl, fun b u hb nb => by rw [upd_ne nb]; exact s0 _ _ hb, upd_same, by rw [upd_ne dfo.symm]; exact upd_same, ⟨by simp, by simp [Has]⟩, Nat.le_refl _⟩ (fun i σ H' _ z => by obtain ⟨_, _, _, _, _, _, h, _⟩ := z; exact h) ?_ ?_⟩⟩⟩
    · rintro i x _ H2 H3 hi ⟨x3, x4, x5, fm, rfl, kp, hd2, hf2, Fm2, fml⟩ ⟨rfl, k0, v, hkv, rfl⟩
      unfold fsK at hi
      rw [List.length_map] at hi
      unfold fsK at hkv
      rw [List.getElem?_map, List.getElem?_eq_getElem hi] at hkv
      cases hkv
      have em : fs[i] ∈ fs := List.getElem_mem hi
      obtain ⟨p0, p3, pz⟩ := g.path _ em
      have np : Nms fs[i].1 := fun y hy => nm y (pz y hy)
      refine ⟨_, rfl, _, rfl, fs[i].1, q, rfl, np, hq, ql, by omega, fun H4 s4 => ⟨_, rfl, ite2 (fun hb => ?_) (fun hb => ?_)⟩⟩
      · obtain ⟨r', hr0, er⟩ := ben_iff.mp hb
        match r', hr0, er with
        | n :: r, _, er =>
          have nr : Nms (n :: r) := fun y hy => np y (by rw [er]; exact List.mem_append_right _ hy)
          have hn : IsNm n := nr n List.mem_cons_self
          have jl1 := js_len hq
          have jl2 := js_len np
          have big : ∀ m : Nat, m ≤ 2000 → m ≤ sizeLine := fun m hm => Nat.le_trans hm (by decide)
          refine ⟨_, rfl, _, rfl, js q, rfl, big _ (by omega), _, rfl, rfl, .inr ⟨_, rfl, _, _, rfl, rfl, _, rfl, js fs[i].1, rfl, big _ (by omega), ?_⟩⟩
          have hcut : cutS (js fs[i].1) (some ((((js q).length : Nat) : Int) + (if (!decide (V.str (js q) = V.str "")) = true then 1 else 0))) none = js (n :: r) := by
            have e1 : ((((js q).length : Nat) : Int) + (if (!decide (V.str (js q) = V.str "")) = true then 1 else 0)) = (((bg q).length : Nat) : Int) := by
              rw [bg_len, dec_str, len_tl, tl_js]
              by_cases hq0 : q = []
              · subst hq0
                rfl
              · rw [if_neg hq0, beq_eq_false_iff_ne.mpr (js_ne hq hq0)]
                simp
            rw [e1, er]
            exact rest_bg q (by simp)
          rw [hcut]
          have jl3 := js_len nr
          have rl : (n :: r).length ≤ 3 := by
            rw [er, List.length_append] at p3
            omega
          refine ⟨_, rfl, rfl, js (n :: r), "/", rfl, rfl, rfl, big _ (by omega), fun l hl => ?_⟩
          rw [split_js nr (by simp)] at *
          have s5 := same_mk (o := .lst ((n :: r).map V.str)) hl
          have s45 := s4.trans s5
          refine ⟨l, _, ((0 : Nat) : Int), _, rfl, rfl, SqL.of upd_same, atI_nat rfl, ?_⟩
          have kp5 : ∀ b u, H b = some u → b ≠ d → upd H4 l (.lst ((n :: r).map V.str)) b = some u := fun b u hb nb => s45 _ _ (kp b u hb nb)
          have hd5 := s45 _ _ hd2
          have hf5 := s45 _ _ hf2
          generalize upd H4 l (.lst ((n :: r).map V.str)) = H5 at kp5 hd5 hf5 ⊢
          have lim : (nmK fm).length < sizeLine := Nat.lt_of_le_of_lt (show (nmK fm).length ≤ 50 by unfold nmK; rw [List.length_map]; omega) (by decide)
          have one : ∀ c, (n, c) ∈ fm → c = decide (r ≠ []) := fun c hc => has_one g ((Fm2.has n c).mp hc).whole ⟨fs[i], em, r, er, rfl⟩
          have fin : ∀ t, t = ent n (decide (r ≠ [])) → (∃ x3 x4 x5 fm', [some (V.ref d), some (V.str (js q)), some (V.ref fo), some (V.str (js fs[i].1)), some (V.str (js (n :: r))), some (V.str n)] = [some (V.ref d), some (.str (js q)), some (.ref fo), x3, x4, x5] ∧ (∀ b u, H b = some u → b ≠ d → upd H5 fo (.dK (putK (nmK fm) (.inr n) (.str t))) b = some u) ∧ upd H5 fo (.dK (putK (nmK fm) (.inr n) (.str t))) d = some (.frz od (.dK (fsK fs))) ∧ upd H5 fo (.dK (putK (nmK fm) (.inr n) (.str t))) fo = some (.dK (nmK fm')) ∧ Fm (fs.take (i + 1)) q fm' ∧ fm'.length ≤ i + 1) := fun t et => by
            subst et
            rw [nm_put one]
            refine ⟨_, _, _, addN fm n (decide (r ≠ [])), rfl, fun b u hb nb => ?_, by rw [upd_ne dfo]; exact hd5, upd_same, Fm2.yes g hi er, Nat.le_trans (addN_len fm n _) (by omega)⟩
            rw [upd_ne (fun e => by rw [e, hfo] at hb; cases hb)]
            exact kp5 b u hb nb
          have hsz : n.length + ("/" : Str).length ≤ sizeLine := by
            have h8 := hn.2.1
            have e1 : ("/" : Str).length = 1 := by decide +kernel
            exact big _ (by omega)
          by_cases hr1 : r = []
          · subst hr1
            refine ⟨_, rfl, _, rfl, rfl, _, rfl, ?_⟩
            rw [js_one, decide_eq_true rfl]
            refine iteT ⟨_, rfl, _, rfl, _, rfl, fo, _, rfl, DPut.k (k := .inr n) hf5 lim, ?_⟩
            have q1 := fin n rfl
            rw [js_one] at q1
            exact q1
          · refine ⟨_, rfl, _, rfl, rfl, _, rfl, ?_⟩
            rw [decide_eq_false (fun e => hr1 (List.cons.inj (js_inj nr (q := [n]) (fun y hy => by rw [List.mem_singleton.mp hy]; exact hn) ((V.str.inj e).trans (js_one n).symm))).2)]
            refine iteF ⟨_, rfl, n, "/", rfl, rfl, hsz, _, rfl, _, rfl, fo, _, rfl, DPut.k (k := .inr n) hf5 lim, ?_⟩
            exact fin (n ++ "/") (by unfold ent; rw [if_pos (decide_eq_true hr1)])
      · exact ⟨_, _, _, fm, rfl, fun b u hb' nb => s4 _ _ (kp b u hb' nb), s4 _ _ hd2, s4 _ _ hf2, Fm2.no hi (by simpa using hb), by omega⟩
    · rintro _ H2 ⟨x3, x4, x5, fm, rfl, kp, hd2, hf2, Fm2, fml⟩
      have el : (fsK fs).length = fs.length := by unfold fsK; rw [List.length_map]
      rw [el] at Fm2 fml
      rw [List.take_length] at Fm2
      have su := up H2 kp
      have hf3 : upd H2 d (.dK (fsK fs)) fo = some (.dK (nmK fm)) := by rw [upd_ne dfo.symm]; exact hf2
      refine ⟨hd2, ?_⟩
      generalize upd H2 d (.dK (fsK fs)) = H3 at su hf3 ⊢
      obtain ⟨kno, kyes⟩ := k fm Fm2
      refine ⟨_, rfl, fun p0 n0 => ⟨fo, p0, nmK fm, rfl, rfl, same_mk n0 _ _ hf3, upd_same, _, rfl, ?_⟩⟩
      have s0' := same_mk (o := .dK []) n0
      have hf4 := s0' _ _ hf3
      have su4 := su.trans s0'
      generalize upd H3 p0 (.dK []) = H4 at hf4 su4 ⊢
      have em : (nmK fm).isEmpty = decide (fm = []) := by
        cases fm with
        | nil => rfl
        | cons a r => rfl
      rw [em]
      have hkeys : (nmK fm).map (·.1) = (fm.map (·.1)).map Sum.inr := by
        unfold nmK
        rw [List.map_map, List.map_map]
        rfl
      by_cases hfm : fm = []
      · rw [decide_eq_true hfm]
        by_cases hq0 : q = []
        · refine iteF ⟨_, rfl, rfl, _, rfl, ?_⟩
          rw [show decide (V.str (js q) = V.str "") = true from decide_eq_true (by rw [hq0]; rfl)]
          refine iteT ?_
          refine ⟨_, rfl, fo, nmK fm, fm.map (·.1), rfl, .inl hf4, hkeys, by rw [List.length_map]; omega, fun ys p pm srt hp => ?_⟩
          obtain ⟨zs, rfl, pz⟩ := perm_lift pm
          have zl := pz.length_eq
          have s5 := same_mk (o := .lst ((zs.map (·.1)).map V.str)) hp
          have hl5 : upd H4 p (.lst ((zs.map (·.1)).map V.str)) p = some (.lst (zs.map fun e => V.str e.1)) := by rw [upd_same, List.map_map]; rfl
          refine ⟨p, rfl, ⟨_, SqL.of hl5⟩, fun D hD => ?_⟩
          refine lc_mapL zs (fun e => V.str e.1) (fun e => .str (ent e.1 e.2)) (by omega) hD (SqL.of hl5) (fun e he H6 s6 Q1 k1 => ?_) (fun H6 s6 hD6 => ?_)
          · have dg := DGet.k (k := .inr e.1) ((s5.trans s6) _ _ hf4)
            rw [nm_val Fm2.nd e (pz.mem_iff.mp he)] at dg
            exact ⟨_, rfl, _, rfl, fo, _, rfl, dg, k1 H6 (Same.refl H6)⟩
          · refine ⟨D, _, rfl, .inl ⟨SqL.of hD6, fun t ht => ?_⟩⟩
            exact kyes (.inr hq0) t zs _ ((su4.trans (s5.trans s6)).trans (same_mk ht)) pz srt upd_same
        · refine iteF ⟨_, rfl, rfl, _, rfl, ?_⟩
          rw [decide_eq_false fun e => js_ne hq hq0 (V.str.inj e)]
          exact iteF (kno hfm hq0 _ su4)
      · rw [decide_eq_false hfm]
        refine iteT ?_
        refine ⟨_, rfl, fo, nmK fm, fm.map (·.1), rfl, .inl hf4, hkeys, by rw [List.length_map]; omega, fun ys p pm srt hp => ?_⟩
        obtain ⟨zs, rfl, pz⟩ := perm_lift pm
        have zl := pz.length_eq
        have s5 := same_mk (o := .lst ((zs.map (·.1)).map V.str)) hp
        have hl5 : upd H4 p (.lst ((zs.map (·.1)).map V.str)) p = some (.lst (zs.map fun e => V.str e.1)) := by rw [upd_same, List.map_map]; rfl
        refine ⟨p, rfl, ⟨_, SqL.of hl5⟩, fun D hD => ?_⟩
        refine lc_mapL zs (fun e => V.str e.1) (fun e => .str (ent e.1 e.2)) (by omega) hD (SqL.of hl5) (fun e he H6 s6 Q1 k1 => ?_) (fun H6 s6 hD6 => ?_)
        · have dg := DGet.k (k := .inr e.1) ((s5.trans s6) _ _ hf4)
          rw [nm_val Fm2.nd e (pz.mem_iff.mp he)] at dg
          exact ⟨_, rfl, _, rfl, fo, _, rfl, dg, k1 H6 (Same.refl H6)⟩
        · refine ⟨D, _, rfl, .inl ⟨SqL.of hD6, fun t ht => ?_⟩⟩
          exact kyes (.inl hfm) t zs _ ((su4.trans (s5.trans s6)).trans (same_mk ht)) pz srt upd_same
end
end W

set_option maxHeartbeats 3900000
namespace W
open PySem PySem.Spec PyProof.Rows L2 TL
open C8 (pss_cut tCut pe_gc)
open CB
def oV : Option Str → V
  | some t => .str t
  | none => .non
def fOf (fs : Fs) (p : List Str) : Option Str := (fs.find? fun e => decide (e.1 = p)).map (·.2)
def sOf (ss : Ss) (n : Str) : Option Str := (ss.find? fun e => decide (e.1 = n)).map (·.2)
theorem fs_val {fs : Fs} (h : ∀ e ∈ fs, Nms e.1) {p : List Str} (hp : Nms p) : valV (fsK fs) (.inr (js p)) = (fOf fs p).map V.str := by
  induction fs with
  | nil => rfl
  | cons a r ih =>
    unfold valV fsK fOf
    rw [List.map_cons, List.find?_cons, List.find?_cons]
    have ha := h a List.mem_cons_self
    by_cases e : a.1 = p
    · rw [show decide ((Sum.inr (js a.1) : L2.Key) = .inr (js p)) = true from decide_eq_true (by rw [e]), decide_eq_true e]
      rfl
    · rw [show decide ((Sum.inr (js a.1) : L2.Key) = .inr (js p)) = false from decide_eq_false fun q => e (js_inj ha hp (Sum.inr.inj q)), decide_eq_false e]
      exact ih fun x hx => h x (List.mem_cons_of_mem _ hx)
theorem ss_val {ss : Ss} {n : Str} : valV (ssK ss) (.inr n) = (sOf ss n).map V.str := by
  induction ss with
  | nil => rfl
  | cons a r ih =>
    unfold valV ssK sOf
    rw [List.map_cons, List.find?_cons, List.find?_cons]
    by_cases e : a.1 = n
    · rw [show decide ((Sum.inr a.1 : L2.Key) = .inr n) = true from decide_eq_true (by rw [e]), decide_eq_true e]
      rfl
    · rw [show decide ((Sum.inr a.1 : L2.Key) = .inr n) = false from decide_eq_false fun q => e (Sum.inr.inj q), decide_eq_false e]
      exact ih
section
variable {H : Hp} {x d e : Addr} {z : Str}
theorem wd_f (h : H x = some (.dK [(.inr "files", .ref d), (.inr "settings", .ref e), (.inr "tool", .str z)])) : DGet H x (.str "files") (some (.ref d)) := DGet.k (k := .inr "files") h
theorem wd_s (h : H x = some (.dK [(.inr "files", .ref d), (.inr "settings", .ref e), (.inr "tool", .str z)])) : DGet H x (.str "settings") (some (.ref e)) := DGet.k (k := .inr "settings") h
theorem wd_t (h : H x = some (.dK [(.inr "files", .ref d), (.inr "settings", .ref e), (.inr "tool", .str z)])) : DGet H x (.str "tool") (some (.str z)) := DGet.k (k := .inr "tool") h
end
/-- what a look shows of a world -/
def Ans (H : Hp) (fs : Fs) (ss : Ss) (z : Str) (v : V) : Lk → Prop
  | .rd p => v = oV (fOf fs p)
  | .ls q => ∃ fm, Fm fs q fm ∧ ((fm = [] ∧ q ≠ [] ∧ v = .non) ∨ ((fm ≠ [] ∨ q = []) ∧ ∃ t ys, v = .ref t ∧ List.Perm ys fm ∧ sortedS (ys.map (·.1)) = true ∧ H t = some (.tup (ys.map fun e => .str (ent e.1 e.2)))))
  | .se n => v = oV (sOf ss n)
  | .tl => v = .str z
def LkP : Lk → Prop
  | .rd p => Nms p ∧ p.length ≤ 100
  | .ls p => Nms p ∧ p.length ≤ 100
  | .se n => IsNm n
  | .tl => True
def spShows : Sp := fun vs H Q _ => ∃ x t zs fs ss z k, vs = [.ref x, .ref t] ∧ WAt H x fs ss z ∧ H t = some (.tup (lkV k)) ∧ LkP k ∧ GoodF zs fs ∧ (∀ z ∈ zs, IsNm z) ∧ fs.length ≤ 50 ∧ ∀ v H', Same H H' → Ans H' fs ss z v k → Q v H'
abbrev sShw : Stmt := sShows
section
variable {P : Program} {w : World} {K : PySem.W.Frag} {mg : Str → Option Value} {base : Heap}
theorem scShows : FnScope ["_law_w", "_law_look_here"] ["_law_w", "_law_look_here"] (defScope sShows) := ⟨rfl, rfl, rfl, by decide +kernel, rfl, by decide +kernel, by decide +kernel⟩
theorem ok_shows {f fNi : Addr} {fd fdNi : FuncData} (F : Fun K "_law_shows" "_law_shows" sShows f fd) (T : TB mg) (aNin : At K mg "_law_names_in" fNi fdNi ["_law_files_here", "_law_folder"]) (GNin : FnOk P w K mg base CX0 2 fNi fdNi ["_law_files_here", "_law_folder"] spNin) :
    FnOk P w K mg base CX0 3 f fd ["_law_w", "_law_look_here"] spShows := by
  refine F.ok scShows (fun vs H Q E h => ?_) (fun cdv A outer s H vs Q E hr h => ?_)
  · obtain ⟨x, t, zs, fs, ss, z, k, rfl, _⟩ := h
    rfl
  · have hu1 := Nat.lt_of_le_of_lt (Nat.add_le_add_left (show 1 ≤ 64 by decide) _) hr.units
    obtain ⟨x, t, zs, fs, ss, z, k, rfl, ⟨d, e, hx, hd, he⟩, ht, kp, g, nm, fl, kk⟩ := h
    refine ⟨_, pss_cons (ps_if (pt_cmpR op_eq (pe_ix ix_tup (pv 1) pe_int (fun _ _ => rfl)) pe_str (nomark _)) (pss_one (ps_ret (pe_dget1 hu1 (pe_dget hu1 (pv 0) pe_str (fun _ _ => rfl)) (pe_ix ix_tup (pv 1) pe_int (fun _ _ => rfl)) ⟨rfl, rfl, rfl, rfl⟩))) (pss_nil))
            (pss_cons (ps_if (pt_cmpR op_eq (pe_ix ix_tup (pv 1) pe_int (fun _ _ => rfl)) pe_str (nomark _)) (pss_one (ps_ret (pe_call GNin (hr.mono (by decide)) rfl aNin.m aNin.k aNin.b .nil pass0 (pa_cons (pe_dget hu1 (pv 0) pe_str (fun _ _ => rfl)) (pa_cons (pe_ix ix_tup (pv 1) pe_int (fun _ _ => rfl)) pa_nil))))) (pss_nil))
            (pss_one (ps_ret (pe_ifExp (pt_cmpR op_eq (pe_ix ix_tup (pv 1) pe_int (fun _ _ => rfl)) pe_str (nomark _)) (pe_dget1 hu1 (pe_dget hu1 (pv 0) pe_str (fun _ _ => rfl)) (pe_ix ix_tup (pv 1) pe_int (fun _ _ => rfl)) ⟨rfl, rfl, rfl, rfl⟩) (pe_dget hu1 (pv 0) pe_str (fun _ _ => rfl)))))), ?_⟩
    have e1 : ∀ a b : Str, decide (V.str a = V.str b) = decide (a = b) := fun a b => decide_eq_decide.mpr ⟨V.str.inj, fun q => by rw [q]⟩
    have nf : ∀ y ∈ fs, Nms y.1 := fun y hy w hw => nm w ((g.path y hy).2.2 w hw)
    cases k with
    | rd p =>
      refine ⟨_, rfl, t, _, ((0 : Nat) : Int), _, rfl, rfl, SqT.of ht, atI_nat rfl, rfl, _, rfl, ?_⟩
      rw [e1]
      refine iteT ⟨_, rfl, x, _, rfl, wd_f hx, d, rfl, .inl ⟨_, .inl hd⟩, _, rfl, t, _, ((1 : Nat) : Int), _, rfl, rfl, SqT.of ht, atI_nat rfl, ?_⟩
      have dg := DGet.k (k := .inr (js p)) hd
      rw [fs_val nf kp.1] at dg
      refine ⟨_, dg, ?_⟩
      have q := kk (oV (fOf fs p)) H (Same.refl H) rfl
      cases ho : fOf fs p with
      | none => rw [ho] at q; exact q
      | some y => rw [ho] at q; exact q
    | ls p =>
      refine ⟨_, rfl, t, _, ((0 : Nat) : Int), _, rfl, rfl, SqT.of ht, atI_nat rfl, rfl, _, rfl, ?_⟩
      rw [e1]
      refine iteF ⟨_, rfl, t, _, ((0 : Nat) : Int), _, rfl, rfl, SqT.of ht, atI_nat rfl, rfl, _, rfl, ?_⟩
      rw [e1]
      refine iteT ⟨_, rfl, x, _, rfl, wd_f hx, _, rfl, t, _, ((1 : Nat) : Int), _, rfl, rfl, SqT.of ht, atI_nat rfl, ?_⟩
      exact ⟨d, fs, zs, p, rfl, hd, g, nm, fl, kp.1, kp.2, fun fm hfm => ⟨fun e0 nq H' s' => kk .non H' s' ⟨fm, hfm, .inl ⟨e0, nq, rfl⟩⟩, fun why u ys H' s' pm srt hu => kk (.ref u) H' s' ⟨fm, hfm, .inr ⟨why, u, ys, rfl, pm, srt, hu⟩⟩⟩⟩
    | se n =>
      refine ⟨_, rfl, t, _, ((0 : Nat) : Int), _, rfl, rfl, SqT.of ht, atI_nat rfl, rfl, _, rfl, ?_⟩
      rw [e1]
      refine iteF ⟨_, rfl, t, _, ((0 : Nat) : Int), _, rfl, rfl, SqT.of ht, atI_nat rfl, rfl, _, rfl, ?_⟩
      rw [e1]
      refine iteF ⟨_, rfl, t, _, ((0 : Nat) : Int), _, rfl, rfl, SqT.of ht, atI_nat rfl, rfl, _, rfl, ?_⟩
      rw [e1]
      refine iteT ⟨_, rfl, x, _, rfl, wd_s hx, e, rfl, .inl ⟨_, .inl he⟩, _, rfl, t, _, ((1 : Nat) : Int), _, rfl, rfl, SqT.of ht, atI_nat rfl, ?_⟩
      have dg := DGet.k (k := .inr n) he
      rw [ss_val] at dg
      refine ⟨_, dg, ?_⟩
      have q := kk (oV (sOf ss n)) H (Same.refl H) rfl
      cases ho : sOf ss n with
      | none => rw [ho] at q; exact q
      | some y => rw [ho] at q; exact q
    | tl =>
      refine ⟨_, rfl, t, _, ((0 : Nat) : Int), _, rfl, rfl, SqT.of ht, atI_nat rfl, rfl, _, rfl, ?_⟩
      rw [e1]
      refine iteF ⟨_, rfl, t, _, ((0 : Nat) : Int), _, rfl, rfl, SqT.of ht, atI_nat rfl, rfl, _, rfl, ?_⟩
      rw [e1]
      refine iteF ⟨_, rfl, t, _, ((0 : Nat) : Int), _, rfl, rfl, SqT.of ht, atI_nat rfl, rfl, _, rfl, ?_⟩
      rw [e1]
      refine iteF ⟨_, rfl, x, _, rfl, wd_t hx, ?_⟩
      exact kk (.str z) H (Same.refl H) rfl
end
end W

set_option maxHeartbeats 3900000
/-! sets of texts that may be gone through: {e for ..}, sorted of one -/
namespace SX
open PySem PySem.Spec PyProof.Rows L2 PpSet
def textOf : Value → Str
  | .str x _ => x
  | _ => ""
abbrev txs (es : Array (Int × Value)) : List Str := es.toList.map fun e => textOf e.2
structure Tab (w : World) (es : Array (Int × Value)) (t : SetTable) (S : Str → Bool) (n : Nat) : Prop where
  good : ∀ e ∈ es.toList, ∃ x k, e = (keyH w (.inr x), Value.str x k)
  nd : (txs es).Nodup
  mem : ∀ x, S x = true ↔ x ∈ txs es
  small : es.size < scanBound
  fits : t.fits es.size = true
  size : es.size = n
  ris : Ris t.place.toList
  led : w.params.followText "set-order" = true ∨ t.led = true
def SetT (w : World) (h : Heap) (a : Addr) (S : Str → Bool) (n : Nat) : Prop := ∃ o es ep t, h.get? a = some o ∧ o.ExactSet ∧ o.data = .set es ep t ∧ Tab w es t S n
theorem SetT.at {w : World} {h h' : Heap} {a : Addr} {S : Str → Bool} {n : Nat} (R : SetT w h a S n) (k : ∀ o, h.get? a = some o → h'.get? a = some o) : SetT w h' a S n := by
  obtain ⟨o, es, ep, t, ho, r⟩ := R
  exact ⟨o, es, ep, t, k o ho, r⟩
section
variable {P : Program} {w : World} {es : Array (Int × Value)} {t : SetTable} {S : Str → Bool} {n : Nat}
theorem Tab.elems (T : Tab w es t S n) : ElemsOf (mixKind P w) es.toList := fun e he => by
  obtain ⟨x, k, rfl⟩ := T.good e he
  exact ⟨⟨.inr x, kV_is (k := .inr x) (u := Value.str x k) ⟨k, rfl⟩, rfl⟩, rfl⟩
theorem Tab.moved (T : Tab w es t S n) {es2 : Array (Int × Value)} {t2 : SetTable} (pm : es2.toList.Perm es.toList) (f : t2.fits es2.size = true) (r : Ris t2.place.toList) (l : t2.led = t.led) : Tab w es2 t2 S n := by
  have hs : es2.size = es.size := by rw [← Array.length_toList, pm.length_eq, Array.length_toList]
  exact ⟨fun e he => T.good e (pm.mem_iff.mp he), (pm.map _).nodup_iff.mpr T.nd, fun x => (T.mem x).trans (pm.map _).mem_iff.symm, by rw [hs]; exact T.small, f, by rw [hs]; exact T.size, r, T.led.imp id fun z => by rw [l]; exact z⟩
theorem Tab.again (T : Tab w es t S n) {x : Str} (hx : S x = true) : Tab w es t (fun j => S j || decide (j = x)) n :=
  ⟨T.good, T.nd, fun j => by
    rw [Bool.or_eq_true, decide_eq_true_eq, ← T.mem j]
    exact ⟨fun z => z.elim id fun e => e ▸ hx, .inl⟩, T.small, T.fits, T.size, T.ris, T.led⟩
theorem Tab.more (T : Tab w es t S n) {x : Str} {k : Tok} (hx : S x = false) (room : n + 1 < scanBound) {es2 : Array (Int × Value)} {t2 : SetTable} (pm : es2.toList.Perm (es.push (keyH w (.inr x), .str x k)).toList) (f : t2.fits es2.size = true) (r : Ris t2.place.toList) (l : t2.led = t.led) :
    Tab w es2 t2 (fun j => S j || decide (j = x)) (n + 1) := by
  rw [Array.toList_push] at pm
  have pc := pm.trans (List.perm_append_singleton _ _)
  have pk : (txs es2).Perm (x :: txs es) := pc.map fun e => textOf e.2
  have nx : x ∉ txs es := fun z => by
    rw [(T.mem x).mpr z] at hx
    cases hx
  have hs : es2.size = n + 1 := by rw [← Array.length_toList, pc.length_eq, List.length_cons, Array.length_toList, T.size]
  refine ⟨fun e he => ?_, pk.nodup_iff.mpr (List.nodup_cons.mpr ⟨nx, T.nd⟩), fun j => ?_, by rw [hs]; exact room, f, hs, r, T.led.imp id fun z => by rw [l]; exact z⟩
  · rcases List.mem_cons.mp (pc.mem_iff.mp he) with z | z
    · exact ⟨x, k, z⟩
    · exact T.good e z
  · rw [Bool.or_eq_true, decide_eq_true_eq, T.mem j, pk.mem_iff, List.mem_cons]
    exact Or.comm
theorem Tab.hit (T : Tab w es t S n) {e : Int × Value} (he : e ∈ es.toList) {x : Str} (h : (mixKind P w).is (.inr x) e.2 = true) : S x = true := by
  obtain ⟨y, k, rfl⟩ := T.good e he
  rcases keyIs_shape (show keyIs (.inr x) (Value.str y k) = true from h) with ⟨i, t, e1, e2⟩ | ⟨z, t, e1, e2⟩
  · cases e1
  · cases e1
    cases e2
    exact (T.mem x).mpr (List.mem_map.mpr ⟨_, he, rfl⟩)
theorem Tab.miss (T : Tab w es t S n) {x : Str} (h : List.findIdx? (fun e => (mixKind P w).is (.inr x) e.2) es.toList = none) : S x = false := by
  cases q : S x with
  | false => rfl
  | true =>
    obtain ⟨e, he, ex⟩ := List.mem_map.mp ((T.mem x).mp q)
    obtain ⟨y, k, rfl⟩ := T.good e he
    have c := List.findIdx?_eq_none_iff.mp h _ he
    have c2 : (mixKind P w).is (.inr y) (Value.str y k) = true := kV_is (k := .inr y) (u := Value.str y k) ⟨k, rfl⟩
    rw [show y = x from ex] at c c2
    rw [c2] at c
    cases c
end
section
variable {P : Program} {w : World} {A : Around} {E : Value → Shared → Prop} {s : Shared} {a : Addr} {S : Str → Bool} {n : Nat}
theorem put_at {h : Heap} {o : Obj} {es es' : Array (Int × Value)} {ep : Nat} {t t' : SetTable} (ho : h.get? a = some o) (hd : o.data = .set es ep t) : (h.update a (Obj.putSet es' t')).get? a = some { o with data := .set es' (ep + 1) t' } := storeB_at ho hd
theorem tail {g : Bool → Sem Unit} (hg : ∀ (b : Bool) (s₁ : Shared) (Q' : Unit → Shared → Prop), Q' () s₁ → wpAny (model P w) A (g b) Q' E s₁) {o : Obj} {es : Array (Int × Value)} {ep : Nat} {t : SetTable} (ho : s.heap.get? a = some o) (hex : o.ExactSet) (hd : o.data = .set es ep t)
    {es1 : Array (Int × Value)} {t2 : SetTable} (T : Tab w es1 t2 S n) {wd : Bool} {R : Option Bool → Shared → Prop} (hR : ∀ h', Heap.SameBut a s.heap h' → SetT w h' a S n → R (some true) { s with heap := h' }) :
    wpAny (model P w) A (do
      storeSet a es1 t2
      if (!wd && t2.tooFull) = true then
        (do g (relayAll t2 es1
              (SetTable.grown es1.size)).2.2
            storeSet a (relayAll t2 es1
              (SetTable.grown es1.size)).1 (relayAll t2 es1
              (SetTable.grown es1.size)).2.1
            pure (some true))
      else pure (some true)) R E s := by
  refine wpAny_bind (wpAny_storeSet_of ho hd ?_ (fits_of_scanBound T.small))
  have ho1 := put_at (es' := es1) (t' := t2) ho hd
  have sb1 := Heap.SameBut.update s.heap a (Obj.putSet es1 t2)
  split
  · have T3 := T.moved (relayAll_perm t2 es1 (SetTable.grown es1.size)) (relayAll_fits ..) (relayAll_ris ..) (relayAll_led ..)
    refine wpAny_bind (hg _ _ _ (wpAny_bind (wpAny_storeSet_of ho1 rfl ?_ (fits_of_scanBound T3.small))))
    exact wpAny_pure (hR _ (sb1.trans (Heap.SameBut.update _ a _)) ⟨_, _, _, _, put_at ho1 rfl, hex, rfl, T3⟩)
  · exact wpAny_pure (hR _ sb1 ⟨_, _, _, _, ho1, hex, rfl, T⟩)
theorem add_hashed {x : Str} {k : Tok} {Q : Bool → Shared → Prop} (R : SetT w s.heap a S n) (room : n + 1 < scanBound)
    (hQ : ∀ h', Heap.SameBut a s.heap h' → SetT w h' a (fun j => S j || decide (j = x)) (if S x = true then n else n + 1) → Q (!S x) { s with heap := h' }) : wpAny (model P w) A (setAddHashed a (.str x k) ((mixKind P w).hash (.inr x))) Q E s := by
  obtain ⟨o, es, ep, t, ho, hex, hd, T⟩ := R
  have hkey : (mixKind P w).is (.inr x) (Value.str x k) = true := kV_is (k := .inr x) (u := Value.str x k) ⟨k, rfl⟩
  have hsc : (Value.str x k).scannable = true := rfl
  have hel : ElemsOf (mixKind P w) es.toList := T.elems
  unfold setAddHashed setAddHashedIn
  refine wpAny_holding (wpAny_bind (wpAny_setState_of ho hd T.fits ?_))
  dsimp only
  rw [byScan_of hsc T.small hel]
  simp only [↓reduceIte]
  unfold setAddByScan
  refine wpAny_bind (wpAny_bind (wpAny_rule (wpAny_bind (wpAny_setScan_of hkey ho hd T.fits hel ?_))))
  cases hfi : List.findIdx? (fun e => (mixKind P w).is (.inr x) e.2) es.toList with
  | some j =>
    obtain ⟨hj, pj, _⟩ := List.findIdx?_eq_some_iff_getElem.mp hfi
    have hS := T.hit (List.getElem_mem hj) pj
    have q := hQ s.heap (Heap.SameBut.refl a s.heap) ⟨o, es, ep, t, ho, hex, hd, by rw [if_pos hS]; exact T.again hS⟩
    rw [hS] at q
    exact wpAny_pure (wpAny_pure q)
  | none =>
    have hS := T.miss hfi
    dsimp only
    have gw : ∀ (b : Bool) {s₁ : Shared} {Q' : Unit → Shared → Prop}, Q' () s₁ → wpAny (model P w) A (match b with | true => rule "set.scan.the-table-gave-way" | false => pure ()) Q' E s₁ := fun b s₁ Q' q => by
      cases b
      · exact wpAny_pure q
      · exact wpAny_rule q
    have pm := layNew_perm t es ((mixKind P w).hash (.inr x)) (.str x k)
    have f1 := layNew_fits t es ((mixKind P w).hash (.inr x)) (.str x k)
    have r1 := layNew_ris t es ((mixKind P w).hash (.inr x)) (.str x k) T.ris
    have l1 := layNew_led t es ((mixKind P w).hash (.inr x)) (.str x k)
    generalize layNew t es ((mixKind P w).hash (.inr x)) (.str x k) = Z at pm f1 r1 l1 ⊢
    obtain ⟨es1, t1, wd, gave⟩ := Z
    dsimp only at pm f1 r1 l1 ⊢
    have T1 := T.more hS room pm f1 r1 l1
    have fin : ∀ h', Heap.SameBut a s.heap h' → SetT w h' a (fun j => S j || decide (j = x)) (n + 1) → Q true { s with heap := h' } := fun h' sb r => by
      have q := hQ h' sb
      rw [hS] at q
      exact q r
    refine wpAny_bind (gw _ ?_)
    have gg : ∀ (b : Bool) (s₁ : Shared) (Q' : Unit → Shared → Prop), Q' () s₁ → wpAny (model P w) A (match b with | true => rule "set.scan.the-table-gave-way" | false => pure ()) Q' E s₁ := fun b s₁ Q' q => gw b q
    split
    · refine wpAny_bind ?_
      rw [hashByValue_scannable 8 hsc]
      refine wpAny_pure ?_
      refine tail gg ho hex hd (S := fun j => S j || decide (j = x)) (n := n + 1) ?_ fun h' sb r => wpAny_pure (fin h' sb r)
      split
      · exact T1
      · exact T1.moved (List.Perm.refl _) (SetTable.fits_plain_off f1) r1 rfl
    · refine wpAny_bind (wpAny_pure ?_)
      simp only [↓reduceIte]
      exact tail gg ho hex hd (S := fun j => S j || decide (j = x)) (n := n + 1) T1 fun h' sb r => wpAny_pure (fin h' sb r)
/-- found.add(x) -/
theorem add {x : Str} {k : Tok} {Q : Value → Shared → Prop} (R : SetT w s.heap a S n) (room : n + 1 < scanBound)
    (hQ : ∀ h', Heap.SameBut a s.heap h' → SetT w h' a (fun j => S j || decide (j = x)) (if S x = true then n else n + 1) → Q .none { s with heap := h', toks := s.toks + 1 }) :
    wpAny (model P w) A (call (.builtin "set.add") [.ref a, .str x k]) Q E s := by
  have hT : s.TypeIs (.ref a) "set" := by
    obtain ⟨o, es, ep, t, ho, hex, _⟩ := R
    exact ⟨o, ho, hex.1⟩
  refine wpAny_call_entry F.slot_set_add hT F.entry_set_add ?_ (F.args_set_add_2 _ _)
  unfold Builtin.«set.add» Builtin.Frozenset.oneOther
  simp only [List.isEmpty_nil, bind_assoc]
  unfold Builtin.Frozenset.addrOf setAdd
  refine wpAny_bind (wpAny_pure ?_)
  try dsimp only
  refine wpAny_bind (wpAny_pure ?_)
  try dsimp only
  refine wpAny_bind (wpAny_holding (wpAny_bind ((mixKind P w).pyHash (kV_is (k := .inr x) (u := Value.str x k) ⟨k, rfl⟩) ?_)))
  refine add_hashed (s := { s with toks := s.toks + 1 }) R room fun h' sb r => ?_
  show wpAny _ _ (ret Value.none) _ _ _
  exact wpAny_pure ⟨_, rfl, hQ h' sb r⟩
theorem fresh {h : Heap} (w : World) : SetT w (h.push { cls := .type "set", dict := none, data := .set #[] 0 (.fresh 0 0 (!w.params.followText "set-order")) }) h.objs.size (fun _ => false) 0 := by
  refine ⟨_, #[], 0, _, Heap.get?_push_size _ rfl, ⟨rfl, rfl, rfl⟩, rfl, (fun e he => by simp at he), by simp [txs], (fun k => by simp [txs]), by decide, by rfl, rfl, List.Pairwise.nil, ?_⟩
  show _ ∨ (!w.params.followText "set-order") = true
  cases w.params.followText "set-order"
  · exact .inr rfl
  · exact .inl rfl
end
/-- the set of texts at a, as a tracked thing -/
def SetTO (w : World) (a : Addr) (S : Str → Bool) (n : Nat) : HO := .ext fun h => SetT w h a S n
theorem new_ok {w : World} {P : Program} {H : Hp} {h : Heap} {a : Addr} {S : Str → Bool} {n : Nat} (R : SetT w h a S n) : ObjOk P w H h a (SetTO w a S n) := by
  have ⟨o, _, _, _, ho, _⟩ := R
  exact ⟨R, ⟨o, ho⟩, fun h1 h2 p k => SetT.at p k⟩
section
variable {X : Cx} {pins : List (Addr × Obj)} {σ : L2.St} {H : Hp} {s : Shared} {a : Addr} {S : Str → Bool} {n : Nat}
theorem get (I : Inv X pins σ H s) (ha : H a = some (SetTO X.w a S n)) : SetT X.w s.heap a S n := (I.hok a _ ha).1
theorem add_in {E : Value → Shared → Prop} {x : Str} {k : Tok} {Q : Value → Shared → Prop} (I : Inv X pins σ H s) (hD : H a = some (SetTO X.w a S n)) (room : n + 1 < scanBound)
    (h : ∀ s', Inv X pins σ (upd H a (SetTO X.w a (fun j => S j || decide (j = x)) (if S x = true then n else n + 1))) s' → Q .none s') : wpAny (model X.prog X.w) X.A (call (.builtin "set.add") [.ref a, .str x k]) Q E s := by
  refine add (get I hD) room fun h' sb new => ?_
  have he : ∃ u, h'.get? a = some u := by
    have ⟨o, _, _, _, ho, _⟩ := new
    exact ⟨o, ho⟩
  exact h _ (I.write (e := a) (t' := s.toks + 1) (by rw [hD]; trivial) (.inl rfl) (fun b u hb hu => (sb.2 b hb).trans hu) he (new_ok new))
end
theorem strs_of : ∀ (l : List Value), (∀ v ∈ l, ∃ x k, v = Value.str x k) → StrsAre l (l.map textOf)
  | [], _ => .nil
  | v :: r, h => by
    obtain ⟨x, k, rfl⟩ := h v List.mem_cons_self
    exact .cons _ _ (strs_of r fun u hu => h u (List.mem_cons_of_mem _ hu))
/-- sorted of a set of fewer than 64 texts -/
def rSortT (w : World) : List V → Hp → VK → Prop := fun vs H Q => ∃ (a : Addr) (S : Str → Bool) (n : Nat), vs = [V.ref a] ∧ H a = some (SetTO w a S n) ∧ n < 64 ∧
  ∀ (ys : List Str) (p : Addr), (∀ x, x ∈ ys ↔ S x = true) → ys.Nodup → ys.length = n → sortedS ys = true → H p = none → Q (.ref p) (upd H p (.lst (ys.map V.str)))
section
variable {X : Cx}
theorem cr_sortT (hc : X.calm = true) : CallR X (.builtin "sorted") (rSortT X.w) := by
  intro pins s σ H vs us Q I r h
  obtain ⟨a, S, n, rfl, ha, h64, q⟩ := h
  obtain ⟨o, es, ep, t, ho, hex, hd, T⟩ := get I ha
  rw [Vals.ref1 r]
  refine Calls.call_function_entry kind_sorted plain_sorted entry_sorted (args_sorted1 _) ?_
  unfold Builtin.«sorted»
  refine wpAny_bind (m := checkCount "sorted" 1 1 _) (wpAny_pure (wpAny_bind ?_))
  refine collect_set (A := X.A.in1) (I.ok.hd hc) ⟨o, ho, hex.1, hd⟩ T.fits T.small T.ris T.led fun s1 out k1 hz g1 o1 pm => ?_
  have ol : out.length = n := by rw [pm.length_eq, List.length_map, Array.length_toList, T.size]
  have hS : StrsAre out (out.map textOf) := strs_of out fun v hv => by
    obtain ⟨e, he, rfl⟩ := List.mem_map.mp (pm.mem_iff.mp hv)
    obtain ⟨x, k, rfl⟩ := T.good e he
    exact ⟨x, k, rfl⟩
  have pt : (out.map textOf).Perm (txs es) := by
    have z := pm.map textOf
    rw [List.map_map] at z
    exact z
  have I1 : Inv X pins σ H s1 := I.call' (ch := []) o1 (Un.kept k1) (I.hok.kept k1) (by rw [g1]; exact I.bare) (fun _ z => nomatch z)
  refine wpAny_bind (wpAny_newList ?_ (by rw [ol, sizeLine_eq]; omega))
  have hoL : (s1.heap.push (seqObj "list" out.toArray 0)).get? s1.heap.objs.size = some (seqObj "list" out.toArray 0) := Heap.get?_push_size _ rfl
  show wpAny _ _ _ _ _ { s1 with heap := s1.heap.push (seqObj "list" out.toArray 0) }
  refine wpAny_bind (wpAny_holding (wpAny_call_entry slot_list_sort ⟨_, hoL, rfl⟩ entry_list_sort ?_ (args_list_sort _)))
  refine list_sort_treeK strKind_oneLt (s := { s1 with heap := s1.heap.push (seqObj "list" out.toArray 0) }) hoL hS.keysOf (fun v₁ v₂ rest e => keyKind_strs (by rw [← e]; exact hS)) (by rw [ol]; exact h64) fun st' hp hs => ⟨_, rfl, ?_⟩
  obtain ⟨ys, e1, e2, e3⟩ := sorted_out_str hS hp hs
  obtain ⟨e', he'⟩ := sortedHeap_at (vs := out) (out := (arrOf st').map (·.2)) hoL
  have yl : ys.length = n := by rw [e2.length_eq, List.length_map, ol]
  have hlen : (ys.map V.str).length ≤ sizeLine := by
    rw [List.length_map, yl]
    exact Nat.le_trans (Nat.le_of_lt h64) (by decide)
  have pp := e2.trans pt
  refine wpAny_pure ⟨_, rfl, .ref s1.heap.objs.size, upd H s1.heap.objs.size (.lst (ys.map V.str)), I1.laid (t' := s1.toks) (fun b u e => ?_) (Nat.le_refl _) ?_, rfl, ?_⟩
  · have hb : b < s1.heap.objs.size := Heap.lt_size e
    rw [sortedHeap_old (Nat.ne_of_lt hb) (by rw [size_push']; exact Nat.lt_succ_of_lt hb)]
    exact Heap.get?_push_of_some _ e
  · show ObjOk X.prog X.w _ _ _ (.lst (ys.map V.str))
    exact ⟨hlen, ((arrOf st').map (·.2)).toList, e', vals_of_strs e1, by rw [Array.toArray_toList]; exact he'⟩
  · exact q ys _ (fun x => by rw [pp.mem_iff, ← T.mem x]) (pp.nodup_iff.mpr T.nd) yl e3 (I1.hok.fresh (Nat.le_refl _))
end
end SX

set_option maxHeartbeats 3900000
/-! {e for t in it if ..}, e a text -/
namespace SX
open PySem PySem.Spec PyProof.Rows L2 PpSet
/-- the context of a block of its own -/
abbrev BX (X : Cx) (scope : Scope) (s : Shared) (H : Hp) (C : Addr) (cl : List (PySem.Str × Addr)) (fp : List Addr) : Cx := X.blk s H scope (compEnvC scope cl C X.env) fp
/-- one more text in the set at D -/
def plus (w : World) (D : Addr) (Nx : Hp → Prop) : VK := fun y H => ∃ (x : Str) (S : Str → Bool) (n : Nat), y = .str x ∧ H D = some (SetTO w D S n) ∧ n + 1 < scanBound ∧ Nx (upd H D (SetTO w D (fun j => S j || decide (j = x)) (if S x = true then n else n + 1)))
def tScT (w : World) (wi : TI) (g : TG) (tt : TT) (te : TE) (own : List Nat) : TE := fun σ H Q => wi σ H fun J H1 => ∀ D, H1 D = none →
  ∃ W : Nat → Nat → Hp → Prop, (∃ m, W 0 m (upd H1 D (SetTO w D (fun _ => false) 0))) ∧ ∀ i m H, W i m H →
    (J.stop i H ∧ Q (.ref D) H) ∨ (J.go i H ∧ ∃ Nx : Hp → Prop, (∀ H', Nx H' → ∃ m', m' < m ∧ W (i + 1) m' H') ∧
      ∀ x H', J.yld i H x H' → g x (wipe σ own) H' fun σ2 H2 => wipe σ2 own = wipe σ own ∧ tt σ2 H2 fun b H3 => if b = true then te σ2 H3 (plus w D Nx) else Nx H3)
section
variable {X : Cx} {elt tg iter : Expr} {ifs : List Expr} {scope : Scope} {own : List (PySem.Str × Nat)} {pos : Pos} {wi : TI} {g : TG} {tt : TT} {te : TE}
theorem pe_scT (hc : X.calm = true) (hN : X.N.Nodup) (hi : PI X tg iter wi) (ok : BlkOk X.N X.env.scope scope own) (hg : ∀ s H C cl fp, PG (BX X scope s H C cl fp) tg g) (ht : ∀ s H C cl fp, PTs (BX X scope s H C cl fp) ifs tt) (he : ∀ s H C cl fp, PE (BX X scope s H C cl fp) elt te)
    (hs : ∀ x, foldedSetIterable iter X.env x = pure x := by intro _; rfl) : PE X (.SetComp elt [⟨tg, iter, ifs, 0⟩] scope pos) (tScT X.w wi g tt te (own.map (·.2))) := by
  refine ⟨fun pins s σ H Q I h => ?_⟩
  rw [eval_SetComp]
  have frees : ∀ y ∈ scope.names, y.2 = .free → ∃ c, X.env.cells.lookup y.1 = some c := fun y hy e => (ok.free y hy e).elim (fun k => I.ok.has _ (.inl k)) fun k => I.ok.has _ (.inr k)
  refine wpAny_comprehension_free (use := none) rfl hs (closure_ok frees) ok.kind (fun y hy e => by rw [ok.uniq y hy, e]) (thn (hi.run pins s σ H _ I h) fun xv sA hx => thn hx fun itv sB hB => ?_)
  obtain ⟨it, fp, tn, J, HB, rfl, IB, T, stB, fB, q⟩ := hB
  refine newSet_ok (newEnv_comp ?_)
  obtain ⟨D, hD⟩ : ∃ D, sB.heap.objs.size = D := ⟨_, rfl⟩
  have nD : HB D = none := IB.hok.fresh (Nat.le_of_eq hD)
  obtain ⟨W, ⟨m0, w0⟩, turn⟩ := q D nD
  generalize hC : ({ sB with heap := sB.heap.push { cls := .type "set", dict := none, data := .set #[] 0 (.fresh 0 0 (!X.w.params.followText "set-order")) } } : Shared) = sC
  have heapC : sC.heap = sB.heap.push { cls := .type "set", dict := none, data := .set #[] 0 (.fresh 0 0 (!X.w.params.followText "set-order")) } := by rw [← hC]
  have IC : Inv X pins σ (upd HB D (SetTO X.w D (fun _ => false) 0)) sC := by
    rw [← hC]
    refine IB.laid (t' := sB.toks) (fun b o e => Heap.get?_push_of_some _ e) (Nat.le_of_eq hD) ?_
    rw [← hD]
    exact new_ok (fresh X.w)
  have old : ∀ b ∈ fp, b < sB.heap.objs.size := fun b hb => Heap.lt_size (T.obj _ _ stB b hb).choose_spec.1
  have fC : ∀ b ∈ fp, FpOk X pins (upd HB D (SetTO X.w D (fun _ => false) 0)) b ∧ b < sC.heap.objs.size := fun b hb => by
    have lt := old b hb
    refine ⟨⟨?_, (fB b hb).2⟩, by rw [heapC, Heap.size_push]; exact Nat.lt_succ_of_lt lt⟩
    rw [upd_ne (by rw [← hD]; exact Nat.ne_of_lt lt)]
    exact (fB b hb).1
  have stC : tn 0 sC.heap := T.keep _ _ _ stB fun b _ o e => by rw [heapC]; exact Heap.get?_push_of_some _ e
  have I4 := block_start IC ok hN fC
  generalize upd HB D (SetTO X.w D (fun _ => false) 0) = HC at IC I4 w0 fC
  generalize hcl : cellsFrom (sC.heap.objs.size + 1) scope.names (cloFrom X.env.cells scope.names []) = cl at I4
  have pg : PG (X.blk sC HC scope (compEnvC scope cl sC.heap.objs.size X.env) fp) tg g := hg sC HC sC.heap.objs.size cl fp
  have pt : PTs (X.blk sC HC scope (compEnvC scope cl sC.heap.objs.size X.env) fp) ifs tt := ht sC HC sC.heap.objs.size cl fp
  have pe : PE (X.blk sC HC scope (compEnvC scope cl sC.heap.objs.size X.env) fp) elt te := he sC HC sC.heap.objs.size cl fp
  have nfp : ∀ b ∈ fp, HC b = none := fun b hb => (fC b hb).1.1
  have home : ∀ s' m H', Inv X pins σ H' s' → Q (.ref D) H' → s'.heap.Ns sC.heap.objs.size m → FpOk X pins H' sC.heap.objs.size → compPost (model X.prog X.w) X.A X.xe none (EP X pins σ Q) (.ref D) sC.heap.objs.size (.ok .next) s' := fun s' m H' I' q' hn f => by
    refine ⟨m, hn, fun h'' sb => ?_⟩
    obtain ⟨f0, f1, f2, f3, f4, f5⟩ := f
    exact ⟨.ref D, H', I'.turned (t' := s'.toks) (fun b o hb e => (sb.2 b hb).trans e) f0 f1 f3 f4 f5, rfl, q'⟩
  show codeAny _ _ (.compStart _ 0 (.ref it) (.ref sB.heap.objs.size) (compEnvC scope cl sC.heap.objs.size X.env)) (compPost _ _ _ none _ (.ref sB.heap.objs.size) sC.heap.objs.size) _
  rw [hD]
  have cL : (compEnvC scope cl sC.heap.objs.size X.env).locals = sC.heap.objs.size := rfl
  generalize compEnvC scope cl sC.heap.objs.size X.env = ce at I4 pg pt pe cL ⊢
  generalize hE : ({ sC with heap := pushCells (sC.heap.push { cls := .type "dict", data := .dict #[] }) scope.names } : Shared) = sE at I4 ⊢
  have stE : tn 0 sE.heap := T.keep _ _ _ stC fun b _ o e => by rw [← hE]; exact pushCells_keeps _ _ _ _ (Heap.get?_push_of_some _ e)
  have stays : ∀ {σ' : L2.St} {H' : Hp} {s' : Shared}, Inv (X.blk sC HC scope ce fp) [] σ' H' s' → (∀ b ∈ fp, H' b = none) → ∀ b ∈ fp, FpOk (X.blk sC HC scope ce fp) [] H' b := fun {σ' H' s'} I' hn b hb =>
    ⟨hn b hb, (I'.ok.exf b hb).1, I'.ok.exfs b hb, .inl hb, fun x c e => (I'.ok.exf b hb).2 x c e, fun p hp => by cases hp⟩
  have loop : codeAny (model X.prog X.w) X.A (.compLoop (.SetComp elt [⟨tg, iter, ifs, 0⟩] scope pos) 0 (.ref it) (.ref D) ce) (compPost (model X.prog X.w) X.A X.xe none (EP X pins σ Q) (.ref D) sC.heap.objs.size) sE := by
    refine compLoopS_any (fun n s' => ∃ i H', Inv (X.blk sC HC scope ce fp) [] (wipe σ (own.map (·.2))) H' s' ∧ tn i s'.heap ∧ (∀ b ∈ fp, H' b = none) ∧ W i n H') ?_ m0 ⟨0, HC, I4, stE, nfp, w0⟩
    rintro n s5 ⟨i, H5, I5, st5, n5, w5⟩
    rcases turn i n H5 w5 with ⟨stop, qq⟩ | ⟨go, Nx, hNx, step⟩
    · refine thnF (T.done (X.blk sC HC scope ce fp) rfl rfl rfl hc i [] s5 _ H5 (fun _ _ => False) I5 (stays I5 n5) st5 stop) fun r s6 ⟨hr, I6⟩ => ?_
      subst hr
      obtain ⟨m, hn, _⟩ := I6.loc
      have hn : s6.heap.Ns ce.locals m := hn
      have nC : H5 ce.locals = none := I6.free
      rw [cL] at hn nC
      exact home s6 m H5 (IC.call' (ch := fp) I6.os I6.base I6.hok I6.bare fun b hb => let f := (fC b hb).1; ⟨f.2.2.2.1, f.2.1, f.2.2.2.2.1, f.2.2.2.2.2⟩) qq hn (IC.fpOk (Nat.le_refl _) nC)
    · refine thnF (T.item (X.blk sC HC scope ce fp) rfl rfl rfl hc i [] s5 _ H5 (fun _ _ => False) I5 (stays I5 n5) st5 go) fun r s6 ⟨u, hr, h6⟩ => ?_
      subst hr
      refine thnF h6 fun _ s7 ⟨x, H7, I7, r7, y7, st7, n7⟩ => ?_
      refine thnF (pg.run _ s7 _ H7 x u _ (I7.pinned (stays I7 n7) (T.obj _ _ st7)) r7 (step x H7 y7)) fun _ s8 ⟨σ8, H8, I8, hw8, q8⟩ => ?_
      refine thnF (pt.run _ s8 σ8 H8 _ I8 q8) fun b s9 ⟨H9, I9, q9⟩ => ?_
      have close : ∀ {s' : Shared} {H' : Hp}, Inv (X.blk sC HC scope ce fp) ([] ++ pinsAt fp s7.heap) σ8 H' s' → Nx H' → ∃ m, m < n ∧ ∃ i H', Inv (X.blk sC HC scope ce fp) [] (wipe σ (own.map (·.2))) H' s' ∧ tn i s'.heap ∧ (∀ b ∈ fp, H' b = none) ∧ W i m H' := fun {s' H'} I' nx => by
        obtain ⟨m', hm, w'⟩ := hNx H' nx
        have pinned : ∀ b ∈ fp, ∀ o, s7.heap.get? b = some o → s'.heap.get? b = some o ∧ H' b = none := fun b hb o e => by
          have z := I'.pin (b, o) (List.mem_append_right _ (List.mem_append_right _ (mem_pinsAt hb e)))
          exact ⟨z.1, z.2.1⟩
        refine ⟨m', hm, i + 1, H', (I'.unpinned (pins := [])).weak (by rw [← hw8, wipe_length]) (fun j v e => ?_), T.keep _ _ _ st7 fun b hb o e => (pinned b hb o e).1, fun b hb => ?_, w'⟩
        · rw [← hw8] at e
          exact (wipe_some e).1
        · obtain ⟨o, e, _⟩ := T.obj _ _ st7 b hb
          exact (pinned b hb o e).2
      cases b with
      | false => exact close I9 q9
      | true =>
        refine thnF (pe.run _ s9 σ8 H9 _ I9 q9) fun z s10 ⟨yv, H10, I10, r10, y, S0, n0, ey, hD10, hz10, nx⟩ => ?_
        subst ey
        obtain ⟨tk, rfl⟩ : ∃ t, z = Value.str y t := r10
        exact add_in (X := X.blk sC HC scope ce fp) I10 hD10 hz10 fun s11 I11 => close I11 nx
  exact codeAny_compStart_set loop (T.self X.A 0 _ _ _ stE loop)
end
end SX

set_option maxHeartbeats 3900000
namespace W
open PySem PySem.Spec PyProof.Rows L2 TL
open C8 (pss_cut tCut pe_gc)
open CB
abbrev sListing : Stmt := top 26
abbrev sEntryOf : Stmt := top 27
def spEntryOf : Sp := fun vs H Q _ => ∃ n r, vs = [.str (js (n :: r))] ∧ Nms (n :: r) ∧ r.length ≤ 100 ∧ ∀ H', Same H H' → Q (.str (ent n (decide (r ≠ [])))) H'
section
variable {P : Program} {w : World} {K : PySem.W.Frag} {mg : Str → Option Value} {base : Heap}
theorem scEntryOf : FnScope ["rest", "parts"] ["rest"] (defScope sEntryOf) := ⟨rfl, rfl, rfl, by decide +kernel, rfl, by decide +kernel, by decide +kernel⟩
theorem ok_entryOf {f : Addr} {fd : FuncData} (F : Fun K "entry_of" "entry_of" sEntryOf f fd) (T0 : TPk mg) : FnOk P w K mg base CX0 1 f fd ["rest"] spEntryOf := by
  refine F.ok scEntryOf (fun vs H Q E h => ?_) (fun cdv A outer s H vs Q E hr h => ?_)
  · obtain ⟨n, r, rfl, _⟩ := h
    rfl
  · obtain ⟨n, r, rfl, nr, rl, k⟩ := h
    have T := T0.b
    obtain ⟨_, mSTROKE⟩ := T0.STROKE
    refine ⟨_, pss_cons (ps_set (i := 1) scEntryOf.nd rfl (Or.inl rfl) (pe_bm PySem.F.plainAttrs_str PySem.F.slot_str_partition PySem.F.type_str_partition mt_partition (pv 0) (pa_cons (pe_glob (v := .str "/") rfl mSTROKE ⟨_, rfl⟩) pa_nil)))
            (pss_one (ps_ret (pe_op op_add_str (pe_ix ix_tup (pv 1) pe_int (fun _ _ => rfl)) (pe_ix ix_tup (pv 1) pe_int (fun _ _ => rfl))))), ?_⟩
    have nl := js_len nr
    have big : ∀ m : Nat, m ≤ 2000 → m ≤ sizeLine := fun m hm => Nat.le_trans hm (by decide)
    have hn := nr n List.mem_cons_self
    have h8 := hn.2.1
    have e1 : ("/" : Str).length = 1 := by decide +kernel
    rw [List.length_cons] at nl
    refine ⟨_, rfl, rfl, js (n :: r), "/", rfl, rfl, rfl, big _ (by omega), fun p hp => ?_⟩
    have s1 := same_mk (o := .tup [.str (Txt.partition (js (n :: r)) "/").1, .str (Txt.partition (js (n :: r)) "/").2.1, .str (Txt.partition (js (n :: r)) "/").2.2]) hp
    refine ⟨_, rfl, p, _, ((0 : Nat) : Int), _, rfl, rfl, SqT.of upd_same, atI_nat rfl, _, rfl, p, _, ((1 : Nat) : Int), _, rfl, rfl, SqT.of upd_same, atI_nat rfl, _, _, rfl, rfl, ?_, ?_⟩
    · rw [part_js hn]
      by_cases hr0 : r = []
      · rw [if_pos hr0]
        exact big _ (show n.length + 0 ≤ 2000 by omega)
      · rw [if_neg hr0]
        exact big _ (show n.length + ("/" : Str).length ≤ 2000 by omega)
    · have q := k _ s1
      rw [show (Txt.partition (js (n :: r)) "/").1 ++ (Txt.partition (js (n :: r)) "/").2.1 = ent n (decide (r ≠ [])) from ?_]
      · exact q
      · rw [part_js hn]
        unfold ent
        by_cases hr0 : r = []
        · rw [if_pos hr0, if_neg (fun z => (of_decide_eq_true z) hr0)]
          exact ext_tl (by rw [tl_append]; exact List.append_nil _)
        · rw [if_neg hr0, if_pos (decide_eq_true hr0)]
end
end W

set_option maxHeartbeats 3900000
namespace W
open PySem PySem.Spec PyProof.Rows L2 TL
open C8 (pss_cut tCut pe_gc)
open CB
section
variable {α : Type} {J : It} {n : Nat} {G : Hp → Prop} {Y : Nat → Hp → V → Hp → Prop} {tt : TT} {te : TE} {σ : L2.St} {H1 : Hp} {D : Addr} {Qd : Hp → Prop} {j : Nat}
/-- [g z for z in zs if f z] -/
theorem lcFM (w : Walk J n G Y) (zs : List α) (u g : α → V) (f : α → Bool) (hn : zs.length = n) (hs : n < 1000000) (hY : ∀ i H x H', Y i H x H' → H' = H ∧ (zs.map u)[i]? = some x) (hD : H1 D = none) (hG : ∀ H', Same H1 H' → G H')
    (test : ∀ z ∈ zs, ∀ (H2 : Hp), Same H1 H2 → ∀ Q1 : Bool → Hp → Prop, (∀ H3, Same H2 H3 → Q1 (f z) H3) → tt ((wipe σ [j]).set j (some (u z))) H2 Q1)
    (elt : ∀ z ∈ zs, f z = true → ∀ (H2 : Hp), Same H1 H2 → ∀ Q1 : VK, (∀ H3, Same H2 H3 → Q1 (g z) H3) → te ((wipe σ [j]).set j (some (u z))) H2 Q1)
    (hd : ∀ H', Same H1 H' → H' D = some (.lst ((zs.filter f).map g)) → Qd H') :
    ∃ W : Nat → Nat → Hp → Prop, (∃ m, W 0 m (upd H1 D (.lst []))) ∧ ∀ i m H, W i m H →
      (J.stop i H ∧ Qd H) ∨ (J.go i H ∧ ∃ Nx : Hp → Prop, (∀ H', Nx H' → ∃ m', m' < m ∧ W (i + 1) m' H') ∧ ∀ x H', J.yld i H x H' → gName j x (wipe σ [j]) H' fun σ2 H2 => wipe σ2 [j] = wipe σ [j] ∧ tt σ2 H2 fun b H3 =>
        if b = true then te σ2 H3 fun y H4 => ∃ acc, H4 D = some (.lst acc) ∧ acc.length < sizeLine ∧ Nx (upd H4 D (.lst (acc ++ [y]))) else Nx H3) := by
  subst hn
  refine lc_it w (fun i H' => Same H1 H' ∧ H' D = some (.lst (((zs.take i).filter f).map g))) ⟨same_mk hD, upd_same⟩ (fun i H' _ q => hG H' q.1) ?_ ?_
  · rintro i x H2 H3 hi ⟨s2, hd2⟩ y
    obtain ⟨rfl, hx⟩ := hY i H2 x H3 y
    rw [List.getElem?_map, List.getElem?_eq_getElem hi] at hx
    cases hx
    have hm : zs[i] ∈ zs := List.getElem_mem hi
    have tk : zs.take (i + 1) = zs.take i ++ [zs[i]] := by
      rw [List.take_succ, List.getElem?_eq_getElem hi]
      rfl
    refine ⟨wipe1 _, test zs[i] hm _ s2 _ fun H4 s4 => ?_⟩
    cases hf : f zs[i] with
    | true =>
      refine iteT (elt _ hm hf _ (s2.trans s4) _ fun H5 s5 => ⟨_, s5 _ _ (s4 _ _ hd2), ?_, same_ch ((s2.trans s4).trans s5) hD, ?_⟩)
      · rw [List.length_map]
        have h1 := List.length_filter_le f (zs.take i)
        rw [List.length_take] at h1
        exact Nat.lt_of_lt_of_le (show _ < 1000000 by omega) (by decide)
      · rw [upd_same, tk, List.filter_append, List.filter_cons_of_pos hf, List.filter_nil, List.map_append]
        rfl
    | false =>
      refine iteF ⟨s2.trans s4, ?_⟩
      rw [tk, List.filter_append, List.filter_cons_of_neg (by rw [hf]; decide), List.filter_nil, List.append_nil]
      exact s4 _ _ hd2
  · rintro H' ⟨s, h⟩
    rw [List.take_length] at h
    exact hd H' s h
/-- {g z for z in zs} -/
theorem scW {w : World} (wk : Walk J n G Y) (zs : List α) (u : α → V) (g : α → Str) (hn : zs.length = n) (hs : n < 60) (hY : ∀ i H x H', Y i H x H' → H' = H ∧ (zs.map u)[i]? = some x) (hD : H1 D = none) (hG : ∀ H', Same H1 H' → G H')
    (elt : ∀ z ∈ zs, ∀ (H2 : Hp), Same H1 H2 → ∀ Q1 : VK, (∀ H3, Same H2 H3 → Q1 (.str (g z)) H3) → te ((wipe σ [j]).set j (some (u z))) H2 Q1)
    (hd : ∀ H' (m : Nat), Same H1 H' → m ≤ zs.length → H' D = some (SX.SetTO w D (fun x => decide (x ∈ zs.map g)) m) → Qd H') :
    ∃ W : Nat → Nat → Hp → Prop, (∃ m, W 0 m (upd H1 D (SX.SetTO w D (fun _ => false) 0))) ∧ ∀ i m H, W i m H →
      (J.stop i H ∧ Qd H) ∨ (J.go i H ∧ ∃ Nx : Hp → Prop, (∀ H', Nx H' → ∃ m', m' < m ∧ W (i + 1) m' H') ∧
        ∀ x H', J.yld i H x H' → gName j x (wipe σ [j]) H' fun σ2 H2 => wipe σ2 [j] = wipe σ [j] ∧ tYes σ2 H2 fun b H3 => if b = true then te σ2 H3 (SX.plus w D Nx) else Nx H3) := by
  subst hn
  refine ⟨fun i m H => m = zs.length - i ∧ i ≤ zs.length ∧ Same H1 H ∧ ∃ k ≤ i, H D = some (SX.SetTO w D (fun x => decide (x ∈ (zs.take i).map g)) k), ⟨zs.length, by simp, Nat.zero_le _, same_mk hD, 0, Nat.le_refl _, by rw [upd_same]; congr 2⟩, ?_⟩
  rintro i m H ⟨rfl, hi, s2, k, hk, hset⟩
  by_cases hlt : i < zs.length
  · refine .inr ⟨wk.goes i H hlt (hG H s2), fun H' => Same H1 H' ∧ ∃ k ≤ i + 1, H' D = some (SX.SetTO w D (fun x => decide (x ∈ (zs.take (i + 1)).map g)) k), fun H' p => ⟨zs.length - (i + 1), by omega, rfl, hlt, p⟩, fun x H' y => ?_⟩
    obtain ⟨rfl, hx⟩ := hY i H x H' (wk.yields i H x H' hlt (hG H s2) y)
    rw [List.getElem?_map, List.getElem?_eq_getElem hlt] at hx
    cases hx
    have tk : zs.take (i + 1) = zs.take i ++ [zs[i]] := by
      rw [List.take_succ, List.getElem?_eq_getElem hlt]
      rfl
    refine ⟨wipe1 _, ?_⟩
    dsimp only [tYes]
    rw [if_pos rfl]
    refine elt zs[i] (List.getElem_mem hlt) _ s2 _ fun H3 s3 => ⟨g zs[i], _, k, rfl, s3 _ _ hset, Nat.lt_of_le_of_lt (show k + 1 ≤ 60 by omega) (by decide), same_ch (s2.trans s3) hD, (if decide (g zs[i] ∈ (zs.take i).map g) = true then k else k + 1), by split <;> omega, ?_⟩
    rw [upd_same]
    congr 2
    funext x
    rw [tk, List.map_append, Bool.eq_iff_iff, Bool.or_eq_true, decide_eq_true_iff, decide_eq_true_iff, decide_eq_true_iff, List.mem_append]
    exact ⟨fun z => z.imp id fun e => by rw [e]; exact List.mem_singleton.mpr rfl, fun z => z.imp id fun e => List.mem_singleton.mp e⟩
  · have e : i = zs.length := by omega
    subst e
    rw [List.take_length] at hset
    exact .inl ⟨wk.stops H (hG H s2), hd H k s2 hk hset⟩
end
end W

set_option maxHeartbeats 3900000
namespace W
open PySem PySem.Spec PyProof.Rows L2 TL
open C8 (pss_cut tCut pe_gc)
open CB
theorem sw_file {p q : List Str} (hp : Nms p) (hq : Nms q) (h : p ≠ []) : Txt.startswith (js p) (begS (js q)) = ben p q := by
  rw [begS_js hq]
  by_cases q0 : q = []
  · subst q0
    rw [show bg [] = "" from rfl, sw_pre, show tl ("" : Str) = [] from rfl]
    exact (ben_iff.mpr ⟨p, h, (List.nil_append p).symm⟩).symm
  · rw [show bg q = js q ++ "/" from if_neg q0]
    exact sw_js hp hq q0
/-- names before names, with what stands behind them -/
theorem lt_ent : ∀ {a b : List Nat} (s t : List Nat), (∀ c ∈ b, 47 < c) → (s = [] ∨ s = [47]) → ltCps a b = true → ltCps (a ++ s) (b ++ t) = true
  | [], [], s, t, _, _, h => by cases h
  | [], y :: b, s, t, hb, hs, _ => by
    rcases hs with rfl | rfl
    · rfl
    · show (decide (47 < y) || _) = true
      rw [decide_eq_true (hb y List.mem_cons_self)]
      rfl
  | x :: a, [], s, t, _, _, h => by cases h
  | x :: a, y :: b, s, t, hb, hs, h => by
    have h : (decide (x < y) || (x == y && ltCps a b)) = true := h
    show (decide (x < y) || (x == y && ltCps (a ++ s) (b ++ t))) = true
    rw [Bool.or_eq_true, Bool.and_eq_true] at h ⊢
    rcases h with h | ⟨h1, h2⟩
    · exact .inl h
    · exact .inr ⟨h1, lt_ent s t (fun c hc => hb c (List.mem_cons_of_mem _ hc)) hs h2⟩
theorem rising_names : ∀ (zs : Nm) (a : Str × Bool), IsNm a.1 → (∀ e ∈ zs, IsNm e.1) → risingS (ent a.1 a.2) (zs.map fun e => ent e.1 e.2) = true → risingS a.1 (zs.map (·.1)) = true
  | [], _, _, _, _ => rfl
  | b :: r, a, ha, hz, h => by
    have h : (!ltCps (tl (ent b.1 b.2)) (tl (ent a.1 a.2)) && risingS (ent b.1 b.2) (r.map fun e => ent e.1 e.2)) = true := h
    obtain ⟨h1, h2⟩ := Bool.and_eq_true_iff.mp h
    show (!ltCps (tl b.1) (tl a.1) && risingS b.1 (r.map (·.1))) = true
    refine Bool.and_eq_true_iff.mpr ⟨?_, rising_names r b (hz b List.mem_cons_self) (fun e he => hz e (List.mem_cons_of_mem _ he)) h2⟩
    cases q : ltCps (tl b.1) (tl a.1) with
    | false => rfl
    | true =>
      have := lt_ent (if b.2 = true then [47] else []) (if a.2 = true then [47] else []) (fun c hc => by have := ha.2.2 c hc; omega) (by split <;> simp) q
      rw [← tl_ent, ← tl_ent] at this
      rw [this] at h1
      cases h1
theorem sorted_names (zs : Nm) (hz : ∀ e ∈ zs, IsNm e.1) (h : sortedS (zs.map fun e => ent e.1 e.2) = true) : sortedS (zs.map (·.1)) = true := by
  cases zs with
  | nil => rfl
  | cons a r => exact rising_names r a (hz a List.mem_cons_self) (fun e he => hz e (List.mem_cons_of_mem _ he)) h
/-- what a folder holds: there is such a list -/
theorem fm_is {zs : List Str} {fs : Fs} (g : GoodF zs fs) (hz : ∀ z ∈ zs, IsNm z) (q : List Str) : ∀ i ≤ fs.length, ∃ fm : Nm, Fm (fs.take i) q fm ∧ fm.length ≤ i
  | 0, _ => ⟨[], ⟨by simp, by simp [Has]⟩, Nat.le_refl _⟩
  | i + 1, hi => by
    obtain ⟨fm, h, hl⟩ := fm_is g hz q i (by omega)
    have hlt : i < fs.length := hi
    cases hb : ben fs[i].1 q with
    | false => exact ⟨fm, h.no hlt hb, by omega⟩
    | true =>
      obtain ⟨r', h0, e⟩ := ben_iff.mp hb
      match r', h0, e with
      | n :: r, _, e => exact ⟨_, h.yes g hlt e, Nat.le_trans (addN_len fm n _) (by omega)⟩
theorem ents_nd : ∀ {fm : Nm}, (∀ e ∈ fm, IsNm e.1) → (fm.map (·.1)).Nodup → (fm.map fun e => ent e.1 e.2).Nodup
  | [], _, _ => by simp
  | a :: r, h, nd => by
    rw [List.map_cons, List.nodup_cons] at nd ⊢
    refine ⟨fun q => ?_, ents_nd (fun e he => h e (List.mem_cons_of_mem _ he)) nd.2⟩
    obtain ⟨e, he, ee⟩ := List.mem_map.mp q
    have := (ent_inj (h e (List.mem_cons_of_mem _ he)) (h a List.mem_cons_self) ee).1
    exact nd.1 (this ▸ List.mem_map_of_mem he)
theorem perm_nd {α : Type} [DecidableEq α] : ∀ {l m : List α}, l.Nodup → m.Nodup → (∀ x, x ∈ l ↔ x ∈ m) → l.Perm m
  | [], m, _, _, h => by
    cases m with
    | nil => exact List.Perm.refl _
    | cons a r => exact absurd ((h a).mpr List.mem_cons_self) (by simp)
  | a :: l, m, n1, n2, h => by
    obtain ⟨s, t, rfl⟩ := List.append_of_mem ((h a).mp List.mem_cons_self)
    have n3 : (a :: (s ++ t)).Nodup := (List.perm_middle (a := a) (l₁ := s) (l₂ := t)).nodup_iff.mp n2
    obtain ⟨x1, x2⟩ := List.nodup_cons.mp n1
    obtain ⟨y1, y2⟩ := List.nodup_cons.mp n3
    refine ((perm_nd x2 y2 fun x => ?_).cons a).trans List.perm_middle.symm
    have hm : x ∈ s ++ a :: t ↔ x = a ∨ x ∈ s ++ t := (List.perm_middle (a := a) (l₁ := s) (l₂ := t)).mem_iff.trans List.mem_cons
    constructor
    · intro hx
      rcases hm.mp ((h x).mp (List.mem_cons_of_mem _ hx)) with e | e
      · exact absurd (e ▸ hx) x1
      · exact e
    · intro hx
      rcases List.mem_cons.mp ((h x).mpr (hm.mpr (.inr hx))) with e | e
      · exact absurd (e ▸ hx) y1
      · exact e
/-- the entry of a path beneath q -/
def entH (q : List Str) (e : List Str × Str) : Str := match e.1.drop q.length with
  | n :: r => ent n (decide (r ≠ []))
  | [] => ""
section
variable {P : Program} {w : World} {K : PySem.W.Frag} {mg : Str → Option Value} {base : Heap}
theorem scListing : FnScope ["paths", "place", "rests", "entries", "path", "rest"] ["paths", "place"] (defScope sListing) := ⟨rfl, rfl, rfl, by decide +kernel, rfl, by decide +kernel, by decide +kernel⟩
theorem ok_listing {f fB fR fE : Addr} {fd fdB fdR fdE : FuncData} (F : Fun K "listing" "listing" sListing f fd) (T0 : TPk mg) (aBeg : At K mg "beginning" fB fdB ["place"]) (GBeg : FnOk P w K mg base CX0 1 fB fdB ["place"] spBeg)
    (aRest : At K mg "rest_in" fR fdR ["path", "place"]) (GRest : FnOk P w K mg base CX0 2 fR fdR ["path", "place"] spRest) (aEntryOf : At K mg "entry_of" fE fdE ["rest"]) (GEntryOf : FnOk P w K mg base CX0 1 fE fdE ["rest"] spEntryOf) :
    FnOk P w K mg base CX0 3 f fd ["paths", "place"] spNin := by
  refine F.ok scListing (fun vs H Q E h => ?_) (fun cdv A outer s H vs Q E hr h => ?_)
  · obtain ⟨d, fs, zs, q, rfl, _⟩ := h
    rfl
  · obtain ⟨d, fs, zs, q, rfl, hd, g, nm, fl, hq, ql, k⟩ := h
    have T := T0.b
    obtain ⟨_, mROOT⟩ := T0.ROOT
    refine ⟨_, pss_cons (ps_lock (ps_setLc (i := 2) (own := [("path", 4)]) (g := gName 4) (tt := _) rfl scListing.nd rfl rfl (sw_true rfl rfl rfl (by decide +kernel)) (pi_keys (pv 0)) (blkOk_by (own := [("path", 4)]) (N := ["paths", "place", "rests", "entries", "path", "rest"]) (sc := defScope sListing) (by decide +kernel)) (fun _ _ _ _ _ => (pg_name (i := 4) scListing.nd rfl (Or.inl rfl))) (fun _ _ _ _ _ => (by exact pts_one (pt_val (pe_bmK K rfl PySem.F.plainAttrs_str PySem.F.slot_str_startswith PySem.F.type_str_startswith mt_startswith (pv 4) (pa_cons (pe_call GBeg (hr.mono (by decide)) rfl aBeg.m aBeg.k aBeg.b .nil pass0 (pa_cons (pv 1) pa_nil)) pa_nil))))) (fun _ _ _ _ _ => (by exact (pe_call GRest (hr.mono (by decide)) rfl aRest.m aRest.k aRest.b .nil pass0 (pa_cons (pv 4) (pa_cons (pv 1) pa_nil)))))))
            (pss_cons (ps_set (i := 3) scListing.nd rfl (Or.inl rfl) (pe_callB (SX.cr_sortT rfl) (by rfl) T.sorted (by decide +kernel) (pa_cons (SX.pe_scT (own := [("rest", 5)]) (g := gName 5) (tt := tYes) rfl scListing.nd (pi_list (pv 2)) (blkOk_by (own := [("rest", 5)]) (N := ["paths", "place", "rests", "entries", "path", "rest"]) (sc := defScope sListing) (by decide +kernel)) (fun _ _ _ _ _ => (pg_name (i := 5) scListing.nd rfl (Or.inl rfl))) (fun _ _ _ _ _ => pts_nil) (fun _ _ _ _ _ => (by exact (pe_call GEntryOf (hr.mono (by decide)) rfl aEntryOf.m aEntryOf.k aEntryOf.b .nil pass0 (pa_cons (pv 5) pa_nil))))) pa_nil)))
            (pss_one (ps_ret (pe_ifExp (PW.pt (pw_or (pt_truth (pv 3) (by intro _; rfl)) (pw_or1 (pt_cmpR op_eq (pv 1) (pe_glob (v := .str "") rfl mROOT ⟨_, rfl⟩) (nomark _))))) (pe_callTy call_tuple_of (by rfl) T.tuple (by decide +kernel) (pa_cons (pv 3) pa_nil)) pe_non)))), ?_⟩
    have nf : ∀ e ∈ fs, Nms e.1 := fun e he y hy => nm y ((g.path e he).2.2 y hy)
    have sh : ∀ p : List Str, Nms p → p.length ≤ 100 → Sh (js p) := fun p hp hl => by
      have := js_len hp
      unfold Sh
      omega
    have lk : ∀ e ∈ fs, e.1.length ≤ 100 := fun e he => by
      have := (g.path e he).2.1
      omega
    obtain ⟨fm, Fm0, fml⟩ := fm_is g nm q fs.length (Nat.le_refl _)
    rw [List.take_length] at Fm0
    obtain ⟨kno, kyes⟩ := k fm Fm0
    have fnm : ∀ e ∈ fm, IsNm e.1 := fun e he => by
      obtain ⟨f0, hf0, r, e1, _⟩ := (Fm0.has e.1 e.2).mp he
      exact nf f0 hf0 _ (by rw [e1]; exact List.mem_append_right _ List.mem_cons_self)
    have dropR : ∀ e ∈ fs, ben e.1 q = true → ∃ n r, e.1 = q ++ n :: r ∧ e.1.drop q.length = n :: r := fun e he hb => by
      obtain ⟨r', h0, er⟩ := ben_iff.mp hb
      match r', h0, er with
      | n :: r, _, er => exact ⟨n, r, er, by rw [er, List.drop_left]⟩
    refine ⟨d, _, hd, trivial, fun od => ⟨_, rfl, d, od, rfl, .inl ⟨fsK fs, upd_same, fun D hD => ?_⟩⟩⟩
    refine lcFM (walk_keys (kvs := fsK fs)) fs (fun e => .str (js e.1)) (fun e => .str (js (e.1.drop q.length))) (fun e => ben e.1 q) (by unfold fsK; rw [List.length_map]) (by unfold fsK; rw [List.length_map]; omega) (fun i H x H' y => ?_) hD (fun H' s => s _ _ upd_same) ?_ ?_ ?_
    · obtain ⟨rfl, k0, v, hkv, rfl⟩ := y
      refine ⟨rfl, ?_⟩
      unfold fsK at hkv
      rw [List.getElem?_map] at hkv ⊢
      obtain ⟨e, he, ek⟩ := Option.map_eq_some_iff.mp hkv
      cases ek
      rw [he]
      rfl
    · intro e he H2 s2 Q1 k1
      refine ⟨_, rfl, rfl, _, rfl, js q, rfl, sh q hq ql, fun H3 s3 => ⟨js e.1, begS (js q), rfl, rfl, _, rfl, ?_⟩⟩
      rw [sw_file (nf e he) hq (g.path e he).1]
      exact k1 _ s3
    · intro e he hb H2 s2 Q1 k1
      refine ⟨_, rfl, _, rfl, js e.1, js q, rfl, ⟨sh _ (nf e he) (lk e he), sh q hq ql⟩, fun H3 s3 => ?_⟩
      obtain ⟨n, r, er, ed⟩ := dropR e he hb
      show Q1 (.str (cutS (js e.1) (some (((begS (js q)).length : Nat) : Int)) none)) H3
      rw [begS_js hq, show cutS (js e.1) (some (((bg q).length : Nat) : Int)) none = js (e.1.drop q.length) by rw [ed, er]; exact rest_bg q (by simp)]
      exact k1 _ s3
    · intro H1 s1 hD1
      have Dd : D ≠ d := fun z => by rw [z, upd_same] at hD; cases hD
      have su : Same H (upd H1 d (.dK (fsK fs))) := fun b u hb => by
        by_cases e : b = d
        · rw [e] at hb ⊢
          rw [upd_same, ← hd]
          exact hb
        · rw [upd_ne e]
          exact s1 _ _ (by rw [upd_ne e]; exact hb)
      have hL : upd H1 d (.dK (fsK fs)) D = some (.lst ((fs.filter fun e => ben e.1 q).map fun e => V.str (js (e.1.drop q.length)))) := by
        rw [upd_ne Dd]
        exact hD1
      refine ⟨s1 _ _ upd_same, ?_⟩
      have lmem : ∀ e ∈ fs.filter fun e => ben e.1 q, e ∈ fs ∧ ben e.1 q = true := fun e he => List.mem_filter.mp he
      have llen : (fs.filter fun e => ben e.1 q).length ≤ 50 := Nat.le_trans (List.length_filter_le _ _) fl
      have lall : ∀ e, e ∈ fs → ben e.1 q = true → e ∈ fs.filter fun e => ben e.1 q := fun e h1 h2 => List.mem_filter.mpr ⟨h1, h2⟩
      generalize (fs.filter fun e => ben e.1 q) = L at hL lmem llen lall ⊢
      generalize upd H1 d (.dK (fsK fs)) = H2 at su hL ⊢
      refine ⟨_, rfl, D, rfl, ⟨_, SqL.of hL⟩, fun D2 hD2 => ?_⟩
      refine scW (walk_list (K := K) (a := D) (xs := L.map fun e => V.str (js (e.1.drop q.length)))) L (fun e => V.str (js (e.1.drop q.length))) (entH q) (by rw [List.length_map]) (by rw [List.length_map]; omega) (fun i H x H' y => ⟨y.1, y.2⟩) hD2 (fun H' s' => SqL.of (s' _ _ hL)) ?_ ?_
      · intro e he H3 s3 Q1 k1
        obtain ⟨hm, hb⟩ := lmem e he
        obtain ⟨n, r, er, ed⟩ := dropR e hm hb
        have nr : Nms (n :: r) := fun y hy => nf e hm y (by rw [er]; exact List.mem_append_right _ hy)
        have rl : r.length ≤ 100 := by
          have := lk e hm
          rw [er, List.length_append, List.length_cons] at this
          omega
        unfold entH at k1
        rw [ed] at k1 ⊢
        exact ⟨_, rfl, n, r, rfl, nr, rl, k1⟩
      · intro H3 m s3 hm hset
        refine ⟨D2, _, m, rfl, hset, by omega, fun ys p hmem hnd hlen hsrt hp => ?_⟩
        have ent_mem : ∀ x, x ∈ L.map (entH q) ↔ x ∈ fm.map fun e => ent e.1 e.2 := fun x => by
          rw [List.mem_map, List.mem_map]
          constructor
          · rintro ⟨e, he, rfl⟩
            obtain ⟨h1, h2⟩ := lmem e he
            obtain ⟨n, r, er, ed⟩ := dropR e h1 h2
            refine ⟨(n, decide (r ≠ [])), (Fm0.has _ _).mpr ⟨e, h1, r, er, rfl⟩, ?_⟩
            unfold entH
            rw [ed]
          · rintro ⟨⟨n, b⟩, he, rfl⟩
            obtain ⟨e, h1, r, er, rfl⟩ := (Fm0.has n b).mp he
            have hb : ben e.1 q = true := ben_iff.mpr ⟨n :: r, by simp, er⟩
            refine ⟨e, lall e h1 hb, ?_⟩
            unfold entH
            rw [er, List.drop_left]
        have end_ : (fm.map fun e => ent e.1 e.2).Nodup := ents_nd fnm Fm0.nd
        have pm : ys.Perm (fm.map fun e => ent e.1 e.2) := perm_nd hnd end_ fun x => by
          rw [hmem x, decide_eq_true_iff]
          exact ent_mem x
        obtain ⟨us, rfl, pu⟩ := perm_lift pm
        have s4 : Same H (upd H3 p (.lst ((us.map fun e => ent e.1 e.2).map V.str))) := (su.trans s3).trans (same_mk hp)
        have e1 : ∀ a b : Str, decide (V.str a = V.str b) = decide (a = b) := fun a b => decide_eq_decide.mpr ⟨V.str.inj, fun q => by rw [q]⟩
        refine ⟨_, rfl, !((us.map fun e => ent e.1 e.2).map V.str).isEmpty, .inl ⟨_, SqL.of upd_same, rfl⟩, ?_⟩
        have em : ((us.map fun e => ent e.1 e.2).map V.str).isEmpty = decide (fm = []) := by
          have := pu.length_eq
          cases us with
          | nil => rw [decide_eq_true (List.length_eq_zero_iff.mp this.symm)]; rfl
          | cons a r => rw [decide_eq_false fun z => by rw [z] at this; cases this]; rfl
        rw [em]
        by_cases hfm : fm = []
        · rw [decide_eq_true hfm]
          by_cases hq0 : q = []
          · refine iteF ⟨_, rfl, rfl, _, rfl, ?_⟩
            rw [e1, decide_eq_true (show js q = "" by rw [hq0]; rfl)]
            refine iteT ⟨_, rfl, p, _, rfl, .inl ⟨SqL.of upd_same, fun t ht => ?_⟩⟩
            refine kyes (.inr hq0) t us _ (s4.trans (same_mk ht)) pu (sorted_names us (fun e he => fnm e (pu.mem_iff.mp he)) hsrt) ?_
            rw [upd_same, List.map_map]
            rfl
          · refine iteF ⟨_, rfl, rfl, _, rfl, ?_⟩
            rw [e1, decide_eq_false (js_ne hq hq0)]
            exact iteF (kno hfm hq0 _ s4)
        · rw [decide_eq_false hfm]
          refine iteT ⟨_, rfl, p, _, rfl, .inl ⟨SqL.of upd_same, fun t ht => ?_⟩⟩
          refine kyes (.inl hfm) t us _ (s4.trans (same_mk ht)) pu (sorted_names us (fun e he => fnm e (pu.mem_iff.mp he)) hsrt) ?_
          rw [upd_same, List.map_map]
          rfl
end
end W

set_option maxHeartbeats 3900000
namespace W
open PySem PySem.Spec PyProof.Rows L2 TL
open C8 (pss_cut tCut pe_gc)
open CB
abbrev sWAns : Stmt := inClass (top 23) 3
abbrev sWLen : Stmt := inClass (top 23) 5
/-- the class World, as the top left it -/
structure WCl (K : PySem.W.Frag) (mg : Str → Option Value) (C : Addr) : Prop where
  mg : mg "World" = some (.ref C)
  cl : Cls K C
  n1 : NoAttr K C "contents"
  n2 : NoAttr K C "chosen"
  n3 : NoAttr K C "tool"
/-- a world stands at o -/
def WoAt (C : Addr) (H : Hp) (o : Addr) (fs : Fs) (ss : Ss) (z : Str) : Prop := ∃ dx d e, H o = some (.ins C dx [(("contents" : Str), .ref d), ("chosen", .ref e), ("tool", .str z)]) ∧ H d = some (.dK (fsK fs)) ∧ H e = some (.dK (ssK ss))
theorem WoAt.same {C : Addr} {H H' : Hp} {o : Addr} {fs : Fs} {ss : Ss} {z : Str} (h : WoAt C H o fs ss z) (s : Same H H') : WoAt C H' o fs ss z := by
  obtain ⟨dx, d, e, h1, h2, h3⟩ := h
  exact ⟨dx, d, e, s _ _ h1, s _ _ h2, s _ _ h3⟩
theorem WoAt.but {C : Addr} {H H' : Hp} {st l o : Addr} {c : Nat} {fs : Fs} {ss : Ss} {z : Str} (h : WoAt C H o fs ss z) (S : Strm H st l c) (B : But st l H H') : WoAt C H' o fs ss z := by
  obtain ⟨dx, d, e, h1, h2, h3⟩ := h
  obtain ⟨ns, u, m, ⟨g1, g2⟩, _⟩ := id S.ex
  exact ⟨dx, d, e, B _ _ h1 (ne_of h1 g1 (by intro z; cases z)) (ne_of h1 g2 (by intro z; cases z)), dk_but S B h2, dk_but S B h3⟩
section
variable {u v t : V}
theorem lk_1 : List.lookup ("contents" : Str) [(("contents" : Str), u), ("chosen", v), ("tool", t)] = some u := by rfl
theorem lk_2 : List.lookup ("chosen" : Str) [(("contents" : Str), u), ("chosen", v), ("tool", t)] = some v := by rfl
theorem lk_3 : List.lookup ("tool" : Str) [(("contents" : Str), u), ("chosen", v), ("tool", t)] = some t := by rfl
end
def spWAns (C : Addr) : Sp := fun vs H Q _ => ∃ o x zs fs ss z k, vs = [.ref o, x] ∧ WoAt C H o fs ss z ∧ RowAt H x (lkV k) ∧ LkOk k ∧ GoodF zs fs ∧ (∀ z ∈ zs, IsNm z) ∧ fs.length ≤ 50 ∧ ∀ v H', Same H H' → Ans H' fs ss z v k → Q v H'
section
variable {P : Program} {w : World} {K : PySem.W.Frag} {mg : Str → Option Value} {base : Heap} {C : Addr}
theorem scWAns : FnScope ["self", "look", "plain"] ["self", "look"] (defScope sWAns) := ⟨rfl, rfl, rfl, by decide +kernel, rfl, by decide +kernel, by decide +kernel⟩
theorem ok_wans {f fA fL : Addr} {fd fdA fdL : FuncData} (F : Fun K "answer" "World.answer" sWAns f fd) (T0 : TPk mg) (R : WCl K mg C) (aAsLook : At K mg "as_look" fA fdA ["thing"]) (GAsLook : FnOk P w K mg base CX0 5 fA fdA ["thing"] spAsLook)
    (aListing : At K mg "listing" fL fdL ["paths", "place"]) (GListing : FnOk P w K mg base CX0 3 fL fdL ["paths", "place"] spNin) : FnOk P w K mg base CX0 6 f fd ["self", "look"] (spWAns C) := by
  refine F.ok scWAns (fun vs H Q E h => ?_) (fun cdv A outer s H vs Q E hr h => ?_)
  · obtain ⟨o, x, zs, fs, ss, z, k, rfl, _⟩ := h
    rfl
  · have T := T0.b
    have hu1 := Nat.lt_of_le_of_lt (Nat.add_le_add_left (show 1 ≤ 64 by decide) _) hr.units
    obtain ⟨o, x, zs, fs, ss, z, k, rfl, ⟨dx, d, e, ho, hd, he⟩, hx, kok, g, nm, fl, kk⟩ := h
    refine ⟨_, pss_cons (ps_set (i := 2) scWAns.nd rfl (Or.inl rfl) (pe_call GAsLook (hr.mono (by decide)) rfl aAsLook.m aAsLook.k aAsLook.b .nil pass0 (pa_cons (pv 1) pa_nil)))
            (pss_cons (ps_if (pt_cmp (pc_isN (pv 2))) (pss_one (ps_never)) (pss_nil))
            (pss_cons (ps_if (pt_cmpR op_eq (pe_ix ix_tup (pv 2) pe_int (fun _ _ => rfl)) pe_str (nomark _)) (pss_one (ps_ret (pe_fld (pv 0) rfl))) (pss_nil))
            (pss_cons (ps_if (pt_cmpR op_eq (pe_ix ix_tup (pv 2) pe_int (fun _ _ => rfl)) pe_str (nomark _)) (pss_one (ps_ret (pe_dget1 hu1 (pe_fld (pv 0) rfl) (pe_ix ix_tup (pv 2) pe_int (fun _ _ => rfl)) ⟨rfl, rfl, rfl, rfl⟩))) (pss_nil))
            (pss_cons (ps_if (pt_cmpR op_eq (pe_ix ix_tup (pv 2) pe_int (fun _ _ => rfl)) pe_str (nomark _)) (pss_one (ps_ret (pe_dget1 hu1 (pe_fld (pv 0) rfl) (pe_ix ix_tup (pv 2) pe_int (fun _ _ => rfl)) ⟨rfl, rfl, rfl, rfl⟩))) (pss_nil))
            (pss_one (ps_ret (pe_call GListing (hr.mono (by decide)) rfl aListing.m aListing.k aListing.b .nil pass0 (pa_cons (pe_fld (pv 0) rfl) (pa_cons (pe_ix ix_tup (pv 2) pe_int (fun _ _ => rfl)) pa_nil))))))))), ?_⟩
    have e1 : ∀ a b : Str, decide (V.str a = V.str b) = decide (a = b) := fun a b => decide_eq_decide.mpr ⟨V.str.inj, fun q => by rw [q]⟩
    have nf : ∀ y ∈ fs, Nms y.1 := fun y hy w hw => nm w ((g.path y hy).2.2 w hw)
    refine ⟨_, rfl, x, k, rfl, hx, kok, fun t H1 s1 ht => ⟨_, rfl, _, rfl, iteF ?_⟩⟩
    cases k with
    | rd p =>
      refine ⟨_, rfl, t, _, ((0 : Nat) : Int), _, rfl, rfl, SqT.of ht, atI_nat rfl, rfl, _, rfl, ?_⟩
      rw [e1]
      refine iteF ⟨_, rfl, t, _, ((0 : Nat) : Int), _, rfl, rfl, SqT.of ht, atI_nat rfl, rfl, _, rfl, ?_⟩
      rw [e1]
      refine iteF ⟨_, rfl, t, _, ((0 : Nat) : Int), _, rfl, rfl, SqT.of ht, atI_nat rfl, rfl, _, rfl, ?_⟩
      rw [e1]
      refine iteT ?_
      refine ⟨_, rfl, o, C, dx, _, _, rfl, s1 _ _ ho, R.cl, R.n1, lk_1, d, rfl, .inl ⟨_, .inl (s1 _ _ hd)⟩, _, rfl, t, _, ((1 : Nat) : Int), _, rfl, rfl, SqT.of ht, atI_nat rfl, ?_⟩
      have dg := DGet.k (k := .inr (js p)) (s1 _ _ hd)
      rw [fs_val nf kok.2.1] at dg
      refine ⟨_, dg, ?_⟩
      have q := kk (oV (fOf fs p)) H1 s1 rfl
      cases hs : fOf fs p with
      | none => rw [hs] at q; exact q
      | some y => rw [hs] at q; exact q
    | ls p =>
      refine ⟨_, rfl, t, _, ((0 : Nat) : Int), _, rfl, rfl, SqT.of ht, atI_nat rfl, rfl, _, rfl, ?_⟩
      rw [e1]
      refine iteF ⟨_, rfl, t, _, ((0 : Nat) : Int), _, rfl, rfl, SqT.of ht, atI_nat rfl, rfl, _, rfl, ?_⟩
      rw [e1]
      refine iteF ⟨_, rfl, t, _, ((0 : Nat) : Int), _, rfl, rfl, SqT.of ht, atI_nat rfl, rfl, _, rfl, ?_⟩
      rw [e1]
      refine iteF ?_
      refine ⟨_, rfl, o, C, dx, _, _, rfl, s1 _ _ ho, R.cl, R.n1, lk_1, _, rfl, t, _, ((1 : Nat) : Int), _, rfl, rfl, SqT.of ht, atI_nat rfl, ?_⟩
      exact ⟨d, fs, zs, p, rfl, s1 _ _ hd, g, nm, fl, kok.1, by have := kok.2; omega, fun fm hfm => ⟨fun e0 nq H' s' => kk .non H' (s1.trans s') ⟨fm, hfm, .inl ⟨e0, nq, rfl⟩⟩, fun why u ys H' s' pm srt hu => kk (.ref u) H' (s1.trans s') ⟨fm, hfm, .inr ⟨why, u, ys, rfl, pm, srt, hu⟩⟩⟩⟩
    | se n =>
      refine ⟨_, rfl, t, _, ((0 : Nat) : Int), _, rfl, rfl, SqT.of ht, atI_nat rfl, rfl, _, rfl, ?_⟩
      rw [e1]
      refine iteF ⟨_, rfl, t, _, ((0 : Nat) : Int), _, rfl, rfl, SqT.of ht, atI_nat rfl, rfl, _, rfl, ?_⟩
      rw [e1]
      refine iteT ?_
      refine ⟨_, rfl, o, C, dx, _, _, rfl, s1 _ _ ho, R.cl, R.n2, lk_2, e, rfl, .inl ⟨_, .inl (s1 _ _ he)⟩, _, rfl, t, _, ((1 : Nat) : Int), _, rfl, rfl, SqT.of ht, atI_nat rfl, ?_⟩
      have dg := DGet.k (k := .inr n) (s1 _ _ he)
      rw [ss_val] at dg
      refine ⟨_, dg, ?_⟩
      have q := kk (oV (sOf ss n)) H1 s1 rfl
      cases hs : sOf ss n with
      | none => rw [hs] at q; exact q
      | some y => rw [hs] at q; exact q
    | tl =>
      refine ⟨_, rfl, t, _, ((0 : Nat) : Int), _, rfl, rfl, SqT.of ht, atI_nat rfl, rfl, _, rfl, ?_⟩
      rw [e1]
      refine iteT ?_
      exact ⟨_, rfl, o, C, dx, _, _, rfl, s1 _ _ ho, R.cl, R.n3, lk_3, kk (.str z) H1 s1 rfl⟩
end
end W

set_option maxHeartbeats 3900000
/-! enumerate of a text -/
namespace ES
open PySem PySem.Spec PyProof.Rows L2
/-- the signs of x, each in a new pair with its place -/
def Itx (x : Str) : It :=
  ⟨fun i _ => i < x.cps.size, fun i H v H' => ∃ T c, v = .ref T ∧ H T = none ∧ H' = upd H T (.tup [.int (i : Nat), .str ⟨#[c]⟩]) ∧ x.cps[i]? = some c, fun i _ => x.cps.size ≤ i⟩
theorem turn_enumS {P : Program} {w : World} {K : PySem.W.Frag} {elts : List Expr} {kk : Nat} {tpos : Pos} (x : Str) (t : Tok) (e it : Addr) :
    Turn P w K (.Tuple elts kk tpos) (Itx x) [e, it] e (fun i h => (∃ old, IsEnum h e it ((i : Nat) : Int) old) ∧ h.IsStrIter it (strIterType x) x t i ∧ e ≠ it ∧ i ≤ x.cps.size) where
  mem := by simp
  obj := fun i h st b hb => by
    obtain ⟨⟨old, he⟩, ⟨o, ho, hc, hd⟩, _⟩ := st
    rcases (show b = e ∨ b = it by simpa using hb) with rfl | rfl
    · exact ⟨_, he, fun v q => nomatch q⟩
    · exact ⟨o, ho, fun v q => by rw [hd] at q; cases q⟩
  keep := fun i h h' st k => by
    obtain ⟨⟨old, he⟩, ⟨o, ho, r⟩, hne⟩ := st
    exact ⟨⟨old, k e (by simp) _ he⟩, ⟨o, k it (by simp) _ ho, r⟩, hne⟩
  item := by
    intro X hP hw hK hc i pins s σ H E I hf st hg
    subst hP hw hK
    obtain ⟨⟨old, he⟩, hit, hne, hle⟩ := st
    have hel : e < s.heap.objs.size := Heap.lt_size he
    have hil : it < s.heap.objs.size := by obtain ⟨_, q, _⟩ := hit; exact Heap.lt_size q
    have D := Draws.text (prog := X.prog) (w := X.w) (A := X.A.in1) (I.ok.hd hc) it x t
    refine wpAny_pyNext_enum_itemD D he hit hg hne (by simpa using hne) fun v h' tk hv ho hit' hT hsz hk => ?_
    obtain ⟨c, u, hcx, rfl⟩ := hv
    refine ⟨_, rfl, wpAny_letOwnedTupleGo_enum (s := { s with heap := h', toks := tk + 1 }) ho fun h'' he' sb => ?_⟩
    have away : ∀ b, b ∉ [e, it] → b ≠ e ∧ b ≠ it := fun b hb => ⟨fun z => hb (by simp [z]), fun z => hb (by simp [z])⟩
    have hT2 : h''.get? s.heap.objs.size = some { cls := .type "tuple", data := .seq #[.int i tk, .str ⟨#[c]⟩ u] } := (sb.2 _ (Nat.ne_of_gt hel)).trans hT
    have I1 : Inv X pins σ (upd H s.heap.objs.size (.tup [.int (i : Nat), .str ⟨#[c]⟩])) { s with heap := h'', toks := tk + 1 } := by
      refine I.turnedNew (ch := [e, it]) (fun b ob hb q => ?_) hf (Nat.le_refl _) ?_
      · exact (sb.2 b (away b hb).1).trans (hk b ob (away b hb).1 (away b hb).2 q)
      · exact ⟨by show 2 ≤ sizeLine; decide, [.int i tk, .str ⟨#[c]⟩ u], .cons ⟨_, rfl⟩ (.cons ⟨_, rfl⟩ .nil), ⟨_, hT2, rfl, _, rfl⟩⟩
    refine ⟨.ref s.heap.objs.size, _, I1, rfl, ⟨s.heap.objs.size, c, rfl, I.hok.fresh (Nat.le_refl _), rfl, hcx⟩, ⟨⟨Value.str ⟨#[c]⟩ u, ?_⟩, ?_, hne, hg⟩, fun b hb => ?_⟩
    · rw [show ((i + 1 : Nat) : Int) = (i : Int) + 1 by omega]
      exact he'
    · obtain ⟨o, h1, h2⟩ := hit'
      exact ⟨o, (sb.2 it (Ne.symm hne)).trans h1, h2⟩
    · have lt : b < s.heap.objs.size := by
        rcases (show b = e ∨ b = it by simpa using hb) with z | z
        · rw [z]; exact hel
        · rw [z]; exact hil
      rw [upd_ne (Nat.ne_of_lt lt)]
      exact (hf b hb).1
  done := by
    intro X hP hw hK hc i pins s σ H E I hf st hg
    subst hP hw hK
    obtain ⟨⟨old, he⟩, hit, hne, hle⟩ := st
    have ei : i = x.cps.size := Nat.le_antisymm hle hg
    subst ei
    obtain ⟨f0, f1, f2, f3, f4, f5⟩ := hf it (by simp)
    have D := Draws.text (prog := X.prog) (w := X.w) (A := X.A.in1) (I.ok.hd hc) it x t
    exact wpAny_pyNext_enum_endD D he hit fun h' eb => ⟨rfl, I.turned (t' := s.toks) (fun b o hb q => eb b o hb q) f0 f1 f3 f4 f5⟩
  self := fun A i s Q E st h => let ⟨⟨_, he⟩, _⟩ := st; wpAny_pyIter_enum he h
/-- for (i, c) in enumerate(e), e a text -/
def iEnumS (ta : TA) : TI := fun σ H R => ta σ H fun vs H1 => ∃ x, vs = [.str x] ∧ R (Itx x) H1
theorem pi_enumS {X : Cx} {e : Expr} {ta : TA} {p pos tpos : Pos} {elts : List Expr} {kk : Nat} (hg : Gl X "enumerate") (hm : X.mg "enumerate" = none) (ha : PA X [e] ta) (hs : starEach [e] X.env = [(false, eval e X.env)] := by rfl) :
    PI X (.Tuple elts kk tpos) (.Call (.Name "enumerate" p) [e] [] pos) (iEnumS ta) := by
  refine ⟨fun pins s σ H R I h => ?_⟩
  refine Call_ (ld_blt I hg hm boot_enumerate (PyProof.Rows.callWith_type1 (thn (ha.run pos pins s σ H _ I h) fun us s1 ⟨vs, H1, I1, r1, x, ex, q⟩ => ?_) hs rfl))
  subst ex
  obtain ⟨u, rfl, t, rfl⟩ : ∃ u, us = [u] ∧ ∃ t, u = Value.str x t := by
    cases r1 with
    | cons r rr =>
      cases rr
      exact ⟨_, rfl, r⟩
  refine call_enumerate_str fun h' he hit hsz hk => wpAny_pyIter_enum he ?_
  have I2 : Inv X pins σ H1 { s1 with heap := h' } := I1.kept (t' := s1.toks) hk
  refine ⟨s1.heap.objs.size + 1, [s1.heap.objs.size + 1, s1.heap.objs.size], _, _, H1, rfl, I2, turn_enumS x t (s1.heap.objs.size + 1) s1.heap.objs.size, ⟨⟨_, he⟩, hit, Nat.succ_ne_self _, Nat.zero_le _⟩, fun b hb => ?_, q⟩
  have le : s1.heap.objs.size ≤ b := by
    rcases (show b = s1.heap.objs.size + 1 ∨ b = s1.heap.objs.size by simpa using hb) with z | z
    · rw [z]; exact Nat.le_add_right _ _
    · rw [z]; exact Nat.le_refl _
  exact I1.fpOk le (I1.hok.fresh le)
theorem walk_enumS {x : Str} : Walk (Itx x) x.cps.size (fun _ => True) (fun i H v H' => ∃ T c, v = .ref T ∧ H T = none ∧ H' = upd H T (.tup [.int (i : Nat), .str ⟨#[c]⟩]) ∧ x.cps[i]? = some c) :=
  ⟨fun i _ hi _ => hi, fun _ _ => Nat.le_refl _, fun i H v H' _ _ y => y⟩
end ES

set_option maxHeartbeats 3900000
namespace W
open PySem PySem.Spec PyProof.Rows L2 TL
open C8 (pss_cut tCut pe_gc)
open CB
abbrev sAbove : Stmt := top 16
def pickX (p : Nat → Bool) (g : Nat → V) (n : Nat) : List V := ((List.range n).filter p).map g
theorem pickX_succ (p : Nat → Bool) (g : Nat → V) (n : Nat) : pickX p g (n + 1) = pickX p g n ++ (if p n = true then [g n] else []) := by
  unfold pickX
  rw [List.range_succ, List.filter_append, List.map_append]
  congr 1
  cases h : p n <;> simp [List.filter, h]
section
variable {K : PySem.W.Frag} {D : Addr} {H1 : Hp} {σ : L2.St} {tt : TT} {te : TE} {Qd : Hp → Prop} {jk jw : Nat}
/-- [g k for k, c in enumerate(x) if p k], x a text -/
theorem lcX (x : Str) (p : Nat → Bool) (g : Nat → V) (hs : x.cps.size < 1000000) (hD : H1 D = none) (hw : ∀ a b, wipe (((wipe σ [jk, jw]).set jk (some a)).set jw (some b)) [jk, jw] = wipe σ [jk, jw])
    (test : ∀ (i c : Nat) (H2 : Hp), x.cps[i]? = some c → Same H1 H2 → ∀ Q1 : Bool → Hp → Prop, (∀ H3, Same H2 H3 → Q1 (p i) H3) → tt (((wipe σ [jk, jw]).set jk (some (.int (i : Nat)))).set jw (some (.str ⟨#[c]⟩))) H2 Q1)
    (elt : ∀ (i c : Nat) (H2 : Hp) (Q1 : VK), x.cps[i]? = some c → Q1 (g i) H2 → te (((wipe σ [jk, jw]).set jk (some (.int (i : Nat)))).set jw (some (.str ⟨#[c]⟩))) H2 Q1)
    (hd : ∀ H', Same H1 H' → H' D = some (.lst (pickX p g x.cps.size)) → Qd H') :
    ∃ W : Nat → Nat → Hp → Prop, (∃ m, W 0 m (upd H1 D (.lst []))) ∧ ∀ i m H, W i m H →
      ((ES.Itx x).stop i H ∧ Qd H) ∨ ((ES.Itx x).go i H ∧ ∃ Nx : Hp → Prop, (∀ H', Nx H' → ∃ m', m' < m ∧ W (i + 1) m' H') ∧ ∀ v H', (ES.Itx x).yld i H v H' → gTup K 2 (gCons (gName jk) (gCons (gName jw) gNil)) v (wipe σ [jk, jw]) H' fun σ2 H2 => wipe σ2 [jk, jw] = wipe σ [jk, jw] ∧ tt σ2 H2 fun b H3 =>
        if b = true then te σ2 H3 fun y H4 => ∃ acc, H4 D = some (.lst acc) ∧ acc.length < sizeLine ∧ Nx (upd H4 D (.lst (acc ++ [y]))) else Nx H3) := by
  refine lc_it (ES.walk_enumS (x := x)) (fun i H' => Same H1 H' ∧ H' D = some (.lst (pickX p g i))) ⟨same_mk hD, upd_same⟩ (fun i H' _ q => trivial) ?_ ?_
  · rintro i v H2 H3 hi ⟨s2, hd2⟩ ⟨T, c, rfl, hT, rfl, hc⟩
    have sT := same_mk (o := .tup [.int (i : Nat), .str ⟨#[c]⟩]) hT
    refine ⟨T, _, rfl, SqT.of upd_same, rfl, _, _, rfl, _, _, rfl, rfl, hw _ _, test i c _ hc (s2.trans sT) _ fun H4 s4 => ?_⟩
    have hd4 := s4 _ _ (sT _ _ hd2)
    have pl : (pickX p g i).length ≤ i := by
      unfold pickX
      rw [List.length_map]
      exact Nat.le_trans (List.length_filter_le _ _) (by rw [List.length_range]; exact Nat.le_refl _)
    cases hp : p i with
    | true =>
      refine iteT (elt i c _ _ hc ⟨_, hd4, ?_, same_ch ((s2.trans sT).trans s4) hD, ?_⟩)
      · exact Nat.lt_of_le_of_lt pl (Nat.lt_of_lt_of_le (show i < 1000000 by omega) (by decide))
      · rw [upd_same, pickX_succ, if_pos hp]
    | false =>
      refine iteF ⟨(s2.trans sT).trans s4, ?_⟩
      rw [pickX_succ, if_neg (by rw [hp]; decide), List.append_nil]
      exact hd4
  · rintro H' ⟨s, h⟩
    exact hd H' s h
end
/-- the ways above a path -/
def aboves : List Str → List (List Str)
  | [] => []
  | [_] => []
  | y :: z :: r => [y] :: (aboves (z :: r)).map (y :: ·)
/-- what stands ahead of each stroke -/
def strokes : List Nat → List Nat → List (List Nat)
  | _, [] => []
  | acc, c :: r => (if c = 47 then [acc] else []) ++ strokes (acc ++ [c]) r
theorem strokes_free : ∀ (u acc r : List Nat), 47 ∉ u → strokes acc (u ++ r) = strokes (acc ++ u) r
  | [], acc, r, _ => by simp
  | c :: u, acc, r, h => by
    have h1 : c ≠ 47 := fun e => h (e ▸ List.mem_cons_self)
    have ih := strokes_free u (acc ++ [c]) r fun m => h (List.mem_cons_of_mem _ m)
    show (if c = 47 then [acc] else []) ++ strokes (acc ++ [c]) (u ++ r) = _
    rw [if_neg h1, ih]
    simp
theorem aboves_ne : ∀ {p : List Str}, ∀ q ∈ aboves p, q ≠ []
  | [], q, h => by cases h
  | [_], q, h => by cases h
  | y :: z :: r, q, h => by
    rcases List.mem_cons.mp h with rfl | h
    · simp
    · obtain ⟨a, _, rfl⟩ := List.mem_map.mp h
      simp
theorem strokes_jl : ∀ {p : List Str} (acc : List Nat), Nms p → strokes acc (jl p) = (aboves p).map fun q => acc ++ jl q
  | [], acc, _ => rfl
  | [y], acc, h => by
    have hy := nm_free (h y List.mem_cons_self)
    have := strokes_free (tl y) acc [] hy
    rw [List.append_nil] at this
    exact this
  | y :: z :: r, acc, h => by
    have hy := nm_free (h y List.mem_cons_self)
    have e : jl (y :: z :: r) = tl y ++ 47 :: jl (z :: r) := rfl
    rw [e, strokes_free _ _ _ hy]
    show [acc ++ tl y] ++ strokes (acc ++ tl y ++ [47]) (jl (z :: r)) = _
    rw [strokes_jl _ h.tail]
    show _ = (acc ++ jl [y]) :: ((aboves (z :: r)).map (y :: ·)).map fun q => acc ++ jl q
    rw [List.map_map]
    show (acc ++ tl y) :: _ = (acc ++ tl y) :: _
    congr 1
    refine List.map_congr_left fun q hq => ?_
    have nq := aboves_ne q hq
    show acc ++ tl y ++ [47] ++ jl q = acc ++ jl (y :: q)
    rw [show jl (y :: q) = tl y ++ 47 :: jl q from jl_app (q := [y]) (by simp) nq]
    simp
theorem strokes_at : ∀ (l acc : List Nat), strokes acc l = ((List.range l.length).filter fun i => decide (l[i]? = some 47)).map fun i => acc ++ l.take i
  | [], acc => rfl
  | c :: r, acc => by
    rw [List.length_cons, List.range_succ_eq_map, List.filter_cons, List.filter_map]
    show (if c = 47 then [acc] else []) ++ strokes (acc ++ [c]) r = _
    rw [strokes_at r (acc ++ [c])]
    have tailEq : ((List.filter ((fun i => decide ((c :: r)[i]? = some 47)) ∘ Nat.succ) (List.range r.length)).map Nat.succ).map (fun i => acc ++ (c :: r).take i) = ((List.range r.length).filter fun i => decide (r[i]? = some 47)).map fun i => (acc ++ [c]) ++ r.take i := by
      rw [List.map_map]
      have ef : ((fun i => decide ((c :: r)[i]? = some 47)) ∘ Nat.succ) = fun i => decide (r[i]? = some 47) := by
        funext i
        simp
      rw [ef]
      refine List.map_congr_left fun i _ => ?_
      show acc ++ (c :: r).take (i + 1) = _
      rw [List.take_succ_cons]
      simp
    by_cases h : c = 47
    · rw [if_pos h, if_pos (by subst h; simp), List.map_cons, tailEq]
      simp
    · rw [if_neg h, if_neg (by simp [h]), tailEq]
      simp
theorem map_tl_inj : ∀ {a b : List Str}, a.map tl = b.map tl → a = b
  | [], [], _ => rfl
  | [], _ :: _, h => by cases h
  | _ :: _, [], h => by cases h
  | x :: a, y :: b, h => by
    rw [List.map_cons, List.map_cons] at h
    obtain ⟨h1, h2⟩ := List.cons.inj h
    rw [ext_tl h1, map_tl_inj h2]
def spAbove : Sp := fun vs H Q _ => ∃ p, vs = [.str (js p)] ∧ Nms p ∧ p.length ≤ 100 ∧ ∀ D H', H D = none → Same H H' → H' D = some (.lst ((aboves p).map fun q => .str (js q))) → Q (.ref D) H'
section
variable {P : Program} {w : World} {K : PySem.W.Frag} {mg : Str → Option Value} {base : Heap}
theorem scAbove : FnScope ["path", "at", "sign"] ["path"] (defScope sAbove) := ⟨rfl, rfl, rfl, by decide +kernel, rfl, by decide +kernel, by decide +kernel⟩
theorem ok_above {f : Addr} {fd : FuncData} (F : Fun K "paths_above" "paths_above" sAbove f fd) (T0 : TPk mg) : FnOk P w K mg base CX0 1 f fd ["path"] spAbove := by
  refine F.ok scAbove (fun vs H Q E h => ?_) (fun cdv A outer s H vs Q E hr h => ?_)
  · obtain ⟨p, rfl, _⟩ := h
    rfl
  · obtain ⟨p, rfl, hp, hl, k⟩ := h
    have T := T0.b
    obtain ⟨_, mSTROKE⟩ := T0.STROKE
    refine ⟨_, pss_one (ps_ret (pe_lc (own := [("at", 1), ("sign", 2)]) (g := gTup K 2 (gCons (gName 1) (gCons (gName 2) gNil))) (tt := _) rfl scAbove.nd (ES.pi_enumS rfl T.enumerate (pa_cons (pv 0) pa_nil)) (blkOk_by (own := [("at", 1), ("sign", 2)]) (N := ["path", "at", "sign"]) (sc := defScope sAbove) (by decide +kernel)) (fun _ _ _ _ _ => (pg_tupK (K0 := K) rfl rfl (pgs_cons (pg_name (i := 1) scAbove.nd rfl (Or.inl rfl)) (pgs_cons (pg_name (i := 2) scAbove.nd rfl (Or.inl rfl)) pgs_nil)))) (fun _ _ _ _ _ => (by exact pts_one (pt_cmpR op_eq (pv 2) (pe_glob (v := .str "/") rfl mSTROKE ⟨_, rfl⟩) (nomark _)))) (fun _ _ _ _ _ => (by exact (pe_slice sl_str (pv 0) po_none (po_some (pv 1))))))), ?_⟩
    have jn := js_len hp
    have sz : (js p).cps.size = (jl p).length := by rw [← tl_js]; rfl
    have lx : (js p).length = (js p).cps.size := rfl
    refine ⟨_, rfl, js p, rfl, fun D hD => ?_⟩
    refine lcX (js p) (fun i => decide ((jl p)[i]? = some 47)) (fun i => .str (cutS (js p) none (some ((i : Nat) : Int)))) (by omega) hD (fun _ _ => rfl) ?_ ?_ ?_
    · intro i c H2 hc s2 Q1 k1
      refine ⟨_, rfl, rfl, _, rfl, ?_⟩
      have e1 : (jl p)[i]? = some c := by
        rw [← tl_js]
        show (js p).cps.toList[i]? = some c
        rw [Array.getElem?_toList]
        exact hc
      have q := k1 H2 (Same.refl H2)
      rw [e1] at q
      have e2 : decide (V.str ⟨#[c]⟩ = V.str "/") = decide (some c = some 47) := decide_eq_decide.mpr ⟨fun z => by
        have z1 := congrArg tl (V.str.inj z)
        rw [tl_sl] at z1
        have z2 : [c] = [47] := z1
        rw [List.cons.inj z2 |>.1], fun z => by
        rw [Option.some.inj z]
        rfl⟩
      rw [e2]
      exact q
    · intro i c H2 Q1 hc q
      exact ⟨_, rfl, _, rfl, _, rfl, js p, rfl, Nat.le_trans (show (js p).length ≤ 900 by omega) (by decide), q⟩
    · intro H1 s1 hD1
      have e : pickX (fun i => decide ((jl p)[i]? = some 47)) (fun i => .str (cutS (js p) none (some ((i : Nat) : Int)))) (js p).cps.size = (aboves p).map fun q => .str (js q) := by
        have e3 : (((List.range (jl p).length).filter fun i => decide ((jl p)[i]? = some 47)).map fun i => cutS (js p) none (some ((i : Nat) : Int))) = (aboves p).map js := by
          refine map_tl_inj ?_
          rw [List.map_map, List.map_map]
          have a1 := strokes_at (jl p) []
          rw [strokes_jl [] hp] at a1
          refine Eq.trans ?_ (a1.symm.trans ?_)
          · refine List.map_congr_left fun i _ => ?_
            show tl (cutS (js p) none (some ((i : Nat) : Int))) = [] ++ (jl p).take i
            rw [cut_to, tl_js]
            rfl
          · refine List.map_congr_left fun q _ => ?_
            show [] ++ jl q = tl (js q)
            rw [tl_js]
            rfl
        unfold pickX
        rw [sz]
        have e4 := congrArg (List.map V.str) e3
        rw [List.map_map, List.map_map] at e4
        exact e4
      rw [e] at hD1
      exact k D H1 hD s1 hD1
end
end W

set_option maxHeartbeats 3900000
namespace W
open PySem PySem.Spec PyProof.Rows L2 TL
open C8 (pss_cut tCut pe_gc)
open CB
abbrev sCkF : Stmt := top 24
abbrev sCkS : Stmt := top 25
def spCkF : Sp := fun vs H Q _ => ∃ d fs zs, vs = [.ref d] ∧ H d = some (.dK (fsK fs)) ∧ GoodF zs fs ∧ (∀ z ∈ zs, IsNm z) ∧ fs.length ≤ 50 ∧ ∀ H', Same H H' → Q .non H'
def spCkS : Sp := fun vs H Q _ => ∃ d ss zs, vs = [.ref d] ∧ H d = some (.dK (ssK ss)) ∧ GoodS zs ss ∧ (∀ z ∈ zs, IsNm z) ∧ ss.length ≤ 50 ∧ ∀ H', Same H H' → Q .non H'
/-- a table of ways, each with True -/
def trK (ps : List (List Str)) : List (L2.Key × V) := ps.map fun p => (.inr (js p), .bl true)
theorem tr_put (ps : List (List Str)) (p : List Str) : ∃ qs : List (List Str), putK (trK ps) (.inr (js p)) (.bl true) = trK qs ∧ qs.length ≤ ps.length + 1 ∧ ∀ q ∈ qs, q ∈ ps ∨ q = p := by
  unfold putK
  split
  · refine ⟨ps, ?_, Nat.le_succ _, fun q h => .inl h⟩
    unfold trK
    rw [List.map_map]
    refine List.map_congr_left fun e _ => ?_
    show (if (Sum.inr (js e) : L2.Key) = .inr (js p) then ((Sum.inr (js e) : L2.Key), V.bl true) else (Sum.inr (js e), .bl true)) = (Sum.inr (js e), V.bl true)
    split <;> rfl
  · refine ⟨ps ++ [p], ?_, by rw [List.length_append]; exact Nat.le_refl _, fun q h => (List.mem_append.mp h).imp id List.mem_singleton.mp⟩
    unfold trK
    rw [List.map_append]
    rfl
theorem tr_no {ps : List (List Str)} (hp : ∀ p ∈ ps, Nms p) {q : List Str} (hq : Nms q) (h : q ∉ ps) : valV (trK ps) (.inr (js q)) = none := by
  induction ps with
  | nil => rfl
  | cons a r ih =>
    unfold valV trK
    rw [List.map_cons, List.find?_cons]
    rw [show decide ((Sum.inr (js a) : L2.Key) = .inr (js q)) = false from decide_eq_false fun z => h (by rw [js_inj (hp a List.mem_cons_self) hq (Sum.inr.inj z)]; exact List.mem_cons_self)]
    exact ih (fun p hm => hp p (List.mem_cons_of_mem _ hm)) fun hm => h (List.mem_cons_of_mem _ hm)
theorem aboves_is : ∀ {p q : List Str}, q ∈ aboves p → ∃ r, r ≠ [] ∧ p = q ++ r
  | [], q, h => by cases h
  | [_], q, h => by cases h
  | y :: z :: r, q, h => by
    rcases List.mem_cons.mp h with rfl | h
    · exact ⟨z :: r, by simp, rfl⟩
    · obtain ⟨a, ha, rfl⟩ := List.mem_map.mp h
      obtain ⟨t, h1, h2⟩ := aboves_is ha
      exact ⟨t, h1, by rw [h2]; rfl⟩
theorem aboves_len : ∀ p : List Str, (aboves p).length ≤ p.length
  | [] => Nat.le_refl _
  | [_] => Nat.zero_le _
  | y :: z :: r => by
    have := aboves_len (z :: r)
    show ((aboves (z :: r)).map (y :: ·)).length + 1 ≤ _
    rw [List.length_map]
    exact Nat.succ_le_succ this
section
variable {P : Program} {w : World} {K : PySem.W.Frag} {mg : Str → Option Value} {base : Heap}
theorem scCkS : FnScope ["settings", "name"] ["settings"] (defScope sCkS) := ⟨rfl, rfl, rfl, by decide +kernel, rfl, by decide +kernel, by decide +kernel⟩
theorem ok_ckS {f fN : Addr} {fd fdN : FuncData} (F : Fun K "check_settings" "check_settings" sCkS f fd) (aIsName : At K mg "is_name" fN fdN ["thing"]) (GIsName : FnOk P w K mg base CX0 1 fN fdN ["thing"] spIsName) : FnOk P w K mg base CX0 2 f fd ["settings"] spCkS := by
  refine F.ok scCkS (fun vs H Q E h => ?_) (fun cdv A outer s H vs Q E hr h => ?_)
  · obtain ⟨d, ss, zs, rfl, _⟩ := h
    rfl
  · obtain ⟨d, ss, zs, rfl, hd, g, nm, sl, k⟩ := h
    refine ⟨_, pss_one (ps_lock (ps_for PassesOwn.never rfl (pi_keys (pv 0)) (pg_name (i := 1) scCkS.nd rfl (Or.inl rfl)) (pss_one (ps_if (pt_not (pt_val (pe_call GIsName (hr.mono (by decide)) rfl aIsName.m aIsName.k aIsName.b .nil pass0 (pa_cons (pv 1) pa_nil)))) (pss_one (ps_never)) (pss_nil))))), ?_⟩
    refine ⟨d, _, hd, trivial, fun od => ⟨_, rfl, d, od, rfl, .inl ⟨ssK ss, upd_same, for_it (walk_keys (kvs := ssK ss)) (fun i σ H' => ∃ x1, σ = [some (.ref d), x1] ∧ Same (upd H d (.frz od (.dK (ssK ss)))) H') ⟨none, rfl, Same.refl _⟩ (fun i σ H' _ z => by obtain ⟨_, _, z⟩ := z; exact z _ _ upd_same) ?_ ?_⟩⟩⟩
    · rintro i x _ H2 H3 hi ⟨x1, rfl, s2⟩ ⟨rfl, k0, v, hkv, rfl⟩
      unfold ssK at hkv
      rw [List.getElem?_map] at hkv
      obtain ⟨e, he, ek⟩ := Option.map_eq_some_iff.mp hkv
      cases ek
      have hn := nm _ (g.name e (List.mem_of_getElem? he))
      refine ⟨_, rfl, e.1, rfl, nm_sh hn, fun H4 s4 => ⟨_, rfl, ?_⟩⟩
      rw [decide_eq_true hn]
      exact iteF ⟨_, rfl, s2.trans s4⟩
    · rintro _ H2 ⟨x1, rfl, s2⟩
      refine ⟨s2 _ _ upd_same, k _ fun b u hb => ?_⟩
      by_cases e : b = d
      · rw [e] at hb ⊢
        rw [upd_same, ← hd]
        exact hb
      · rw [upd_ne e]
        exact s2 _ _ (by rw [upd_ne e]; exact hb)
theorem scCkF : FnScope ["files", "path", "earlier", "folders", "tops", "top"] ["files"] (defScope sCkF) := ⟨rfl, rfl, rfl, by decide +kernel, rfl, by decide +kernel, by decide +kernel⟩
theorem ok_ckF {f fP fA : Addr} {fd fdP fdA : FuncData} (F : Fun K "check_files" "check_files" sCkF f fd) (T0 : TPk mg) (aIsPath : At K mg "is_path" fP fdP ["thing"]) (GIsPath : FnOk P w K mg base CX0 2 fP fdP ["thing"] spIsPath)
    (aAbove : At K mg "paths_above" fA fdA ["path"]) (GAbove : FnOk P w K mg base CX0 1 fA fdA ["path"] spAbove) : FnOk P w K mg base CX0 3 f fd ["files"] spCkF := by
  refine F.ok scCkF (fun vs H Q E h => ?_) (fun cdv A outer s H vs Q E hr h => ?_)
  · obtain ⟨d, fs, zs, rfl, _⟩ := h
    rfl
  · have T := T0.b
    have hu := hr.units
    have hu1 := Nat.lt_of_le_of_lt (Nat.add_le_add_left (show 1 ≤ 64 by decide) _) hr.units
    obtain ⟨d, fs, zs, rfl, hd, g, nm, fl, k⟩ := h
    refine ⟨_, pss_cons (ps_lock (ps_for PassesOwn.never rfl (pi_keys (pv 0)) (pg_name (i := 1) scCkF.nd rfl (Or.inl rfl)) (pss_one (ps_if (pt_not (pt_val (pe_call GIsPath (hr.mono (by decide)) rfl aIsPath.m aIsPath.k aIsPath.b .nil pass0 (pa_cons (pv 1) pa_nil)))) (pss_one (ps_never)) (pss_nil)))))
            (pss_cons (ps_set (i := 2) scCkF.nd rfl (Or.inr rfl) pe_dnewK)
            (pss_cons (ps_set (i := 3) scCkF.nd rfl (Or.inl rfl) pe_dnewK)
            (pss_one (ps_lock (ps_for PassesOwn.never rfl (pi_keys (pv 0)) (pg_name (i := 1) scCkF.nd rfl (Or.inl rfl)) (pss_cons (ps_set (i := 4) scCkF.nd rfl (Or.inl rfl) (pe_call GAbove (hr.mono (by decide)) rfl aAbove.m aAbove.k aAbove.b .nil pass0 (pa_cons (pv 1) pa_nil)))
            (pss_cons (ps_if (PW.pt (pw_or (pt_cmp (pc_din hu1 (pv 1) (pv 3))) (pw_or1 (pt_val (pe_callB (cr_any rfl) (by rfl) T.any boot_any (pa_cons (pe_lc (own := [("top", 5)]) (g := gName 5) (tt := tYes) rfl scCkF.nd (pi_list (pv 4)) (blkOk_by (own := [("top", 5)]) (N := ["files", "path", "earlier", "folders", "tops", "top"]) (sc := defScope sCkF) (by decide +kernel)) (fun _ _ _ _ _ => (pg_name (i := 5) scCkF.nd rfl (Or.inl rfl))) (fun _ _ _ _ _ => pts_nil) (fun _ _ _ _ _ => (by exact (pe_cmp (pc_din hu1 (pv 5) (pv 2)) rfl)))) pa_nil)))))) (pss_one (ps_never)) (pss_nil))
            (pss_cons (ps_dput hu1 (pv 2) (pv 1) pe_bl rfl)
            (pss_one (ps_for PassesOwn.never rfl (pi_list (pv 4)) (pg_name (i := 5) scCkF.nd rfl (Or.inl rfl)) (pss_one (ps_dput hu1 (pv 3) (pv 5) pe_bl rfl)))))))))))), ?_⟩
    have nf : ∀ e ∈ fs, Nms e.1 := fun e he y hy => nm y ((g.path e he).2.2 y hy)
    have at_ : ∀ {i : Nat} {k0 : L2.Key} {v : V}, (fsK fs)[i]? = some (k0, v) → ∃ e, fs[i]? = some e ∧ k0 = .inr (js e.1) := fun {i k0 v} hkv => by
      unfold fsK at hkv
      rw [List.getElem?_map] at hkv
      obtain ⟨e, he, ek⟩ := Option.map_eq_some_iff.mp hkv
      cases ek
      exact ⟨e, he, rfl⟩
    have back : ∀ {H1 H2 : Hp}, H1 d = some (.dK (fsK fs)) → (∀ b u, H1 b = some u → b ≠ d → H2 b = some u) → Same H1 (upd H2 d (.dK (fsK fs))) := fun {H1 H2} h1 kp b u hb => by
      by_cases e : b = d
      · rw [e] at hb ⊢
        rw [upd_same, ← h1]
        exact hb
      · rw [upd_ne e]
        exact kp b u hb e
    refine ⟨d, _, hd, trivial, fun od => ⟨_, rfl, d, od, rfl, .inl ⟨fsK fs, upd_same, for_it (walk_keys (kvs := fsK fs)) (fun i σ H' => ∃ x1, σ = [some (.ref d), x1, none, none, none, none] ∧ Same (upd H d (.frz od (.dK (fsK fs)))) H') ⟨none, rfl, Same.refl _⟩ (fun i σ H' _ z => by obtain ⟨_, _, z⟩ := z; exact z _ _ upd_same) ?_ ?_⟩⟩⟩
    · rintro i x _ H2 H3 hi ⟨x1, rfl, s2⟩ ⟨rfl, k0, v, hkv, rfl⟩
      obtain ⟨e, he, rfl⟩ := at_ hkv
      have hm := List.mem_of_getElem? he
      obtain ⟨h0, h3, _⟩ := g.path e hm
      refine ⟨_, rfl, e.1, rfl, nf e hm, by omega, fun H4 s4 => ⟨_, rfl, ?_⟩⟩
      rw [decide_eq_true h0]
      exact iteF ⟨_, rfl, s2.trans s4⟩
    rintro _ H2 ⟨x1, rfl, s2⟩
    have su := back hd (H2 := H2) fun b u hb nb => s2 _ _ (by rw [upd_ne nb]; exact hb)
    have hd3 : upd H2 d (.dK (fsK fs)) d = some (.dK (fsK fs)) := upd_same
    refine ⟨s2 _ _ upd_same, ?_⟩
    generalize upd H2 d (.dK (fsK fs)) = H3 at su hd3 ⊢
    refine fun e0 n0 => ?_
    have t0 := same_mk (o := .dK []) n0
    refine fun f0 n1 => ?_
    have t1 := same_mk (o := .dK []) n1
    have d0 : d ≠ e0 := fun z => by rw [← z, hd3] at n0; cases n0
    have d1 : d ≠ f0 := fun z => by rw [← z, t0 _ _ hd3] at n1; cases n1
    have ef : e0 ≠ f0 := fun z => by rw [← z, upd_same] at n1; cases n1
    have he5 := t1 _ _ (upd_same (H := H3) (a := e0) (o := .dK []))
    have hf5 := upd_same (H := upd H3 e0 (.dK [])) (a := f0) (o := .dK [])
    have hd5 := (t0.trans t1) _ _ hd3
    have s5 := su.trans (t0.trans t1)
    have noE : H e0 = none := su.free n0
    have noF : H f0 = none := su.free (t0.free n1)
    generalize upd (upd H3 e0 (.dK [])) f0 (.dK []) = H5 at he5 hf5 hd5 s5 ⊢
    refine ⟨d, _, hd5, trivial, fun oe => ⟨_, rfl, d, oe, rfl, .inl ⟨fsK fs, upd_same, for_it (walk_keys (kvs := fsK fs)) (fun i σ H' => ∃ x1 x4 x5 ps qs, σ = [some (.ref d), x1, some (.ref e0), some (.ref f0), x4, x5] ∧ (∀ b u, H b = some u → b ≠ d → H' b = some u) ∧ H' d = some (.frz oe (.dK (fsK fs))) ∧ H' e0 = some (.dK (trK ps)) ∧ H' f0 = some (.dK (trK qs)) ∧
        (∀ p ∈ ps, p ∈ fs.map (·.1)) ∧ (∀ q ∈ qs, Nms q ∧ ∃ e ∈ fs, ∃ r, r ≠ [] ∧ e.1 = q ++ r) ∧ ps.length ≤ i ∧ qs.length ≤ 3 * i)
      ⟨x1, none, none, [], [], rfl, fun b u hb nb => by rw [upd_ne nb]; exact s5 _ _ hb, upd_same, by rw [upd_ne d0.symm]; exact he5, by rw [upd_ne d1.symm]; exact hf5, by simp, by simp, Nat.le_refl _, Nat.le_refl _⟩ (fun i σ H' _ z => by obtain ⟨_, _, _, _, _, _, _, z, _⟩ := z; exact z) ?_ ?_⟩⟩⟩
    · rintro i x _ H6 _ hi ⟨x1, x4, x5, ps, qs, rfl, kp, hd6, he6, hf6, hps, hqs, pl, ql⟩ ⟨rfl, k0, v, hkv, rfl⟩
      obtain ⟨e, he, rfl⟩ := at_ hkv
      have hi' : i < fs.length := (List.getElem?_eq_some_iff.mp he).1
      have hm := List.mem_of_getElem? he
      obtain ⟨h0, h3, _⟩ := g.path e hm
      have ne := nf e hm
      have psn : ∀ p ∈ ps, Nms p := fun p hp => by
        obtain ⟨a, ha, rfl⟩ := List.mem_map.mp (hps p hp)
        exact nf a ha
      have notq : e.1 ∉ qs := fun hq => by
        obtain ⟨_, a, ha, r, hr, ea⟩ := hqs _ hq
        have := g.free _ (List.mem_map_of_mem ha) _ (List.mem_map_of_mem hm)
        rw [ben_iff.mpr ⟨r, hr, ea⟩] at this
        cases this
      have notp : ∀ t ∈ aboves e.1, Nms t ∧ t ∉ ps := fun t ht => by
        obtain ⟨r, hr, er⟩ := aboves_is ht
        refine ⟨fun y hy => ne y (by rw [er]; exact List.mem_append_left _ hy), fun hp => ?_⟩
        have := g.free _ (List.mem_map_of_mem hm) _ (hps t hp)
        rw [ben_iff.mpr ⟨r, hr, er⟩] at this
        cases this
      have al := aboves_len e.1
      refine ⟨_, rfl, e.1, rfl, ne, by omega, fun D H7 nD s7 hD => ?_⟩
      have dgq := DGet.k (k := .inr (js e.1)) (s7 _ _ hf6)
      rw [tr_no (fun q hq => (hqs q hq).1) ne notq] at dgq
      refine ⟨_, rfl, _, rfl, f0, none, rfl, dgq, _, rfl, iteF ⟨_, rfl, D, rfl, ⟨_, SqL.of hD⟩, fun D2 hD2 => ?_⟩⟩
      refine lc_mapL (aboves e.1) (fun q => .str (js q)) (fun _ => .bl false) (by omega) hD2 (SqL.of hD) (fun t ht H8 s8 Q1 k1 => ?_) (fun H8 s8 hD8 => ?_)
      · have dgp := DGet.k (k := .inr (js t)) ((s7.trans s8) _ _ he6)
        rw [tr_no psn (notp t ht).1 (notp t ht).2] at dgp
        exact ⟨_, rfl, _, rfl, e0, none, rfl, dgp, k1 H8 (Same.refl H8)⟩
      · refine ⟨D2, (aboves e.1).map fun _ => false, rfl, SqL.of (by rw [hD8, List.map_map]; rfl), ?_⟩
        have anyF : ((aboves e.1).map fun _ => false).any id = false := by
          rw [List.any_map, List.any_eq_false]
          intro t _ h
          cases h
        rw [anyF]
        have s78 := s7.trans s8
        have he8 := s78 _ _ he6
        have hf8 := s78 _ _ hf6
        have hd8 := s78 _ _ hd6
        have hDD := s8 _ _ hD
        obtain ⟨ps', ep, pl', mp⟩ := tr_put ps e.1
        refine ⟨_, rfl, iteF ⟨_, rfl, _, rfl, e0, _, rfl, DPut.k (k := .inr (js e.1)) he8 (Nat.lt_of_le_of_lt (show (trK ps).length ≤ 50 by unfold trK; rw [List.length_map]; omega) (by decide)), ?_⟩⟩
        rw [ep]
        have De : D ≠ e0 := fun z => by rw [z, he6] at nD; cases nD
        have Df : D ≠ f0 := fun z => by rw [z, hf6] at nD; cases nD
        have hD9 : upd H8 e0 (.dK (trK ps')) D = some (.lst ((aboves e.1).map fun q => V.str (js q))) := by
          rw [upd_ne De]
          exact hDD
        have eH : ∀ b u, H b = some u → b ≠ d → upd H8 e0 (.dK (trK ps')) b = some u := fun b u hb nb => by
          rw [upd_ne (fun z => by rw [z, noE] at hb; cases hb)]
          exact s78 _ _ (kp b u hb nb)
        refine ⟨_, rfl, D, rfl, ⟨_, SqL.of hD9⟩, for_it (walk_list (K := K) (a := D) (xs := (aboves e.1).map fun q => V.str (js q))) (fun j σ H' => ∃ x1 x5 qs', σ = [some (.ref d), x1, some (.ref e0), some (.ref f0), some (.ref D), x5] ∧ (∀ b u, H b = some u → b ≠ d → H' b = some u) ∧ H' d = some (.frz oe (.dK (fsK fs))) ∧ H' e0 = some (.dK (trK ps')) ∧ H' f0 = some (.dK (trK qs')) ∧
            H' D = some (.lst ((aboves e.1).map fun q => V.str (js q))) ∧ (∀ q ∈ qs', q ∈ qs ∨ q ∈ aboves e.1) ∧ qs'.length ≤ qs.length + j)
          ⟨_, _, qs, rfl, eH, by rw [upd_ne d0]; exact hd8, upd_same, by rw [upd_ne ef.symm]; exact hf8, hD9, fun q h => .inl h, Nat.le_refl _⟩ (fun j σ H' _ z => by obtain ⟨_, _, _, _, _, _, _, _, z, _⟩ := z; exact SqL.of z) ?_ ?_⟩
        · rintro j y _ H9 _ hj ⟨x1', x5', qs', rfl, kp9, hd9, he9, hf9, hD9', hq9, ql9⟩ ⟨rfl, hy⟩
          rw [List.length_map] at hj
          rw [List.getElem?_map, List.getElem?_eq_getElem hj] at hy
          cases hy
          obtain ⟨qs2, eq2, ql2, mq2⟩ := tr_put qs' (aboves e.1)[j]
          refine ⟨_, rfl, _, rfl, f0, _, rfl, DPut.k (k := .inr (js (aboves e.1)[j])) hf9 (Nat.lt_of_le_of_lt (show (trK qs').length ≤ 1000 by unfold trK; rw [List.length_map]; omega) (by decide)), ?_⟩
          rw [eq2]
          refine ⟨_, _, qs2, rfl, fun b u hb nb => ?_, by rw [upd_ne d1]; exact hd9, by rw [upd_ne ef]; exact he9, upd_same, by rw [upd_ne Df]; exact hD9', fun q hq => ?_, by omega⟩
          · rw [upd_ne (fun z => by rw [z, noF] at hb; cases hb)]
            exact kp9 b u hb nb
          · rcases mq2 q hq with h | h
            · exact hq9 q h
            · exact .inr (h ▸ List.getElem_mem hj)
        · rintro _ H9 ⟨x1', x5', qs', rfl, kp9, hd9, he9, hf9, _, hq9, ql9⟩
          rw [List.length_map] at ql9
          refine ⟨_, _, _, ps', qs', rfl, kp9, hd9, he9, hf9, fun p hp => ?_, fun q hq => ?_, by omega, by omega⟩
          · rcases mp p hp with h | h
            · exact hps p h
            · rw [h]
              exact List.mem_map_of_mem hm
          · rcases hq9 q hq with h | h
            · exact hqs q h
            · obtain ⟨r, hr, er⟩ := aboves_is h
              exact ⟨(notp q h).1, e, hm, r, hr, er⟩
    · rintro _ H6 ⟨x1, x4, x5, ps, qs, rfl, kp, hd6, he6, hf6, hps, hqs, pl, ql⟩
      exact ⟨hd6, k _ (back hd kp)⟩
end
end W

set_option maxHeartbeats 3900000
namespace W
open PySem PySem.Spec PyProof.Rows L2 TL
open C8 (pss_cut tCut pe_gc)
open CB
abbrev sWIni : Stmt := inClass (top 23) 0
section
variable {α : Type} {J : It} {n : Nat} {G : Hp → Prop} {Y : Nat → Hp → V → Hp → Prop} {tk tv : TE} {σ : L2.St} {H1 : Hp} {D : Addr} {Qd : Hp → Prop} {j : Nat}
theorem put_new {kvs : List (L2.Key × V)} {k : L2.Key} {v : V} (h : k ∉ kvs.map (·.1)) : putK kvs k v = kvs ++ [(k, v)] := by
  unfold putK
  rw [if_neg]
  intro q
  obtain ⟨e, he, q⟩ := List.any_eq_true.mp q
  exact h (of_decide_eq_true q ▸ List.mem_map_of_mem he)
/-- {u z: val z for z in zs}, the keys unlike -/
theorem lcD (w : Walk J n G Y) (zs : List α) (u : α → Str) (val : α → V) (hn : zs.length = n) (hs : n < 1000) (hY : ∀ i H x H', Y i H x H' → H' = H ∧ (zs.map fun z => V.str (u z))[i]? = some x) (nd : (zs.map u).Nodup) (hD : H1 D = none) (hG : ∀ H', Same H1 H' → G H')
    (key : ∀ z ∈ zs, ∀ (H2 : Hp), Same H1 H2 → ∀ Q1 : VK, Q1 (.str (u z)) H2 → tk ((wipe σ [j]).set j (some (.str (u z)))) H2 Q1)
    (elt : ∀ z ∈ zs, ∀ (H2 : Hp), Same H1 H2 → ∀ Q1 : VK, Q1 (val z) H2 → tv ((wipe σ [j]).set j (some (.str (u z)))) H2 Q1)
    (hd : ∀ H', Same H1 H' → H' D = some (.dK (zs.map fun z => (.inr (u z), val z))) → Qd H') :
    ∃ W : Nat → Nat → Hp → Prop, (∃ m, W 0 m (upd H1 D (.dK []))) ∧ ∀ i m H, W i m H →
      (J.stop i H ∧ Qd H) ∨ (J.go i H ∧ ∃ Nx : Hp → Prop, (∀ H', Nx H' → ∃ m', m' < m ∧ W (i + 1) m' H') ∧
        ∀ x H', J.yld i H x H' → gName j x (wipe σ [j]) H' fun σ2 H2 => wipe σ2 [j] = wipe σ [j] ∧ tYes σ2 H2 fun b H3 => if b = true then tk σ2 H3 fun y H4 => tv σ2 H4 fun z H5 => ∃ kvs k, y = kV k ∧ H5 D = some (.dK kvs) ∧ kvs.length < sizeLine ∧ Nx (upd H5 D (.dK (putK kvs k z))) else Nx H3) := by
  subst hn
  refine ⟨fun i m H => m = zs.length - i ∧ i ≤ zs.length ∧ Same H1 H ∧ H D = some (.dK ((zs.take i).map fun z => (.inr (u z), val z))), ⟨zs.length, by simp, Nat.zero_le _, same_mk hD, upd_same⟩, ?_⟩
  rintro i m H ⟨rfl, hi, s2, hset⟩
  by_cases hlt : i < zs.length
  · refine .inr ⟨w.goes i H hlt (hG H s2), fun H' => Same H1 H' ∧ H' D = some (.dK ((zs.take (i + 1)).map fun z => (.inr (u z), val z))), fun H' p => ⟨zs.length - (i + 1), by omega, rfl, hlt, p⟩, fun x H' y => ?_⟩
    obtain ⟨rfl, hx⟩ := hY i H x H' (w.yields i H x H' hlt (hG H s2) y)
    rw [List.getElem?_map, List.getElem?_eq_getElem hlt] at hx
    cases hx
    have tk' : zs.take (i + 1) = zs.take i ++ [zs[i]] := by
      rw [List.take_succ, List.getElem?_eq_getElem hlt]
      rfl
    have hm : zs[i] ∈ zs := List.getElem_mem hlt
    have fresh : (Sum.inr (u zs[i]) : L2.Key) ∉ ((zs.take i).map fun z => ((Sum.inr (u z) : L2.Key), val z)).map (·.1) := fun q => by
      rw [List.map_map] at q
      obtain ⟨a, ha, ea⟩ := List.mem_map.mp q
      have ea : u a = u zs[i] := Sum.inr.inj ea
      have nd2 : ((zs.take (i + 1)).map u).Nodup := nd.sublist ((List.take_sublist _ _).map u)
      rw [tk', List.map_append, List.nodup_append] at nd2
      exact nd2.2.2 _ (List.mem_map_of_mem ha) _ (List.mem_singleton.mpr rfl) ea
    refine ⟨wipe1 _, ?_⟩
    dsimp only [tYes]
    rw [if_pos rfl]
    refine key _ hm _ s2 _ (elt _ hm _ s2 _ ⟨_, .inr (u zs[i]), rfl, hset, Nat.lt_of_le_of_lt (show _ ≤ 1000 by rw [List.length_map, List.length_take]; omega) (by decide), same_ch s2 hD, ?_⟩)
    rw [upd_same, put_new fresh, tk', List.map_append]
    rfl
  · have e : i = zs.length := by omega
    subst e
    rw [List.take_length] at hset
    exact .inl ⟨w.stops H (hG H s2), hd H s2 hset⟩
end
theorem GoodF.perm {zs : List Str} {fs fs' : Fs} (g : GoodF zs fs) (p : fs'.Perm fs) : GoodF zs fs' :=
  ⟨fun e he => g.path e (p.mem_iff.mp he), fun e he => g.text e (p.mem_iff.mp he), (p.map _).nodup_iff.mpr g.nd, fun a ha b hb => g.free a ((p.map _).mem_iff.mp ha) b ((p.map _).mem_iff.mp hb)⟩
theorem GoodS.perm {zs : List Str} {ss ss' : Ss} (g : GoodS zs ss) (p : ss'.Perm ss) : GoodS zs ss' :=
  ⟨fun e he => g.name e (p.mem_iff.mp he), fun e he => g.text e (p.mem_iff.mp he), (p.map _).nodup_iff.mpr g.nd⟩
theorem js_nd : ∀ {ps : List (List Str)}, (∀ p ∈ ps, Nms p) → ps.Nodup → (ps.map js).Nodup
  | [], _, _ => by simp
  | p :: r, h, nd => by
    rw [List.nodup_cons] at nd
    rw [List.map_cons, List.nodup_cons]
    refine ⟨fun q => ?_, js_nd (fun x hx => h x (List.mem_cons_of_mem _ hx)) nd.2⟩
    obtain ⟨a, ha, e⟩ := List.mem_map.mp q
    exact nd.1 (js_inj (h a (List.mem_cons_of_mem _ ha)) (h p List.mem_cons_self) e ▸ ha)
theorem fs_get {fs : Fs} (h : ∀ e ∈ fs, Nms e.1) (nd : (fs.map (·.1)).Nodup) : ∀ e ∈ fs, fOf fs e.1 = some e.2 := by
  induction fs with
  | nil => intro e he; cases he
  | cons a r ih =>
    intro e he
    rw [List.map_cons, List.nodup_cons] at nd
    unfold fOf
    rw [List.find?_cons]
    rcases List.mem_cons.mp he with rfl | he
    · rw [decide_eq_true rfl]
      rfl
    · have na : a.1 ≠ e.1 := fun q => nd.1 (by rw [q]; exact List.mem_map_of_mem he)
      rw [decide_eq_false na]
      exact ih (fun x hx => h x (List.mem_cons_of_mem _ hx)) nd.2 e he
theorem ss_get {ss : Ss} (nd : (ss.map (·.1)).Nodup) : ∀ e ∈ ss, sOf ss e.1 = some e.2 := by
  induction ss with
  | nil => intro e he; cases he
  | cons a r ih =>
    intro e he
    rw [List.map_cons, List.nodup_cons] at nd
    unfold sOf
    rw [List.find?_cons]
    rcases List.mem_cons.mp he with rfl | he
    · rw [decide_eq_true rfl]
      rfl
    · have na : a.1 ≠ e.1 := fun q => nd.1 (by rw [q]; exact List.mem_map_of_mem he)
      rw [decide_eq_false na]
      exact ih nd.2 e he
theorem funD_ok {P : Program} {w : World} {K : PySem.W.Frag} {mg : Str → Option Value} {base : Heap} {x qual : Str} {st : Stmt} {dvs : List V} {kws : List (Str × V)} {f : Addr} {fd : FuncData} {N ps : List Str} {k : Nat} {sp : Sp} (F : FunD K x qual (defArgs st) (defBody st) (defScope st) dvs kws f fd) (S : FnScope N ps (defScope st)) (len : ∀ vs H Q E, sp vs H Q E → vs.length = ps.length)
    (body : ∀ (cdv : Value) (A : Around) (outer : List Env) (s : Shared) (H : Hp) (vs : List V) (Q : VK) (E : XK), Room k (A.deeper (envOfC qual (defScope st) s.heap.objs.size f cdv)) → sp vs H Q E →
      ∃ t, PSs (cxOf CX0 P w K mg base N qual (defScope st) f cdv A outer s H E).nox (defBody st) t ∧ t { nx := fun _ H' => Q .non H', rt := Q } (start N vs) H) : FnOk P w K mg base CX0 (k + 1) f fd ps sp :=
  F.ok S len fun cdv A outer s H vs Q E hr hsp => by
    obtain ⟨t, h, q⟩ := body cdv A outer s H vs Q E hr hsp
    exact ⟨t, h.nox, q⟩
def spWIni (C : Addr) : Sp := fun vs H Q _ => ∃ o dx d e fs ss zs z, vs = [.ref o, .ref d, .ref e, .str z] ∧ H o = some (.ins C dx []) ∧ H d = some (.dK (fsK fs)) ∧ H e = some (.dK (ssK ss)) ∧ GoodF zs fs ∧ GoodS zs ss ∧ (∀ y ∈ zs, IsNm y) ∧ fs.length ≤ 50 ∧ ss.length ≤ 50 ∧
  ∀ (H' : Hp) (fs' : Fs) (ss' : Ss), (∀ b u, H b = some u → b ≠ o → H' b = some u) → List.Perm fs' fs → List.Perm ss' ss → sortedS (fs'.map fun x => js x.1) = true → sortedS (ss'.map (·.1)) = true → WoAt C H' o fs' ss' z → Q .non H'
section
variable {P : Program} {w : World} {K : PySem.W.Frag} {mg : Str → Option Value} {base : Heap} {C : Addr}
theorem scWIni : FnScope ["self", "files", "settings", "tool", "chosen", "path", "name"] ["self", "files", "settings", "tool"] (defScope sWIni) := ⟨rfl, rfl, rfl, by decide +kernel, rfl, by decide +kernel, by decide +kernel⟩
theorem ok_wini {f fF fS : Addr} {fd fdF fdS : FuncData} {dvs : List V} {kws : List (Str × V)} (F : FunD K "__init__" "World.__init__" (defArgs sWIni) (defBody sWIni) (defScope sWIni) dvs kws f fd) (T : TB mg) (R : WCl K mg C) (aCkF : At K mg "check_files" fF fdF ["files"]) (GCkF : FnOk P w K mg base CX0 3 fF fdF ["files"] spCkF)
    (aCkS : At K mg "check_settings" fS fdS ["settings"]) (GCkS : FnOk P w K mg base CX0 2 fS fdS ["settings"] spCkS) : FnOk P w K mg base CX0 4 f fd ["self", "files", "settings", "tool"] (spWIni C) := by
  refine funD_ok F scWIni (fun vs H Q E h => ?_) (fun cdv A outer s H vs Q E hr h => ?_)
  · obtain ⟨o, dx, d, e, fs, ss, zs, z, rfl, _⟩ := h
    rfl
  · have hu1 := Nat.lt_of_le_of_lt (Nat.add_le_add_left (show 1 ≤ 64 by decide) _) hr.units
    obtain ⟨o, dx, d, e, fs, ss, zs, z, rfl, ho, hd, he, g, gs, nm, fl, sl, k⟩ := h
    refine ⟨_, pss_cons (ps_set (i := 4) scWIni.nd rfl (Or.inr rfl) (pe_ifExp (pt_cmp (pc_isN (pv 2))) pe_dnewK (pv 2)))
            (pss_cons (ps_expr (pe_call GCkF (hr.mono (by decide)) rfl aCkF.m aCkF.k aCkF.b .nil pass0 (pa_cons (pv 1) pa_nil)))
            (pss_cons (ps_expr (pe_call GCkS (hr.mono (by decide)) rfl aCkS.m aCkS.k aCkS.b .nil pass0 (pa_cons (pv 4) pa_nil)))
            (pss_cons (ps_fld (pv 0) (pe_dc (own := [("path", 5)]) (g := gName 5) (tt := tYes) rfl scWIni.nd (pi_list (pe_callB (call_sortedD rfl) (by rfl) T.sorted (by decide +kernel) (pa_cons (pv 1) pa_nil))) (blkOk_by (own := [("path", 5)]) (N := ["self", "files", "settings", "tool", "chosen", "path", "name"]) (sc := defScope sWIni) (by decide +kernel)) (fun _ _ _ _ _ => (pg_name (i := 5) scWIni.nd rfl (Or.inl rfl))) (fun _ _ _ _ _ => pts_nil) (fun _ _ _ _ _ => (by exact (pv 5))) (fun _ _ _ _ _ => (by exact (pe_dget hu1 (pv 1) (pv 5) (fun _ _ => rfl))))) rfl)
            (pss_cons (ps_fld (pv 0) (pe_dc (own := [("name", 6)]) (g := gName 6) (tt := tYes) rfl scWIni.nd (pi_list (pe_callB (call_sortedD rfl) (by rfl) T.sorted (by decide +kernel) (pa_cons (pv 4) pa_nil))) (blkOk_by (own := [("name", 6)]) (N := ["self", "files", "settings", "tool", "chosen", "path", "name"]) (sc := defScope sWIni) (by decide +kernel)) (fun _ _ _ _ _ => (pg_name (i := 6) scWIni.nd rfl (Or.inl rfl))) (fun _ _ _ _ _ => pts_nil) (fun _ _ _ _ _ => (by exact (pv 6))) (fun _ _ _ _ _ => (by exact (pe_dget hu1 (pv 4) (pv 6) (fun _ _ => rfl))))) rfl)
            (pss_one (ps_fld (pv 0) (pv 3) rfl)))))), ?_⟩
    have nf : ∀ x ∈ fs, Nms x.1 := fun x hx y hy => nm y ((g.path x hx).2.2 y hy)
    refine ⟨_, rfl, _, rfl, iteF ⟨_, rfl, _, rfl, d, fs, zs, rfl, hd, g, nm, fl, fun H1 s1 => ⟨_, rfl, e, ss, zs, rfl, s1 _ _ he, gs, nm, sl, fun H2 s2 => ?_⟩⟩⟩
    have s12 := s1.trans s2
    have keysF : (fsK fs).map (·.1) = (fs.map fun x => js x.1).map Sum.inr := by
      unfold fsK
      rw [List.map_map, List.map_map]
      rfl
    have keysS : (ssK ss).map (·.1) = (ss.map (·.1)).map Sum.inr := by
      unfold ssK
      rw [List.map_map, List.map_map]
      rfl
    refine ⟨_, rfl, d, fsK fs, fs.map fun x => js x.1, rfl, .inl (s12 _ _ hd), keysF, by rw [List.length_map]; omega, fun ys p pm srt hp => ?_⟩
    obtain ⟨fs', rfl, pf⟩ := perm_lift pm
    have g' := g.perm pf
    have fl' := pf.length_eq
    have s3 := same_mk (o := .lst ((fs'.map fun x => js x.1).map V.str)) hp
    have s13 := s12.trans s3
    have hl3 : upd H2 p (.lst ((fs'.map fun x => js x.1).map V.str)) p = some (.lst (fs'.map fun x => V.str (js x.1))) := by rw [upd_same, List.map_map]; rfl
    generalize upd H2 p (.lst ((fs'.map fun x => js x.1).map V.str)) = H3 at s13 hl3 ⊢
    have ndj : (fs'.map fun x => js x.1).Nodup := by
      have := js_nd (ps := fs'.map (·.1)) (fun q hq => by
        obtain ⟨a, ha, rfl⟩ := List.mem_map.mp hq
        exact nf a (pf.mem_iff.mp ha)) g'.nd
      rw [List.map_map] at this
      exact this
    refine ⟨p, rfl, ⟨_, SqL.of hl3⟩, fun D hD => ?_⟩
    refine lcD (walk_list (K := K) (a := p) (xs := fs'.map fun x => V.str (js x.1))) fs' (fun x => js x.1) (fun x => .str x.2) (by rw [List.length_map]) (by rw [List.length_map]; omega) (fun i H x H' y => ⟨y.1, y.2⟩) ndj hD (fun H' s' => SqL.of (s' _ _ hl3)) ?_ ?_ ?_
    · intro x hx H4 s4 Q1 k1
      exact ⟨_, rfl, k1⟩
    · intro x hx H4 s4 Q1 k1
      have dg := DGet.k (k := .inr (js x.1)) ((s13.trans s4) _ _ hd)
      have hm := pf.mem_iff.mp hx
      rw [fs_val nf (nf x hm), fs_get nf g.nd x hm] at dg
      exact ⟨_, rfl, _, rfl, d, _, rfl, dg, k1⟩
    · intro H4 s4 hD4
      have s14 := s13.trans s4
      refine ⟨_, rfl, o, C, dx, [], rfl, s14 _ _ ho, R.cl, R.n1, by show 0 < 1000; decide, ?_⟩
      have ho4 := s14 _ _ ho
      have eo : e ≠ o := ne_of he ho (by intro z; cases z)
      have Do : D ≠ o := ne_of hD4 ho4 (by intro z; cases z)
      have kp5 : ∀ b u, H b = some u → b ≠ o → upd H4 o (.ins C dx [(("contents" : Str), .ref D)]) b = some u := fun b u hb nb => by
        rw [upd_ne nb]
        exact s14 _ _ hb
      have he5 := kp5 _ _ he eo
      have hD5 : upd H4 o (.ins C dx [(("contents" : Str), .ref D)]) D = some (.dK (fs'.map fun x => (.inr (js x.1), .str x.2))) := by
        rw [upd_ne Do]
        exact hD4
      have ho5 := upd_same (H := H4) (a := o) (o := .ins C dx [(("contents" : Str), .ref D)])
      show tSeq _ _ _ _ (upd H4 o (.ins C dx [(("contents" : Str), .ref D)]))
      generalize upd H4 o (.ins C dx [(("contents" : Str), .ref D)]) = H5 at kp5 he5 hD5 ho5 ⊢
      refine ⟨_, rfl, e, ssK ss, ss.map (·.1), rfl, .inl he5, keysS, by rw [List.length_map]; omega, fun ys p2 pm2 srt2 hp2 => ?_⟩
      obtain ⟨ss', rfl, ps⟩ := perm_lift pm2
      have sl' := ps.length_eq
      have s6 := same_mk (o := .lst ((ss'.map (·.1)).map V.str)) hp2
      have hl6 : upd H5 p2 (.lst ((ss'.map (·.1)).map V.str)) p2 = some (.lst (ss'.map fun x => V.str x.1)) := by rw [upd_same, List.map_map]; rfl
      generalize upd H5 p2 (.lst ((ss'.map (·.1)).map V.str)) = H6 at s6 hl6 ⊢
      refine ⟨p2, rfl, ⟨_, SqL.of hl6⟩, fun D2 hD2 => ?_⟩
      refine lcD (walk_list (K := K) (a := p2) (xs := ss'.map fun x => V.str x.1)) ss' (fun x => x.1) (fun x => .str x.2) (by rw [List.length_map]) (by rw [List.length_map]; omega) (fun i H x H' y => ⟨y.1, y.2⟩) (gs.perm ps).nd hD2 (fun H' s' => SqL.of (s' _ _ hl6)) ?_ ?_ ?_
      · intro x hx H7 s7 Q1 k1
        exact ⟨_, rfl, k1⟩
      · intro x hx H7 s7 Q1 k1
        have dg := DGet.k (k := .inr x.1) ((s6.trans s7) _ _ he5)
        rw [ss_val, ss_get gs.nd x (ps.mem_iff.mp hx)] at dg
        exact ⟨_, rfl, _, rfl, e, _, rfl, dg, k1⟩
      · intro H7 s7 hD7
        have s67 := s6.trans s7
        have ho7 := s67 _ _ ho5
        have D2o : D2 ≠ o := ne_of hD7 ho7 (by intro z; cases z)
        refine ⟨_, rfl, o, C, dx, [(("contents" : Str), .ref D)], rfl, ho7, R.cl, R.n2, by show 1 < 1000; decide, ?_⟩
        refine ⟨_, rfl, _, rfl, o, C, dx, [(("contents" : Str), .ref D), ("chosen", .ref D2)], rfl, upd_same, R.cl, R.n3, by show 2 < 1000; decide, ?_⟩
        refine k _ fs' ss' (fun b u hb nb => ?_) pf ps srt srt2 ⟨dx, D, D2, upd_same, ?_, ?_⟩
        · rw [upd_ne nb, upd_ne nb]
          exact s67 _ _ (kp5 b u hb nb)
        · rw [upd_ne Do, upd_ne Do]
          exact s67 _ _ hD5
        · rw [upd_ne D2o, upd_ne D2o]
          exact hD7
end
end W

set_option maxHeartbeats 3900000
namespace W
open PySem PySem.Spec PyProof.Rows L2 TL
open C8 (pss_cut tCut pe_gc)
open CB
abbrev sMade : Stmt := top 40
def spMade (C : Addr) : Sp := fun vs H Q _ => ∃ x fs ss zs z, vs = [.ref x] ∧ WAt H x fs ss z ∧ GoodF zs fs ∧ GoodS zs ss ∧ (∀ y ∈ zs, IsNm y) ∧ fs.length ≤ 50 ∧ ss.length ≤ 50 ∧
  ∀ (o : Addr) (H' : Hp) (fs' : Fs) (ss' : Ss), H o = none → Same H H' → List.Perm fs' fs → List.Perm ss' ss → sortedS (fs'.map fun x => js x.1) = true → sortedS (ss'.map (·.1)) = true → WoAt C H' o fs' ss' z → Q (.ref o) H'
section
variable {P : Program} {w : World} {K : PySem.W.Frag} {mg : Str → Option Value} {base : Heap} {C : Addr}
theorem scMade : FnScope ["_law_w"] ["_law_w"] (defScope sMade) := ⟨rfl, rfl, rfl, by decide +kernel, rfl, by decide +kernel, by decide +kernel⟩
theorem ok_made {f fI : Addr} {fd fdI : FuncData} (F : Fun K "_law_made" "_law_made" sMade f fd) (mDict : mg "dict" = none) (R : WCl K mg C) (mk : Mk K C fI) (bWIni : L2.Binds K fdI ["self", "files", "settings", "tool"] []) (GWIni : FnOk P w K mg base CX0 4 fI fdI ["self", "files", "settings", "tool"] (spWIni C)) :
    FnOk P w K mg base CX0 6 f fd ["_law_w"] (spMade C) := by
  refine F.ok scMade (fun vs H Q E h => ?_) (fun cdv A outer s H vs Q E hr h => ?_)
  · obtain ⟨x, fs, ss, zs, z, rfl, _⟩ := h
    rfl
  · have hu1 := Nat.lt_of_le_of_lt (Nat.add_le_add_left (show 1 ≤ 64 by decide) _) hr.units
    obtain ⟨x, fs, ss, zs, z, rfl, ⟨d, e, hx, hd, he⟩, g, gs, nm, fl, sl, k⟩ := h
    refine ⟨_, pss_one (ps_ret (pe_make mk GWIni (hr.mono (by decide)) rfl R.mg bWIni .nil pass0 (pa_cons (pe_callTy call_dictD (by rfl) mDict (by decide +kernel) (pa_cons (pe_dget hu1 (pv 0) pe_str (fun _ _ => rfl)) pa_nil)) (pa_cons (pe_callTy call_dictD (by rfl) mDict (by decide +kernel) (pa_cons (pe_dget hu1 (pv 0) pe_str (fun _ _ => rfl)) pa_nil)) (pa_cons (pe_dget hu1 (pv 0) pe_str (fun _ _ => rfl)) pa_nil))))), ?_⟩
    refine ⟨_, rfl, x, _, rfl, wd_f hx, d, _, rfl, .inl hd, fun p hp => ?_⟩
    have s1 := same_mk (o := .dK (fsK fs)) hp
    refine ⟨_, rfl, x, _, rfl, wd_s (s1 _ _ hx), e, _, rfl, .inl (s1 _ _ he), fun q hq => ?_⟩
    have s2 := same_mk (o := .dK (ssK ss)) hq
    have s12 := s1.trans s2
    refine ⟨_, rfl, x, _, rfl, wd_t (s12 _ _ hx), ?_⟩
    have hp2 := s2 _ _ (upd_same (H := H) (a := p) (o := .dK (fsK fs)))
    have hq2 := upd_same (H := upd H p (.dK (fsK fs))) (a := q) (o := .dK (ssK ss))
    generalize upd (upd H p (.dK (fsK fs))) q (.dK (ssK ss)) = H2 at s12 hp2 hq2 ⊢
    intro o dx ho hdx hne
    have sm : Same H2 (upd (upd H2 dx (.own o)) o (.ins C dx [])) := fun b u hb => by
      have n1 : b ≠ o := fun e => by rw [e, ho] at hb; cases hb
      have n2 : b ≠ dx := fun e => by rw [e, hdx] at hb; cases hb
      rw [upd_ne n1, upd_ne n2]
      exact hb
    refine ⟨o, dx, p, q, fs, ss, zs, z, rfl, upd_same, sm _ _ hp2, sm _ _ hq2, g, gs, nm, fl, sl, fun H' fs' ss' kp pf ps srt srt2 wo => ⟨rfl, ?_⟩⟩
    refine k o H' fs' ss' (s12.free ho) (fun b u hb => ?_) pf ps srt srt2 wo
    exact kp b u (sm _ _ (s12 _ _ hb)) fun e => by rw [e, s12.free ho] at hb; cases hb
end
end W

set_option maxHeartbeats 3900000
namespace W
open PySem PySem.Spec PyProof.Rows L2 TL
open C8 (pss_cut tCut pe_gc)
open CB
abbrev sWEq : Stmt := inClass (top 23) 7
/-- what isinstance asks of the class -/
structure WIs (K : PySem.W.Frag) (C : Addr) : Prop where
  ha : PySem.W.findIn K (.ref C) "__class__" = some (some (.builtin "object.__class__"))
  hn : PySem.W.specialIn K (.builtin "object.__class__") "__get__" = some (some (.builtin "getset_descriptor.__get__"))
  ht : PySem.W.takesIn K (.builtin "object.__class__") = some true
  hm : PySem.W.mroIn K C (.type "object") = some true
  kC : PySem.W.kitOne K (.ref C) (.ref C) = some true
/-- worlds that hold the same -/
def spWEq (C : Addr) : Sp := fun vs H Q _ => ∃ o o2 fs fs' ss ss' zs z, vs = [.ref o, .ref o2] ∧ WoAt C H o fs ss z ∧ WoAt C H o2 fs' ss' z ∧ List.Perm fs fs' ∧ List.Perm ss ss' ∧ GoodF zs fs ∧ GoodS zs ss ∧ (∀ y ∈ zs, IsNm y) ∧ Q (.bl true) H
section
variable {P : Program} {w : World} {K : PySem.W.Frag} {mg : Str → Option Value} {base : Heap} {C : Addr}
theorem scWEq : FnScope ["self", "other"] ["self", "other"] (defScope sWEq) := ⟨rfl, rfl, rfl, by decide +kernel, rfl, by decide +kernel, by decide +kernel⟩
theorem ok_weq {f : Addr} {fd : FuncData} (F : Fun K "__eq__" "World.__eq__" sWEq f fd) (T : TB mg) (R : WCl K mg C) (I : WIs K C) : FnOk P w K mg base CX0 1 f fd ["self", "other"] (spWEq C) := by
  refine F.ok scWEq (fun vs H Q E h => ?_) (fun cdv A outer s H vs Q E hr h => ?_)
  · obtain ⟨o, o2, fs, fs', ss, ss', zs, z, rfl, _⟩ := h
    rfl
  · have hu0 := hr.units0
    obtain ⟨o, o2, fs, fs', ss, ss', zs, z, rfl, ⟨dx, d, e, ho, hd, he⟩, ⟨dy, d2, e2, ho2, hd2, he2⟩, pf, ps, g, gs, nm, k⟩ := h
    refine ⟨_, pss_one (ps_ret (pe_and (pe_callB call_isi (by rfl) T.isinstance (by decide +kernel) (pa_cons (pv 1) (pa_cons (pe_glob (v := .ref C) rfl R.mg rfl) pa_nil))) (pe_and (pe_cmpR (op_eq_dictA hu0) (pe_fld (pv 0) rfl) (pe_fld (pv 1) rfl) (nomark _)) (pe_and (pe_cmpR (op_eq_dictA hu0) (pe_fld (pv 0) rfl) (pe_fld (pv 1) rfl) (nomark _)) (pe_one (pe_cmpR op_eq (pe_fld (pv 0) rfl) (pe_fld (pv 1) rfl) (nomark _))))))), ?_⟩
    have g' := g.perm pf.symm
    have gs' := gs.perm ps.symm
    have nf : ∀ x ∈ fs', Nms x.1 := fun x hx y hy => nm y ((g'.path x hx).2.2 y hy)
    refine ⟨_, rfl, _, _, .ref C, .ref C, true, rfl, .own C, .base (.ins ho2 R.cl I.ha I.hn I.ht I.hm), I.kC, _, rfl, iteT ?_⟩
    refine ⟨_, rfl, o, C, dx, _, _, rfl, ho, R.cl, R.n1, lk_1, _, rfl, o2, C, dy, _, _, rfl, ho2, R.cl, R.n1, lk_1, d, d2, fsK fs, fsK fs', rfl, rfl, hd, hd2, ?_, fun p hp => ?_, _, rfl, iteT ?_⟩
    · unfold fsK
      rw [List.length_map, List.length_map, pf.length_eq]
    · obtain ⟨x, hx, rfl⟩ := List.mem_map.mp hp
      have hm := pf.mem_iff.mp hx
      exact ⟨by show valV (fsK fs') (.inr (js x.1)) = _; rw [fs_val nf (nf x hm), fs_get nf g'.nd x hm]; rfl, rfl⟩
    refine ⟨_, rfl, o, C, dx, _, _, rfl, ho, R.cl, R.n2, lk_2, _, rfl, o2, C, dy, _, _, rfl, ho2, R.cl, R.n2, lk_2, e, e2, ssK ss, ssK ss', rfl, rfl, he, he2, ?_, fun p hp => ?_, _, rfl, iteT ?_⟩
    · unfold ssK
      rw [List.length_map, List.length_map, ps.length_eq]
    · obtain ⟨x, hx, rfl⟩ := List.mem_map.mp hp
      have hm := ps.mem_iff.mp hx
      exact ⟨by show valV (ssK ss') (.inr x.1) = _; rw [ss_val, ss_get gs'.nd x hm]; rfl, rfl⟩
    refine ⟨_, rfl, o, C, dx, _, _, rfl, ho, R.cl, R.n3, lk_3, _, rfl, o2, C, dy, _, _, rfl, ho2, R.cl, R.n3, lk_3, rfl, ?_⟩
    rw [decide_eq_true rfl]
    exact k
end
end W

set_option maxHeartbeats 3900000
namespace W
open PySem PySem.Spec PyProof.Rows L2 TL
open C8 (pss_cut tCut pe_gc)
open CB
/-! what is no look -/
inductive NoRow (H : Hp) : V → Prop
  | non : NoRow H .non
  | str (z : Str) : NoRow H (.str z)
  | int (i : Int) : NoRow H (.int i)
  | dct {a : Addr} {kvs : List (L2.Key × V)} (h : H a = some (.dK kvs)) : NoRow H (.ref a)
theorem NoRow.up {H H' : Hp} {x : V} (h : NoRow H x) (s : Same H H') : NoRow H' x := by
  cases h with
  | non => exact .non
  | str z => exact .str z
  | int i => exact .int i
  | dct h => exact .dct (s _ _ h)
def rLT2 : List V → Hp → VK → Prop := fun vs H Q => ∃ v tp, vs = [v, .ref tp] ∧ H tp = some (.tup [.ty "list", .ty "tuple"]) ∧ NoRow H v ∧ Q (.bl false) H
theorem isi_LT2 {X : Cx} : CallR X (.builtin "isinstance") rLT2 := by
  intro pins s σ H xs us Q I r h
  obtain ⟨v, tp, rfl, ht, hl, q⟩ := h
  have go : ∀ (n : String), TyX X.K H v (.type n) → PySem.W.kitAny X.K (.type n) [.type "list", .type "tuple"] = some false → wpAny (model X.prog X.w) X.A (call (.builtin "isinstance") us) (EP X pins σ Q) X.xe s := fun n t k =>
    call_isiT (X := X) pins s σ H _ us Q I r ⟨v, tp, _, .type n, [.type "list", .type "tuple"], false, rfl, ht, .cons (.ty "list") (.cons (.ty "tuple") .nil), t, k, q⟩
  cases hl with
  | non => exact go "NoneType" (.base .non) (kitLT (b := false) (c := false) (by decide +kernel) (by decide +kernel))
  | str z => exact go "str" (.base (.str z)) (kitLT (b := false) (c := false) (by decide +kernel) (by decide +kernel))
  | int i => exact go "int" (.base (.int i)) (kitLT (b := false) (c := false) (by decide +kernel) (by decide +kernel))
  | dct h => exact go "dict" (.base (.dK h)) (kitLT (b := false) (c := false) (by decide +kernel) (by decide +kernel))
/-- a text that is no path -/
def PathNo (z : Str) : Prop := ∃ ys, Txt.split z "/" = ys ∧ Sh z ∧ (∀ y ∈ ys, Sh y) ∧ ys.length < 1000000 ∧ (ys.all fun y => decide (IsNm y)) = false
inductive CanNot : Str → V → Prop
  | rd {z : Str} (h : PathNo z) : CanNot "read" (.str z)
  | ls0 : CanNot "list" .non
  | ls {z : Str} (h : PathNo z) (n : z ≠ "") : CanNot "list" (.str z)
  | se {z : Str} (h : ¬ IsNm z) (s : Sh z) : CanNot "setting" (.str z)
  | se5 (i : Int) : CanNot "setting" (.int i)
  | oth {a : Str} {b : V} (h1 : a ≠ "read") (h2 : a ≠ "list") (h3 : a ≠ "setting") : CanNot a b
inductive OddR : List V → Prop
  | zero : OddR []
  | one {z : Str} (h : z ≠ "tool") : OddR [.str z]
  | two {a : Str} {b : V} (h : CanNot a b) : OddR [.str a, b]
  | three (a b c : V) : OddR [a, b, c]
inductive OddL (H : Hp) : V → Prop
  | no {x : V} (h : NoRow H x) : OddL H x
  | row {x : V} {xs : List V} (h : RowAt H x xs) (o : OddR xs) : OddL H x
theorem OddL.up {H H' : Hp} {x : V} (h : OddL H x) (s : Same H H') : OddL H' x := by
  cases h with
  | no h => exact .no (h.up s)
  | row h o => exact .row (h.up s) o
def spRowO : Sp := fun vs H Q _ => ∃ v n, vs = [v, .int n] ∧ NoRow H v ∧ ∀ H', Same H H' → Q (.bl false) H'
def spRow2 : Sp := fun vs H Q E => spRow vs H Q E ∨ spRowO vs H Q E
def spIsNameO : Sp := fun vs H Q _ => ∃ i, vs = [.int i] ∧ Q (.bl false) H
def spIsPathO : Sp := fun vs H Q _ => ∃ x, vs = [x] ∧ (x = .non ∨ ∃ z, x = .str z ∧ PathNo z) ∧ ∀ H', Same H H' → Q (.bl false) H'
def spIsPlaceO : Sp := fun vs H Q _ => ∃ x, vs = [x] ∧ (x = .non ∨ ∃ z, x = .str z ∧ PathNo z ∧ z ≠ "") ∧ ∀ H', Same H H' → Q (.bl false) H'
def spCanLookO : Sp := fun vs H Q _ => ∃ a b, vs = [.str a, b] ∧ CanNot a b ∧ ∀ H', Same H H' → Q (.bl false) H'
def spAsLookO : Sp := fun vs H Q _ => ∃ x, vs = [x] ∧ OddL H x ∧ ∀ H', Same H H' → Q .non H'
section
variable {P : Program} {w : World} {K : PySem.W.Frag} {mg : Str → Option Value} {base : Heap}
theorem ok_rowO {f : Addr} {fd : FuncData} (F : Fun K "is_row" "is_row" sRow f fd) (T : TB mg) : FnOk P w K mg base CX0 1 f fd ["thing", "size"] spRowO := by
  refine F.ok scRow (fun vs H Q E h => ?_) (fun cdv A outer s H vs Q E hr h => ?_)
  · obtain ⟨v, n, rfl, _⟩ := h
    rfl
  · obtain ⟨v, n, rfl, hv, k⟩ := h
    refine ⟨_, pss_one (ps_ret (pe_and (pe_callB isi_LT2 (by rfl) T.isinstance (by decide +kernel) (pa_cons (pv 0) (pa_cons (pe_tup (pa_cons (pe_bltn (v := .ty "list") (by rfl) T.list (by decide +kernel) rfl) (pa_cons (pe_bltn (v := .ty "tuple") (by rfl) T.tuple (by decide +kernel) rfl) pa_nil))) pa_nil))) (pe_one (pe_cmpR op_eq (pe_callB call_len_row (by rfl) T.len PySem.boot_len (pa_cons (pv 0) pa_nil)) (pv 1) (nomark _))))), ?_⟩
    exact ⟨_, rfl, by show 2 ≤ sizeLine; decide, fun tp ht => ⟨v, tp, rfl, upd_same, hv.up (same_mk ht), _, rfl, iteF (k _ (same_mk ht))⟩⟩
theorem ok_isNameO {f : Addr} {fd : FuncData} (F : Fun K "is_name" "is_name" sIsName f fd) (T0 : TPk mg) : FnOk P w K mg base CX0 1 f fd ["thing"] spIsNameO := by
  have T := T0.b
  obtain ⟨t1, mLETTERS⟩ := T0.LETTERS
  obtain ⟨t2, mLONGEST⟩ := T0.LONGEST
  refine F.ok scIsName (fun vs H Q E h => ?_) (fun cdv A outer s H vs Q E hr h => ?_)
  · obtain ⟨z, rfl, _⟩ := h
    rfl
  · obtain ⟨i, rfl, k⟩ := h
    refine ⟨_, pss_cons (ps_if (PW.pt (pw_or (pt_not (pt_val (pe_callB call_isi (by rfl) T.isinstance (by decide +kernel) (pa_cons (pv 0) (pa_cons (pe_bltn (v := .ty "str") (by rfl) T.str (by decide +kernel) rfl) pa_nil))))) (pw_or1 (pt_not (pt_chain op_le op_le pe_int (pe_callB call_len_str (by rfl) T.len PySem.boot_len (pa_cons (pv 0) pa_nil)) (pe_glob (v := .int 8) rfl mLONGEST ⟨_, rfl⟩)))))) (pss_one (ps_ret pe_bl)) (pss_nil))
        (pss_one (ps_ret (pe_callB (cr_all rfl) (by rfl) T.all boot_all (pa_cons (pe_lc (own := [("letter", 1)]) (g := gName 1) (tt := tYes) rfl scIsName.nd (pi_str (pv 0)) (blkOk_by (own := [("letter", 1)]) (N := ["thing", "letter"]) (sc := defScope sIsName) (by decide +kernel)) (fun _ _ _ _ _ => (pg_name (i := 1) scIsName.nd rfl (Or.inl rfl))) (fun _ _ _ _ _ => pts_nil) (fun _ _ _ _ _ => (pe_cmpR op_in_sign (pv 1) (pe_glob (v := .str letters) rfl mLETTERS ⟨_, rfl⟩) (by rfl)))) pa_nil)))), ?_⟩
    exact ⟨_, rfl, _, _, .type "int", .type "str", false, rfl, .ty "str", .base (.int i), kit_ty (by decide +kernel), _, rfl, iteT k⟩
theorem ok_isPathO {f fN : Addr} {fd fdN : FuncData} (F : Fun K "is_path" "is_path" sIsPath f fd) (T0 : TPk mg) (aIsName : At K mg "is_name" fN fdN ["thing"]) (GIsName : FnOk P w K mg base CX0 1 fN fdN ["thing"] spIsName) : FnOk P w K mg base CX0 2 f fd ["thing"] spIsPathO := by
  have T := T0.b
  obtain ⟨t1, mSTROKE⟩ := T0.STROKE
  refine F.ok scIsPath (fun vs H Q E h => ?_) (fun cdv A outer s H vs Q E hr h => ?_)
  · obtain ⟨z, rfl, _⟩ := h
    rfl
  · obtain ⟨x, rfl, hx, k⟩ := h
    refine ⟨_, pss_one (ps_ret (pe_and (pe_callB call_isi (by rfl) T.isinstance (by decide +kernel) (pa_cons (pv 0) (pa_cons (pe_bltn (v := .ty "str") (by rfl) T.str (by decide +kernel) rfl) pa_nil))) (pe_one (pe_callB (cr_all rfl) (by rfl) T.all boot_all (pa_cons (pe_lc (own := [("part", 1)]) (g := gName 1) (tt := tYes) rfl scIsPath.nd (pi_list (pe_bm PySem.F.plainAttrs_str PySem.F.slot_str_split PySem.F.type_str_split mt_split (pv 0) (pa_cons (pe_glob (v := .str "/") rfl mSTROKE ⟨_, rfl⟩) pa_nil))) (blkOk_by (own := [("part", 1)]) (N := ["thing", "part"]) (sc := defScope sIsPath) (by decide +kernel)) (fun _ _ _ _ _ => (pg_name (i := 1) scIsPath.nd rfl (Or.inl rfl))) (fun _ _ _ _ _ => pts_nil) (fun _ _ _ _ _ => (pe_call GIsName (hr.mono (by decide)) rfl aIsName.m aIsName.k aIsName.b .nil pass0 (pa_cons (pv 1) pa_nil)))) pa_nil))))), ?_⟩
    rcases hx with rfl | ⟨z, rfl, ys, e1, hs, e2, e3, e4⟩
    · exact ⟨_, rfl, _, _, .type "NoneType", .type "str", false, rfl, .ty "str", .base .non, kit_ty (by decide +kernel), _, rfl, iteF (k H (Same.refl H))⟩
    refine ⟨_, rfl, _, _, .type "str", .type "str", true, rfl, .ty "str", .base (.str _), kit_ty (by decide +kernel), true, rfl, iteT ⟨_, rfl, rfl, z, "/", rfl, rfl, rfl, ?_, fun l hl' => ⟨l, rfl, ⟨_, SqL.of upd_same⟩, fun D hD => ?_⟩⟩⟩
    · have := hs
      unfold Sh at this
      exact Nat.le_trans (show z.length + 2 ≤ 1002 by omega) (by decide)
    · rw [e1] at hD ⊢
      have s1 : Same H (upd H l (.lst (ys.map V.str))) := same_mk hl'
      refine lc_mapL ys V.str (fun y => .bl (decide (IsNm y))) e3 hD (SqL.of upd_same) ?_ ?_
      · intro y hy H2 s2 Q1 k1
        exact ⟨_, rfl, y, rfl, e2 y hy, k1⟩
      · intro H' s' hD'
        refine all_of _ _ hD' ?_
        rw [e4]
        exact k H' (s1.trans s')
theorem ok_isPlaceO {f fN : Addr} {fd fdN : FuncData} (F : Fun K "is_place" "is_place" sIsPlace f fd) (T0 : TPk mg) (aIsPath : At K mg "is_path" fN fdN ["thing"]) (GIsPath : FnOk P w K mg base CX0 2 fN fdN ["thing"] spIsPathO) : FnOk P w K mg base CX0 3 f fd ["thing"] spIsPlaceO := by
  have T := T0.b
  obtain ⟨t1, mROOT⟩ := T0.ROOT
  refine F.ok scIsPlace (fun vs H Q E h => ?_) (fun cdv A outer s H vs Q E hr h => ?_)
  · obtain ⟨z, rfl, _⟩ := h
    rfl
  · obtain ⟨x, rfl, hx, k⟩ := h
    refine ⟨_, pss_one (ps_ret (pe_or (pe_call GIsPath (hr.mono (by decide)) rfl aIsPath.m aIsPath.k aIsPath.b .nil pass0 (pa_cons (pv 0) pa_nil)) (pe_one (pe_and (pe_callB call_isi (by rfl) T.isinstance (by decide +kernel) (pa_cons (pv 0) (pa_cons (pe_bltn (v := .ty "str") (by rfl) T.str (by decide +kernel) rfl) pa_nil))) (pe_one (pe_cmpR op_eq (pv 0) (pe_glob (v := .str "") rfl mROOT ⟨_, rfl⟩) (nomark _))))))), ?_⟩
    rcases hx with rfl | ⟨z, rfl, hz, nz⟩
    · exact ⟨_, rfl, _, rfl, .inl rfl, fun H1 s1 => ⟨_, rfl, iteF ⟨_, rfl, _, _, .type "NoneType", .type "str", false, rfl, .ty "str", .base .non, kit_ty (by decide +kernel), _, rfl, iteF (k H1 s1)⟩⟩⟩
    · refine ⟨_, rfl, _, rfl, .inr ⟨z, rfl, hz⟩, fun H1 s1 => ⟨_, rfl, iteF ⟨_, rfl, _, _, .type "str", .type "str", true, rfl, .ty "str", .base (.str _), kit_ty (by decide +kernel), _, rfl, iteT ⟨_, rfl, rfl, ?_⟩⟩⟩⟩
      rw [decide_eq_false (show ¬ V.str z = V.str "" from fun q => nz (V.str.inj q))]
      exact k H1 s1
theorem ok_canLookO {f fN fPh fPl : Addr} {fd fdN fdPh fdPl : FuncData} (F : Fun K "can_look" "can_look" sCanLook f fd) (T0 : TPk mg) (aIsName : At K mg "is_name" fN fdN ["thing"]) (aIsPath : At K mg "is_path" fPh fdPh ["thing"]) (aIsPlace : At K mg "is_place" fPl fdPl ["thing"])
    (GIsName : FnOk P w K mg base CX0 1 fN fdN ["thing"] spIsName) (GIsNameO : FnOk P w K mg base CX0 1 fN fdN ["thing"] spIsNameO) (GIsPath : FnOk P w K mg base CX0 2 fPh fdPh ["thing"] spIsPathO) (GIsPlace : FnOk P w K mg base CX0 3 fPl fdPl ["thing"] spIsPlaceO) : FnOk P w K mg base CX0 4 f fd ["word", "where"] spCanLookO := by
  have T := T0.b
  refine F.ok scCanLook (fun vs H Q E h => ?_) (fun cdv A outer s H vs Q E hr h => ?_)
  · obtain ⟨a, b, rfl, _⟩ := h
    rfl
  · obtain ⟨a, b, rfl, hk, q⟩ := h
    have e1 : ∀ a b : Str, decide (V.str a = V.str b) = decide (a = b) := fun a b => decide_eq_decide.mpr ⟨V.str.inj, fun q => by rw [q]⟩
    by_cases hi : ∃ i, b = .int i
    · obtain ⟨i, rfl⟩ := hi
      refine ⟨_, pss_cons (ps_if (pt_not (pt_val (pe_callB call_isi (by rfl) T.isinstance (by decide +kernel) (pa_cons (pv 0) (pa_cons (pe_bltn (v := .ty "str") (by rfl) T.str (by decide +kernel) rfl) pa_nil))))) (pss_one (ps_ret pe_bl)) (pss_nil))
            (pss_cons (ps_if (pt_cmpR op_eq (pv 0) pe_str (nomark _)) (pss_one (ps_ret (pe_call GIsPath (hr.mono (by decide)) rfl aIsPath.m aIsPath.k aIsPath.b .nil pass0 (pa_cons (pv 1) pa_nil)))) (pss_nil))
            (pss_cons (ps_if (pt_cmpR op_eq (pv 0) pe_str (nomark _)) (pss_one (ps_ret (pe_call GIsPlace (hr.mono (by decide)) rfl aIsPlace.m aIsPlace.k aIsPlace.b .nil pass0 (pa_cons (pv 1) pa_nil)))) (pss_nil))
            (pss_one (ps_ret (pe_and (pe_cmpR op_eq (pv 0) pe_str (nomark _)) (pe_one (pe_call GIsNameO (hr.mono (by decide)) rfl aIsName.m aIsName.k aIsName.b .nil pass0 (pa_cons (pv 1) pa_nil)))))))), ?_⟩
      refine ⟨_, rfl, _, _, .type "str", .type "str", true, rfl, .ty "str", .base (.str _), kit_ty (by decide +kernel), _, rfl, iteF ⟨_, rfl, rfl, _, rfl, ?_⟩⟩
      rw [e1]
      cases hk with
      | se5 => exact iteF ⟨_, rfl, rfl, _, rfl, iteF ⟨_, rfl, rfl, _, rfl, iteT ⟨_, rfl, _, rfl, q H (Same.refl H)⟩⟩⟩
      | oth h1 h2 h3 =>
        rw [decide_eq_false h1]
        refine iteF ⟨_, rfl, rfl, _, rfl, ?_⟩
        rw [e1, decide_eq_false h2]
        refine iteF ⟨_, rfl, rfl, _, rfl, ?_⟩
        rw [e1, decide_eq_false h3]
        exact iteF (q H (Same.refl H))
    · refine ⟨_, pss_cons (ps_if (pt_not (pt_val (pe_callB call_isi (by rfl) T.isinstance (by decide +kernel) (pa_cons (pv 0) (pa_cons (pe_bltn (v := .ty "str") (by rfl) T.str (by decide +kernel) rfl) pa_nil))))) (pss_one (ps_ret pe_bl)) (pss_nil))
            (pss_cons (ps_if (pt_cmpR op_eq (pv 0) pe_str (nomark _)) (pss_one (ps_ret (pe_call GIsPath (hr.mono (by decide)) rfl aIsPath.m aIsPath.k aIsPath.b .nil pass0 (pa_cons (pv 1) pa_nil)))) (pss_nil))
            (pss_cons (ps_if (pt_cmpR op_eq (pv 0) pe_str (nomark _)) (pss_one (ps_ret (pe_call GIsPlace (hr.mono (by decide)) rfl aIsPlace.m aIsPlace.k aIsPlace.b .nil pass0 (pa_cons (pv 1) pa_nil)))) (pss_nil))
            (pss_one (ps_ret (pe_and (pe_cmpR op_eq (pv 0) pe_str (nomark _)) (pe_one (pe_call GIsName (hr.mono (by decide)) rfl aIsName.m aIsName.k aIsName.b .nil pass0 (pa_cons (pv 1) pa_nil)))))))), ?_⟩
      refine ⟨_, rfl, _, _, .type "str", .type "str", true, rfl, .ty "str", .base (.str _), kit_ty (by decide +kernel), _, rfl, iteF ⟨_, rfl, rfl, _, rfl, ?_⟩⟩
      rw [e1]
      cases hk with
      | se5 i => exact absurd ⟨i, rfl⟩ hi
      | rd h => exact iteT ⟨_, rfl, _, rfl, .inr ⟨_, rfl, h⟩, q⟩
      | ls0 => exact iteF ⟨_, rfl, rfl, _, rfl, iteT ⟨_, rfl, _, rfl, .inl rfl, q⟩⟩
      | ls h n => exact iteF ⟨_, rfl, rfl, _, rfl, iteT ⟨_, rfl, _, rfl, .inr ⟨_, rfl, h, n⟩, q⟩⟩
      | @se z h s =>
        refine iteF ⟨_, rfl, rfl, _, rfl, iteF ⟨_, rfl, rfl, _, rfl, iteT ⟨_, rfl, z, rfl, s, fun H1 s1 => ?_⟩⟩⟩
        show Q (.bl (decide (IsNm z))) H1
        rw [decide_eq_false h]
        exact q H1 s1
      | oth h1 h2 h3 =>
        rw [decide_eq_false h1]
        refine iteF ⟨_, rfl, rfl, _, rfl, ?_⟩
        rw [e1, decide_eq_false h2]
        refine iteF ⟨_, rfl, rfl, _, rfl, ?_⟩
        rw [e1, decide_eq_false h3]
        exact iteF (q H (Same.refl H))
theorem ok_asLookO {f fR fC : Addr} {fd fdR fdC : FuncData} (F : Fun K "as_look" "as_look" sAsLook f fd) (T : TB mg) (aRow : At K mg "is_row" fR fdR ["thing", "size"]) (aCanLook : At K mg "can_look" fC fdC ["word", "where"])
    (GRow : FnOk P w K mg base CX0 1 fR fdR ["thing", "size"] spRow) (GRowO : FnOk P w K mg base CX0 1 fR fdR ["thing", "size"] spRowO) (GCanLook : FnOk P w K mg base CX0 4 fC fdC ["word", "where"] spCanLookO) : FnOk P w K mg base CX0 5 f fd ["thing"] spAsLookO := by
  refine F.ok scAsLook (fun vs H Q E h => ?_) (fun cdv A outer s H vs Q E hr h => ?_)
  · obtain ⟨v, rfl, _⟩ := h
    rfl
  · obtain ⟨v, rfl, hv, q⟩ := h
    cases hv with
    | no hn =>
      refine ⟨_, pss_cons (ps_if (PW.pt (pw_and (pt_val (pe_call GRowO (hr.mono (by decide)) rfl aRow.m aRow.k aRow.b .nil pass0 (pa_cons (pv 0) (pa_cons pe_int pa_nil)))) (pw_and (pt_val (pe_callB call_isi (by rfl) T.isinstance (by decide +kernel) (pa_cons (pe_ix ix_row (pv 0) pe_int (fun _ _ => rfl)) (pa_cons (pe_bltn (v := .ty "str") (by rfl) T.str (by decide +kernel) rfl) pa_nil)))) (pw_and1 (pt_cmpR op_eq (pe_ix ix_row (pv 0) pe_int (fun _ _ => rfl)) pe_str (nomark _)))))) (pss_one (ps_ret (pe_tup (pa_cons pe_str pa_nil)))) (pss_nil))
            (pss_cons (ps_if (PW.pt (pw_and (pt_val (pe_call GRowO (hr.mono (by decide)) rfl aRow.m aRow.k aRow.b .nil pass0 (pa_cons (pv 0) (pa_cons pe_int pa_nil)))) (pw_and1 (pt_val (pe_call GCanLook (hr.mono (by decide)) rfl aCanLook.m aCanLook.k aCanLook.b .nil pass0 (pa_cons (pe_ix ix_row (pv 0) pe_int (fun _ _ => rfl)) (pa_cons (pe_ix ix_row (pv 0) pe_int (fun _ _ => rfl)) pa_nil))))))) (pss_one (ps_ret (pe_tup (pa_cons (pe_ix ix_row (pv 0) pe_int (fun _ _ => rfl)) (pa_cons (pe_ix ix_row (pv 0) pe_int (fun _ _ => rfl)) pa_nil))))) (pss_nil))
            (pss_one (ps_ret pe_non))), ?_⟩
      exact ⟨_, rfl, v, 1, rfl, hn, fun H1 s1 => ⟨_, rfl, iteF ⟨_, rfl, v, 2, rfl, hn.up s1, fun H2 s2 => ⟨_, rfl, iteF (q H2 (s1.trans s2))⟩⟩⟩⟩
    | @row xs hv o =>
      refine ⟨_, pss_cons (ps_if (PW.pt (pw_and (pt_val (pe_call GRow (hr.mono (by decide)) rfl aRow.m aRow.k aRow.b .nil pass0 (pa_cons (pv 0) (pa_cons pe_int pa_nil)))) (pw_and (pt_val (pe_callB call_isi (by rfl) T.isinstance (by decide +kernel) (pa_cons (pe_ix ix_row (pv 0) pe_int (fun _ _ => rfl)) (pa_cons (pe_bltn (v := .ty "str") (by rfl) T.str (by decide +kernel) rfl) pa_nil)))) (pw_and1 (pt_cmpR op_eq (pe_ix ix_row (pv 0) pe_int (fun _ _ => rfl)) pe_str (nomark _)))))) (pss_one (ps_ret (pe_tup (pa_cons pe_str pa_nil)))) (pss_nil))
            (pss_cons (ps_if (PW.pt (pw_and (pt_val (pe_call GRow (hr.mono (by decide)) rfl aRow.m aRow.k aRow.b .nil pass0 (pa_cons (pv 0) (pa_cons pe_int pa_nil)))) (pw_and1 (pt_val (pe_call GCanLook (hr.mono (by decide)) rfl aCanLook.m aCanLook.k aCanLook.b .nil pass0 (pa_cons (pe_ix ix_row (pv 0) pe_int (fun _ _ => rfl)) (pa_cons (pe_ix ix_row (pv 0) pe_int (fun _ _ => rfl)) pa_nil))))))) (pss_one (ps_ret (pe_tup (pa_cons (pe_ix ix_row (pv 0) pe_int (fun _ _ => rfl)) (pa_cons (pe_ix ix_row (pv 0) pe_int (fun _ _ => rfl)) pa_nil))))) (pss_nil))
            (pss_one (ps_ret pe_non))), ?_⟩
      refine ⟨_, rfl, v, _, 1, rfl, hv, fun H1 s1 => ⟨_, rfl, ?_⟩⟩
      cases o with
      | zero => exact iteN (by decide) ⟨_, rfl, v, _, 2, rfl, hv.up s1, fun H2 s2 => ⟨_, rfl, iteN (by decide) (q H2 (s1.trans s2))⟩⟩
      | @one z h =>
        refine iteY rfl ⟨_, rfl, _, 0, _, hv.up s1, rfl, atI_nat (j := 0) rfl, _, _, .type "str", .type "str", true, rfl, .ty "str", .base (.str _), kit_ty (by decide +kernel), _, rfl, iteT ⟨_, rfl, _, 0, _, hv.up s1, rfl, atI_nat (j := 0) rfl, rfl, _, rfl, ?_⟩⟩
        rw [decide_eq_false (show ¬ V.str z = V.str "tool" from fun q => h (V.str.inj q))]
        exact iteF ⟨_, rfl, v, _, 2, rfl, hv.up s1, fun H2 s2 => ⟨_, rfl, iteN (by show ¬ ((1 : Nat) : Int) = 2; decide) (q H2 (s1.trans s2))⟩⟩
      | @two a b h =>
        refine iteN (by show ¬ ((2 : Nat) : Int) = 1; decide) ⟨_, rfl, v, _, 2, rfl, hv.up s1, fun H2 s2 => ⟨_, rfl, iteY rfl ?_⟩⟩
        have v2 := (hv.up s1).up s2
        exact ⟨_, rfl, _, 0, _, v2, rfl, atI_nat (j := 0) rfl, _, rfl, _, 1, _, v2, rfl, atI_nat (j := 1) rfl, a, b, rfl, h, fun H3 s3 => ⟨_, rfl, iteF (q H3 ((s1.trans s2).trans s3))⟩⟩
      | three a b c => exact iteN (by show ¬ ((3 : Nat) : Int) = 1; decide) ⟨_, rfl, v, _, 2, rfl, hv.up s1, fun H2 s2 => ⟨_, rfl, iteN (by show ¬ ((3 : Nat) : Int) = 2; decide) (q H2 (s1.trans s2))⟩⟩
end
end W

set_option maxHeartbeats 3900000
namespace W
open PySem PySem.Spec PyProof.Rows L2 TL
open C8 (pss_cut tCut pe_gc)
open CB
abbrev sLIni : Stmt := inClass (top 6) 0
/-- the error's class -/
structure BCl (K : PySem.W.Frag) (mg : Str → Option Value) (C f : Addr) : Prop where
  mg : mg "BadLook" = some (.ref C)
  ox : OexC K C
  iC : PySem.W.findIn K (.ref C) "__init__" = some (some (.ref f))
  tI : PySem.W.typeIn K (.ref f) = some (.type "function")
  no : PySem.W.findIn K (.ref C) "look" = some none
  xf : XfC K C
  te : PySem.W.exmOne K (.ref C) (.ref C) = some true
def spIniB (C : Addr) : Sp := fun vs H Q _ => ∃ a x, vs = [.ref a, x] ∧ H a = some (exo a C none) ∧ ∀ dx, H dx = none → dx ≠ a → Q .non (upd (upd H dx (exd dx [(("look" : Str), x)])) a (exo a C (some dx)))
/-- what is wanted of the error -/
def Wants (H : Hp) (C : Addr) (x : V) (E : XK) : Prop := ∀ d H', Same H H' → H d = none → H' d = some (.xd [(("look" : Str), x)]) → E (.ref C) (some d) H'
theorem Wants.up {H H' : Hp} {C : Addr} {x : V} {E : XK} (h : Wants H C x E) (s : Same H H') : Wants H' C x E := fun d H2 s2 hd he => h d H2 (s.trans s2) (s.free hd) he
theorem del_ne {H : Hp} {a b : Addr} (h : b ≠ a) : del H a b = H b := if_neg h
theorem raise_at {H H1 : Hp} {C a dx : Addr} {x : V} {E : XK} (s1 : Same H H1) (ha : H1 a = none) (hdx : upd H1 a (exo a C none) dx = none) (hne : dx ≠ a) (k : Wants H C x E) :
    ∃ (d : Addr) (fs : List (Str × V)), upd (upd (upd H1 a (exo a C none)) dx (exd dx [(("look" : Str), x)])) a (exo a C (some dx)) a = some (exo a C (some d)) ∧ upd (upd (upd H1 a (exo a C none)) dx (exd dx [(("look" : Str), x)])) a (exo a C (some dx)) d = some (exd d fs) ∧ H1 d = none ∧
      E (.ref C) (some d) (upd (del (upd (upd (upd H1 a (exo a C none)) dx (exd dx [(("look" : Str), x)])) a (exo a C (some dx))) a) d (.xd fs)) := by
  have hn : H1 dx = none := by
    rw [upd_ne hne] at hdx
    exact hdx
  refine ⟨dx, [(("look" : Str), x)], upd_same, by rw [upd_ne hne, upd_same], hn, k dx _ (fun b u hb => ?_) (s1.free hn) upd_same⟩
  have hb1 := s1 _ _ hb
  have n1 : b ≠ a := fun e => by rw [e, ha] at hb1; cases hb1
  have n2 : b ≠ dx := fun e => by rw [e, hn] at hb1; cases hb1
  rw [upd_ne n2, del_ne n1, upd_ne n1, upd_ne n2, upd_ne n1]
  exact hb1
/-! o.m(e), where the method may raise and the block holds the error -/
section
variable {X : Cx} {CX : CXT} {k : Nat} {f C : Addr} {fd : FuncData} {ps : List Str} {sp : Sp} {E : L2.St → XK} {m : Str} {pos apos : Pos} {e o : Expr} {es : List Expr} {ta : TE} {t : TA}
def tMethX (C : Addr) (m : Str) (sp : Sp) (E : L2.St → XK) (ta : TE) (t : TA) : TE := fun σ H Q => ta σ H fun x H1 => ∃ a dx fs, x = .ref a ∧ H1 a = some (.ins C dx fs) ∧ fs.lookup m = none ∧
  t σ H1 fun vs H2 => sp (x :: vs) H2 Q (E σ)
theorem pe_methX {pl : Sem Bool} (he : PE X o ta) (c : Cls X.K C) (hm : Meth X.K C m f) (F : FnOk X.prog X.w X.K X.mg X.base CX k f fd ps sp) (hr : Room k X.A) (hb : L2.Binds X.K fd ps []) (hx : ∀ σ, PassesAt CX X σ (E σ)) (ha : PA X (e :: es) t)
    (hst : starEach (e :: es) X.env = (false, eval e X.env) :: starEach es X.env := by rfl) (hpl : (backTo pos (starEach es X.env)).any (·.1) = false := by rfl)
    (ht : eval (.Call (.Attribute o m apos) (e :: es) [] pos) X.env = (do
      let ov ← eval o X.env
      standAt apos.atName
      let (f, first) ← holding [ov] (getMethod ov m pl)
      callWith pos f first (backTo pos (starEach (e :: es) X.env)) (backToKw pos (keywordEach [] X.env))) := by rfl) :
    PE X (.Call (.Attribute o m apos) (e :: es) [] pos) (tMethX C m sp E ta t) := by
  refine ⟨fun pins s σ H Q I h => ?_⟩
  refine PySem.W.methodCall_KW (pl := pl) (thn (he.run pins s σ H _ I h) fun u s1 ⟨x, H1, I1, rx, a, dx, fs, ex, ea, l, q⟩ => ?_) ht
  subst ex
  obtain rfl : u = Value.ref a := rx
  refine getmeth_ok I1 ea c hm l ?_
  refine PySem.W.callWith_K (first := [.ref a]) (h₀ := X.base) I.ok.mod.kin hm.kp (thn (ha.run pos pins s1 σ H1 _ I1 q) fun us s2 ⟨vs, H2, I2, r, q2⟩ => ⟨I2.kIn, ?_⟩) hst hpl
  exact run_fnS (us := .ref a :: us) (vs := .ref a :: vs) F hr hb (hx σ) I2 (.cons rfl r) q2
end
def spWAnsX (CB : Addr) : Sp := fun vs H Q E => ∃ o x, vs = [.ref o, x] ∧ OddL H x ∧ Wants H CB x E
section
variable {P : Program} {w : World} {K : PySem.W.Frag} {mg : Str → Option Value} {base : Heap} {C CB fB : Addr} {fdB : FuncData}
theorem scLIni : FnScope ["self", "look"] ["self", "look"] (defScope sLIni) := ⟨rfl, rfl, rfl, by decide +kernel, rfl, by decide +kernel, by decide +kernel⟩
theorem ok_iniB {f : Addr} {fd : FuncData} (F : Fun K "__init__" "BadLook.__init__" sLIni f fd) (B : BCl K mg CB fB) : FnOk P w K mg base CX0 1 f fd ["self", "look"] (spIniB CB) := by
  refine F.ok scLIni (fun vs H Q E h => ?_) (fun cdv A outer s H vs Q E hr h => ?_)
  · obtain ⟨a, x, rfl, _⟩ := h
    rfl
  · obtain ⟨a, x, rfl, ha, k⟩ := h
    refine ⟨_, pss_one (ps_ost (pv 0) (pv 1) rfl), ?_⟩
    exact ⟨_, rfl, _, rfl, a, CB, rfl, B.ox, B.no, .inl ⟨ha, fun dx hdx hne => k dx hdx hne⟩⟩
theorem ok_wansX {f fA fL : Addr} {fd fdA fdL : FuncData} (F : Fun K "answer" "World.answer" sWAns f fd) (T0 : TPk mg) (R : WCl K mg C) (aAsLook : At K mg "as_look" fA fdA ["thing"]) (GAsLookO : FnOk P w K mg base CX0 5 fA fdA ["thing"] spAsLookO)
    (aListing : At K mg "listing" fL fdL ["paths", "place"]) (GListing : FnOk P w K mg base CX0 3 fL fdL ["paths", "place"] spNin) (B : BCl K mg CB fB) (bB : L2.Binds K fdB ["self", "look"] []) (GB : FnOk P w K mg base CX0 1 fB fdB ["self", "look"] (spIniB CB)) :
    FnOk P w K mg base (CX P w) 6 f fd ["self", "look"] (spWAnsX CB) := by
  refine F.okX scWAns (fun vs H Q E h => ?_) (fun cdv A outer s H vs Q E hr h => ?_)
  · obtain ⟨o, x, rfl, _⟩ := h
    rfl
  · have T := T0.b
    have hu1 := Nat.lt_of_le_of_lt (Nat.add_le_add_left (show 1 ≤ 64 by decide) _) hr.units
    obtain ⟨o, x, rfl, ho, want⟩ := h
    refine ⟨_, pss_cons (ps_set (i := 2) scWAns.nd rfl (Or.inl rfl) (pe_call GAsLookO (hr.mono (by decide)) rfl aAsLook.m aAsLook.k aAsLook.b .nil pass0 (pa_cons (pv 1) pa_nil)))
            (pss_cons (ps_if (pt_cmp (pc_isN (pv 2))) (pss_one (ps_raise rfl (takes_of rfl rfl rfl rfl) (pmk_oex B.ox B.iC B.tI GB (hr.mono (by decide)) bB .nil pass0 rfl B.mg (pa_cons (pv 1) pa_nil)))) (pss_nil))
            (pss_cons (ps_if (pt_cmpR op_eq (pe_ix ix_tup (pv 2) pe_int (fun _ _ => rfl)) pe_str (nomark _)) (pss_one (ps_ret (pe_fld (pv 0) rfl))) (pss_nil))
            (pss_cons (ps_if (pt_cmpR op_eq (pe_ix ix_tup (pv 2) pe_int (fun _ _ => rfl)) pe_str (nomark _)) (pss_one (ps_ret (pe_dget1 hu1 (pe_fld (pv 0) rfl) (pe_ix ix_tup (pv 2) pe_int (fun _ _ => rfl)) ⟨rfl, rfl, rfl, rfl⟩))) (pss_nil))
            (pss_cons (ps_if (pt_cmpR op_eq (pe_ix ix_tup (pv 2) pe_int (fun _ _ => rfl)) pe_str (nomark _)) (pss_one (ps_ret (pe_dget1 hu1 (pe_fld (pv 0) rfl) (pe_ix ix_tup (pv 2) pe_int (fun _ _ => rfl)) ⟨rfl, rfl, rfl, rfl⟩))) (pss_nil))
            (pss_one (ps_ret (pe_call GListing (hr.mono (by decide)) rfl aListing.m aListing.k aListing.b .nil pass0 (pa_cons (pe_fld (pv 0) rfl) (pa_cons (pe_ix ix_tup (pv 2) pe_int (fun _ _ => rfl)) pa_nil))))))))), ?_⟩
    exact ⟨_, rfl, x, rfl, ho, fun H1 s1 => ⟨_, rfl, _, rfl, iteT ⟨_, rfl, by show 1 ≤ 1000; decide, fun b hb => ⟨b, _, rfl, upd_same, fun dx hdx hne => ⟨rfl, raise_at s1 hb hdx hne want⟩⟩⟩⟩⟩
end
end W

set_option maxHeartbeats 3900000
/-! repr of data; defs that are called where no repr is under way. -/
namespace RP
open PySem PySem.Spec PyProof.Rows L2
/-- a key as data -/
def kD : Key → PyData
  | .inl i => .int i
  | .inr x => .str x
mutual
/-- what the value v is, read off the tracked heap -/
inductive Dq (K : PySem.W.Frag) (H : Hp) : V → PyData → Prop
  | non : Dq K H .non .none
  | bl (b : Bool) : Dq K H (.bl b) (.bool b)
  | int (i : Int) : Dq K H (.int i) (.int i)
  | str (x : Str) : Dq K H (.str x) (.str x)
  | lst {a : Addr} {xs : List V} {ds : List PyData} : H a = some (.lst xs) → DqAll K H xs ds → Dq K H (.ref a) (.list ds)
  | tup {a : Addr} {xs : List V} {ds : List PyData} : H a = some (.tup xs) → DqAll K H xs ds → Dq K H (.ref a) (.tuple ds)
  | dct {a : Addr} {kvs : List (Key × V)} {ds : List PyData} : H a = some (.dK kvs) → DqAll K H (kvs.map (·.2)) ds → Dq K H (.ref a) (.dict ((kvs.map fun p => kD p.1).zip ds))
inductive DqAll (K : PySem.W.Frag) (H : Hp) : List V → List PyData → Prop
  | nil : DqAll K H [] []
  | cons {v : V} {vs : List V} {d : PyData} {ds : List PyData} : Dq K H v d → DqAll K H vs ds → DqAll K H (v :: vs) (d :: ds)
end
mutual
theorem Dq.up {K : PySem.W.Frag} {H H' : Hp} (e : ∀ a o, H a = some o → H' a = some o) : ∀ {v : V} {d : PyData}, Dq K H v d → Dq K H' v d
  | _, _, .non => .non
  | _, _, .bl b => .bl b
  | _, _, .int i => .int i
  | _, _, .str x => .str x
  | _, _, .lst h t => .lst (e _ _ h) (DqAll.up e t)
  | _, _, .tup h t => .tup (e _ _ h) (DqAll.up e t)
  | _, _, .dct h t => .dct (e _ _ h) (DqAll.up e t)
theorem DqAll.up {K : PySem.W.Frag} {H H' : Hp} (e : ∀ a o, H a = some o → H' a = some o) : ∀ {vs : List V} {ds : List PyData}, DqAll K H vs ds → DqAll K H' vs ds
  | _, _, .nil => .nil
  | _, _, .cons h t => .cons (Dq.up e h) (DqAll.up e t)
end
theorem DqAll.length {K : PySem.W.Frag} {H : Hp} : ∀ {vs : List V} {ds : List PyData}, DqAll K H vs ds → vs.length = ds.length
  | _, _, .nil => rfl
  | _, _, .cons _ t => congrArg Nat.succ t.length
section
variable {X : Cx} {pins : List (Addr × Obj)} {σ : L2.St} {H : Hp} {s : Shared}
/-- sys.modules is no tracked object -/
theorem not_sys (I : Inv X pins σ H s) (SM : (X.base.get? sysModules).isSome = true) {a : Addr} {o : HO} (h : H a = some o) : a ≠ sysModules := fun z => by
  obtain ⟨u, hu⟩ := Option.isSome_iff_exists.mp SM
  have := (I.bs _ _ hu).2
  rw [← z, h] at this
  cases this
theorem keys_read {P : Program} {w : World} {h : Heap} : ∀ {es : List DictEntry} {kvs : List (Key × V)} {vs : List (Key × Value)}, Pairs (mixKind P w) es vs → KV kvs vs → ReadsAll h (es.map (·.key)) (kvs.map fun p => kD p.1) []
  | _, _, _, .nil, .nil => .nil
  | _, _, _, .cons (e := e) (kv := kv) k1 _ t, .cons r q => by
    have ih := keys_read (h := h) t q
    obtain ⟨e1, _⟩ := r
    rw [List.map_cons, List.map_cons, e1]
    have k1' : keyIs kv.1 e.key = true := k1
    rcases keyIs_shape k1' with ⟨i, t, hk, hv⟩ | ⟨x, t, hk, hv⟩
    · rw [hk, hv]
      exact .cons (.int i t) ih
    · rw [hk, hv]
      exact .cons (.str x t) ih
theorem vals_read {P : Program} {w : World} : ∀ {es : List DictEntry} {kvs : List (Key × V)} {vs : List (Key × Value)}, Pairs (mixKind P w) es vs → KV kvs vs → Vals (kvs.map (·.2)) (es.map (·.val))
  | _, _, _, .nil, .nil => .nil
  | _, _, _, .cons _ k2 t, .cons r q => by
    have ih := vals_read t q
    obtain ⟨_, e2⟩ := r
    rw [List.map_cons, List.map_cons, k2]
    exact .cons e2 ih
mutual
theorem Dq.reads (I : Inv X pins σ H s) (SM : (X.base.get? sysModules).isSome = true) : ∀ {v : V} {d : PyData} {u : Value}, Dq X.K H v d → RelV v u → ∃ as, Reads s.heap u d as ∧ sysModules ∉ as
  | _, _, _, .non, r => by
    cases r
    exact ⟨_, Reads.none, by simp⟩
  | _, _, _, .bl b, r => by
    cases r
    exact ⟨_, Reads.bool b, by simp⟩
  | _, _, _, .int i, r => by
    obtain ⟨t, rfl⟩ := r
    exact ⟨_, Reads.int i t, by simp⟩
  | _, _, _, .str x, r => by
    obtain ⟨t, rfl⟩ := r
    exact ⟨_, Reads.str x t, by simp⟩
  | _, _, _, .lst (a := a) h ha, r => by
    cases r
    obtain ⟨_, its, n, rv, ho⟩ := (show ObjOk X.prog X.w H s.heap a (.lst _) from I.hok a _ h)
    obtain ⟨as, hr, hn⟩ := DqAll.reads I SM ha rv
    exact ⟨_, Reads.list ho rfl rfl hr, by
      intro z
      rcases List.mem_cons.mp z with z | z
      · exact not_sys I SM h z.symm
      · exact hn z⟩
  | _, _, _, .tup (a := a) h ha, r => by
    cases r
    obtain ⟨_, its, rv, o, ho, hc, n, hd⟩ := (show ObjOk X.prog X.w H s.heap a (.tup _) from I.hok a _ h)
    obtain ⟨as, hr, hn⟩ := DqAll.reads I SM ha rv
    exact ⟨_, Reads.tuple ho hc hd hr, hn⟩
  | _, _, _, .dct (a := a) (kvs := kvs) (ds := ds) h ha, r => by
    cases r
    obtain ⟨_, _, vs, rel, o, es, ep, ho, ex, hd, _, pr, _⟩ := (show ObjOk X.prog X.w H s.heap a (.dK kvs) from I.hok a _ h)
    obtain ⟨bs, hr, hn⟩ := DqAll.reads I SM ha (vals_read pr rel)
    have le : (kvs.map fun p => kD p.1).length = ds.length := by
      have := ha.length
      rw [List.length_map] at this ⊢
      exact this
    refine ⟨_, Reads.dict ho ex.1 hd (as := []) (bs := bs) ?_ ?_, ?_⟩
    · rw [List.map_fst_zip (by omega)]
      exact keys_read pr rel
    · rw [List.map_snd_zip (by omega)]
      exact hr
    · intro z
      rcases List.mem_cons.mp z with z | z
      · exact not_sys I SM h z.symm
      · exact hn z
theorem DqAll.reads (I : Inv X pins σ H s) (SM : (X.base.get? sysModules).isSome = true) : ∀ {vs : List V} {ds : List PyData} {us : List Value}, DqAll X.K H vs ds → Vals vs us → ∃ as, ReadsAll s.heap us ds as ∧ sysModules ∉ as
  | _, _, _, .nil, r => by
    cases r
    exact ⟨_, ReadsAll.nil, by simp⟩
  | _, _, _, .cons h t, r => by
    cases r with
    | cons r1 r2 =>
      obtain ⟨as, q1, n1⟩ := Dq.reads I SM h r1
      obtain ⟨bs, q2, n2⟩ := DqAll.reads I SM t r2
      exact ⟨_, ReadsAll.cons q1 q2, by
        intro z
        rcases List.mem_append.mp z with z | z
        · exact n1 z
        · exact n2 z⟩
end
/-- repr(x) -/
def rRep (K : PySem.W.Frag) : List V → Hp → VK → Prop := fun xs H Q => ∃ (v : V) (d : PyData), xs = [v] ∧ Dq K H v d ∧ d.showable = true ∧ d.depth ≤ 20 ∧ d.shown.length ≤ sizeLine ∧ Q (.str d.shown) H
theorem call_repr (SM : (X.base.get? sysModules).isSome = true) (hg : X.A.guards = some []) (hu : X.A.units + 64 < cLine) : CallR X (.builtin "repr") (rRep X.K) := by
  intro pins s σ H xs us Q I r h
  obtain ⟨v, d, rfl, hd, sh, dp, sz, q⟩ := h
  cases r with
  | cons rx rr =>
    cases rr
    obtain ⟨as, hr, hn⟩ := hd.reads I SM rx
    have fin : ∀ h' u tk, (∀ b o, s.heap.get? b = some o → h'.get? b = some o) → EP X pins σ Q (.str d.shown u) { s with heap := h', toks := tk } := fun h' u tk k => ⟨.str d.shown, H, I.kept (t' := tk) k, ⟨u, rfl⟩, q⟩
    cases hd with
    | non =>
      cases rx
      exact PySem.P.repr_of_none (fin s.heap _ _ fun _ _ e => e)
    | bl b =>
      cases rx
      exact PySem.P.repr_of_bool (fin s.heap _ _ fun _ _ e => e)
    | int i =>
      obtain ⟨t, rfl⟩ := rx
      exact PySem.P.repr_of_int (of_decide_eq_true sh) (fin s.heap _ _ fun _ _ e => e)
    | str x =>
      obtain ⟨t, rfl⟩ := rx
      exact PySem.P.repr_of_str (fin s.heap _ _ fun _ _ e => e) sz
    | lst h1 h2 =>
      cases rx
      exact PySem.repr_of_reads' hr sh (fun _ => hn) hg (by omega) (fun _ _ e => e) fin sz
    | tup h1 h2 =>
      cases rx
      exact PySem.repr_of_reads' hr sh (fun _ => hn) hg (by omega) (fun _ _ e => e) fin sz
    | dct h1 h2 =>
      cases rx
      exact PySem.repr_of_reads' hr sh (fun _ => hn) hg (by omega) (fun _ _ e => e) fin sz
end
/-! ### defs that are called where no repr is under way -/
structure FnG (P : Program) (w : World) (K : PySem.W.Frag) (mg : Str → Option Value) (base : Heap) (CX : CXT) (k : Nat) (f : Addr) (fd : FuncData) (ps : List Str) (sp : Sp) : Prop where
  len : ∀ vs H Q E, sp vs H Q E → vs.length = ps.length
  run : ∀ (A : Around) (outer : List Env) (s : Shared) (H : Hp) (args : Args) (us : List Value) (vs : List V) (Q : VK) (E : XK), A.guards = some [] → Room k A → Env0 P w K mg base A outer s H → BindsTo s fd args (ps.zip us) → Vals vs us → sp vs H Q E →
    codeAny (model P w) A (.call (.ref f) args) (CR CX outer P w H s Q E) s
theorem FnG.of {P : Program} {w : World} {K : PySem.W.Frag} {mg : Str → Option Value} {base : Heap} {CX : CXT} {k : Nat} {f : Addr} {fd : FuncData} {ps : List Str} {sp : Sp} (F : FnOk P w K mg base CX k f fd ps sp) : FnG P w K mg base CX k f fd ps sp :=
  ⟨F.len, fun A outer s H args us vs Q E _ hr e0 hb rv q => F.run A outer s H args us vs Q E hr e0 hb rv q⟩
theorem okG {P : Program} {w : World} {K : PySem.W.Frag} {mg : Str → Option Value} {base : Heap} {x qual : Str} {st : Stmt} {f : Addr} {fd : FuncData} {N ps : List Str} {k : Nat} {sp : Sp} (F : Fun K x qual st f fd) (S : FnScope N ps (defScope st))
    (len : ∀ vs H Q E, sp vs H Q E → vs.length = ps.length)
    (body : ∀ (cdv : Value) (A : Around) (outer : List Env) (s : Shared) (H : Hp) (vs : List V) (Q : VK) (E : XK), A.guards = some [] → Room k (A.deeper (envOfC qual (defScope st) s.heap.objs.size f cdv)) → sp vs H Q E →
      ∃ t, PSs (cxOf CX0 P w K mg base N qual (defScope st) f cdv A outer s H E).nox (defBody st) t ∧ t { nx := fun _ H' => Q .non H', rt := Q } (start N vs) H) : FnG P w K mg base CX0 (k + 1) f fd ps sp := by
  obtain ⟨oc, od, kV, doc, pm, an, cdv, ct, osl, rfl, lk, hcd⟩ := F.ex
  refine ⟨len, fun A outer s H args us vs Q E hg hr e0 hb rv q => ?_⟩
  refine LamX.run_ofS lk hcd S hr e0 hb rv (len _ _ _ _ q) fun hr' => ?_
  obtain ⟨t, h1, h2⟩ := body cdv A outer s H vs Q E hg hr' q
  exact ⟨t, h1.nox, h2⟩
section
variable {X : Cx} {CX : CXT} {k : Nat} {f : Addr} {fd : FuncData} {ps : List Str} {sp : Sp} {E : XK} {x : Str} {p pos : Pos} {e : Expr} {es : List Expr} {t : TA}
theorem pe_callG (F : FnG X.prog X.w X.K X.mg X.base CX k f fd ps sp) (hG : X.A.guards = some []) (hr : Room k X.A) (hg : Gl X x) (hm : X.mg x = some (.ref f)) (hk : PySem.W.keepIn X.K (.ref f) = true) (hb : Binds X.K fd ps []) (hx : Passes CX X E)
    (ha : PA X (e :: es) t) (hdb : (x == ("__debug__" : Str)) = false := by decide) (he : starEach (e :: es) X.env = (false, eval e X.env) :: starEach es X.env := by rfl) (hpl : (backTo pos (starEach es X.env)).any (·.1) = false := by rfl) :
    PE X (.Call (.Name x p) (e :: es) [] pos) (tCall sp [] E t) := by
  refine ⟨fun pins s σ H Q I h => ?_⟩
  refine wpAny_Call_Name_kw (ld_glob I hg hm ?_ hdb)
  refine PySem.W.callWith_K (h₀ := X.base) I.ok.mod.kin hk (thn (ha.run pos pins s σ H _ I h) fun us s1 ⟨vs, H1, I1, r, q⟩ => ⟨I1.kIn, ?_⟩) he hpl
  have q : sp vs H1 Q E := by
    have z : sp (vs ++ []) H1 Q E := q
    rw [List.append_nil] at z
    exact z
  have hl : us.length = ps.length := r.length.symm.trans (F.len _ _ _ _ q)
  have hbt := hb s1 us I1.kIn (by rw [List.append_nil]; exact hl)
  rw [List.append_nil] at hbt
  refine wpAny_call (codeAny_mono (F.run X.A X.stack s1 H1 ⟨us, []⟩ us vs Q E hG hr I1.env0 hbt r q) fun r s' hq => ?_)
  cases r with
  | error e => exact hx pins σ H1 s1 e s' I1 hq
  | ok fl =>
    cases fl with
    | ret u => exact I1.after hq
    | next => exact False.elim hq
    | brk => exact False.elim hq
    | cont => exact False.elim hq
end
end RP

set_option maxHeartbeats 3900000
namespace W
open PySem PySem.Spec PyProof.Rows L2 TL RP
open C8 (pss_cut tCut pe_gc)
open CB
structure Fine (d : PyData) (dep n : Nat) : Prop where
  sh : d.showable = true
  dp : d.depth ≤ dep
  sz : d.shown.length ≤ n
theorem piled_le : ∀ (ts : List Str) (n : Nat), (∀ t ∈ ts, t.length ≤ n) → piled ts ≤ ts.length * (n + 2)
  | [], n, _ => by
    rw [piled_nil]
    omega
  | t :: r, n, h => by
    have ih := piled_le r n fun u hu => h u (List.mem_cons_of_mem _ hu)
    have h1 := h t List.mem_cons_self
    rw [piled_cons, List.length_cons, Nat.succ_mul]
    omega
theorem listText_le (ts : List Str) (n : Nat) (h : ∀ t ∈ ts, t.length ≤ n) : (listText ts).length ≤ 2 + ts.length * (n + 2) := by
  have pl := piled_le ts n h
  cases ts with
  | nil =>
    show 2 ≤ 2 + 0 * (n + 2)
    omega
  | cons t r =>
    have e : (listText (t :: r)).length = (textFrom 1 (("[" : Str) ++ (if 0 > 0 then ", " else "" : String) ++ t) r).length + 1 := by
      show ((textFrom 0 "[" (t :: r)) ++ ("]" : String)).length = _
      rw [strLen_append]
      rfl
    rw [e, textFrom_length_pos r 1 _ (by decide), strLen_append, strLen_append]
    rw [piled_cons] at pl
    have e1 : (("[" : String) : Str).length = 1 := rfl
    have e2 : (((if 0 > 0 then ", " else "" : String)) : Str).length = 0 := rfl
    rw [e1, e2]
    omega
theorem tupText_le (a b : Str) (n : Nat) (ha : a.length ≤ n) (hb : b.length ≤ n) : (tupleText [a, b]).length ≤ 2 * n + 6 := by
  unfold tupleText
  rw [strLen_append, strLen_append]
  have h := join_length_add [a, b] (by simp)
  rw [piled_cons, piled_cons, piled_nil] at h
  have e1 : ((("(" : String) : Str)).length = 1 := rfl
  have e3 : (((if [a, b].length == 1 then ",)" else ")" : String) : Str)).length = 1 := rfl
  rw [e1, e3]
  omega
theorem shown_mem : ∀ {ds : List PyData} {t : Str}, t ∈ PyData.shownAll ds → ∃ d ∈ ds, t = d.shown
  | [], t, h => by simp [PyData.shownAll] at h
  | d :: r, t, h => by
    simp only [PyData.shownAll] at h
    rcases List.mem_cons.mp h with rfl | h
    · exact ⟨d, List.mem_cons_self, rfl⟩
    · obtain ⟨e, he, q⟩ := shown_mem h
      exact ⟨e, List.mem_cons_of_mem _ he, q⟩
theorem shownAll_len : ∀ ds : List PyData, (PyData.shownAll ds).length = ds.length
  | [] => by simp [PyData.shownAll]
  | d :: r => by simp [PyData.shownAll, shownAll_len r]
theorem showAll : ∀ ds : List PyData, (∀ d ∈ ds, d.showable = true) → PyData.showableAll ds = true
  | [], _ => by simp [PyData.showableAll]
  | d :: r, h => by simp [PyData.showableAll, h d List.mem_cons_self, showAll r fun u hu => h u (List.mem_cons_of_mem _ hu)]
theorem depAll (n : Nat) : ∀ ds : List PyData, (∀ d ∈ ds, d.depth ≤ n) → PyData.depthAll ds ≤ n
  | [], _ => by simp [PyData.depthAll]
  | d :: r, h => by
    have h1 := h d List.mem_cons_self
    have h2 := depAll n r fun u hu => h u (List.mem_cons_of_mem _ hu)
    simp only [PyData.depthAll]
    omega
theorem Fine.lst {ds : List PyData} {dep n m : Nat} (h : ∀ d ∈ ds, Fine d dep n) (hm : 2 + ds.length * (n + 2) ≤ m) : Fine (.list ds) (dep + 1) m := by
  refine ⟨?_, ?_, ?_⟩
  · simp only [PyData.showable]
    exact showAll ds fun d hd => (h d hd).sh
  · simp only [PyData.depth]
    exact Nat.succ_le_succ (depAll dep ds fun d hd => (h d hd).dp)
  · simp only [PyData.shown]
    have q := listText_le (PyData.shownAll ds) n fun t ht => by
      obtain ⟨d, hd, rfl⟩ := shown_mem ht
      exact (h d hd).sz
    rw [shownAll_len] at q
    exact Nat.le_trans q hm
theorem Fine.pair {a b : PyData} {dep n : Nat} (ha : Fine a dep n) (hb : Fine b dep n) : Fine (.tuple [a, b]) (dep + 1) (2 * n + 6) := by
  refine ⟨?_, ?_, ?_⟩
  · simp only [PyData.showable]
    exact showAll [a, b] fun d hd => by
      rcases List.mem_cons.mp hd with rfl | hd
      · exact ha.sh
      · rw [List.mem_singleton.mp hd]; exact hb.sh
  · simp only [PyData.depth]
    exact Nat.succ_le_succ (depAll dep [a, b] fun d hd => by
      rcases List.mem_cons.mp hd with rfl | hd
      · exact ha.dp
      · rw [List.mem_singleton.mp hd]; exact hb.dp)
  · simp only [PyData.shown, PyData.shownAll]
    exact tupText_le _ _ n ha.sz hb.sz
theorem fine_bool (b : Bool) : Fine (.bool b) 0 10 := ⟨by simp [PyData.showable], by simp [PyData.depth], by cases b <;> (simp only [PyData.shown]; decide)⟩
def strL (l : List Str) : PyData := .list (l.map .str)
theorem dq_strs {K : PySem.W.Frag} {H : Hp} : ∀ l : List Str, DqAll K H (l.map V.str) (l.map PyData.str)
  | [] => .nil
  | z :: r => .cons (.str z) (dq_strs r)
theorem dq_strL {K : PySem.W.Frag} {H : Hp} {a : Addr} {l : List Str} (h : H a = some (.lst (l.map V.str))) : Dq K H (.ref a) (strL l) := .lst h (dq_strs l)
theorem Fine.up {d : PyData} {a n b m : Nat} (h : Fine d a n) (h1 : a ≤ b) (h2 : n ≤ m) : Fine d b m := ⟨h.sh, Nat.le_trans h.dp h1, Nat.le_trans h.sz h2⟩
theorem tupTextN_le (ts : List Str) (n : Nat) (h : ∀ t ∈ ts, t.length ≤ n) : (tupleText ts).length ≤ 3 + ts.length * (n + 2) := by
  have pl := piled_le ts n h
  unfold tupleText
  rw [strLen_append, strLen_append]
  have e1 : ((("(" : String) : Str)).length = 1 := rfl
  have e3 : (((if ts.length == 1 then ",)" else ")" : String) : Str)).length ≤ 2 := by
    by_cases q : (ts.length == 1) = true
    · rw [if_pos q]
      exact Nat.le_refl _
    · rw [if_neg q]
      exact Nat.le_succ _
  by_cases e : ts = []
  · subst e
    have e4 : ((Str.ofString ", ").join ([] : List Str)).length = 0 := by decide +kernel
    rw [e1, e4]
    omega
  · have j := join_length_add ts e
    rw [e1]
    omega
theorem Fine.tup {ds : List PyData} {dep n m : Nat} (h : ∀ d ∈ ds, Fine d dep n) (hm : 3 + ds.length * (n + 2) ≤ m) : Fine (.tuple ds) (dep + 1) m := by
  refine ⟨?_, ?_, ?_⟩
  · simp only [PyData.showable]
    exact showAll ds fun d hd => (h d hd).sh
  · simp only [PyData.depth]
    exact Nat.succ_le_succ (depAll dep ds fun d hd => (h d hd).dp)
  · simp only [PyData.shown]
    have q := tupTextN_le (PyData.shownAll ds) n fun t ht => by
      obtain ⟨d, hd, rfl⟩ := shown_mem ht
      exact (h d hd).sz
    rw [shownAll_len] at q
    exact Nat.le_trans q hm
theorem fine_str {z : Str} {n : Nat} (hc : ∀ c ∈ tl z, c < 16 ^ 8) (hn : z.length ≤ n) : Fine (.str z) 0 (10 * n + 2) := by
  refine ⟨by simp [PyData.showable], by simp [PyData.depth], ?_⟩
  have q := PySem.StrLaws.reprText_len z hc
  simp only [PyData.shown]
  omega
theorem fine_non : Fine .none 0 10 := ⟨by simp [PyData.showable], by simp [PyData.depth], by simp only [PyData.shown]; decide⟩
end W

set_option maxHeartbeats 3900000
namespace W
open PySem PySem.Spec PyProof.Rows L2 TL RP
open C8 (pss_cut tCut pe_gc)
open CB
abbrev sOdd : Stmt := top 44
/-! texts that are no paths -/
theorem tl_upper {z : Str} (h : IsNm z) : tl (Txt.upper z) = (tl z).map up1 := by
  rw [upper_ascii (x := z) (fun c hc => by have := h.2.2 c hc; omega)]
  show (z.cps.map up1).toList = _
  rw [Array.toList_map]
theorem up_at {z : Str} (h : IsNm z) : ∀ c ∈ tl (Txt.upper z), 65 ≤ c ∧ c ≤ 90 := by
  rw [tl_upper h]
  intro c hc
  obtain ⟨e, he, rfl⟩ := List.mem_map.mp hc
  have := h.2.2 e he
  show 65 ≤ (if 97 ≤ e ∧ e ≤ 122 then e - 32 else e) ∧ (if 97 ≤ e ∧ e ≤ 122 then e - 32 else e) ≤ 90
  rw [if_pos this]
  omega
theorem up_len {z : Str} (h : IsNm z) : (Txt.upper z).length = z.length := by
  rw [len_tl, tl_upper h, List.length_map, ← len_tl]
theorem up_no {z : Str} (h : IsNm z) : ¬ IsNm (Txt.upper z) := fun q => by
  have l := up_len h
  have l1 := h.1
  rw [← l, len_tl] at l1
  match e : tl (Txt.upper z) with
  | [] =>
    rw [e] at l1
    exact absurd l1 (by decide)
  | c :: r =>
    have a := up_at h c (by rw [e]; exact List.mem_cons_self)
    have b := q.2.2 c (by rw [e]; exact List.mem_cons_self)
    omega
theorem pathNo_one {u : Str} (hf : 47 ∉ tl u) (sh : Sh u) (nn : ¬ IsNm u) : PathNo u := by
  refine ⟨[u], ?_, sh, fun y hy => by rw [List.mem_singleton.mp hy]; exact sh, Nat.lt_of_lt_of_le (show 1 < 2 by decide) (by decide), by simp [nn]⟩
  have e := split_join (y := "/") (parts := [u]) (s := 47) (S := []) tl_sl (by decide +kernel) (by simp) (fun y hy => by rw [List.mem_singleton.mp hy]; exact hf)
  have e2 : Txt.join "/" [u] = u := js_one u
  rw [e2] at e
  exact e
theorem pathNo_up {z : Str} (h : IsNm z) : PathNo (Txt.upper z) := pathNo_one (fun q => by have := up_at h 47 q; omega) (by have := up_len h; have := h.2.1; unfold Sh; omega) (up_no h)
theorem js_sl (z : Str) : js [z, ""] = z ++ "/" := by
  refine ext_tl ?_
  rw [tl_js, tl_append, tl_sl]
  show tl z ++ ([47] ++ tl ("" : Str)) = _
  rfl
theorem pathNo_sl {z : Str} (h : IsNm z) : PathNo (z ++ "/") := by
  have lz : (z ++ ("/" : Str)).length = z.length + 1 := by
    rw [len_tl, tl_append, List.length_append, ← len_tl, tl_sl]
    rfl
  refine ⟨[z, ""], ?_, by have := h.2.1; unfold Sh; omega, fun y hy => ?_, Nat.lt_of_lt_of_le (show 2 < 3 by decide) (by decide), by simp; exact fun _ => by decide +kernel⟩
  · have e := split_join (y := "/") (parts := [z, ""]) (s := 47) (S := []) tl_sl (by decide +kernel) (by simp) (fun y hy => by
      rcases List.mem_cons.mp hy with rfl | hy
      · exact nm_free h
      · rw [List.mem_singleton.mp hy]; decide +kernel)
    have e2 : Txt.join "/" [z, ""] = z ++ "/" := js_sl z
    rw [e2] at e
    exact e
  · rcases List.mem_cons.mp hy with rfl | hy
    · exact nm_sh h
    · rw [List.mem_singleton.mp hy]; exact Nat.zero_le _
theorem ne_sl (z : Str) : z ++ ("/" : Str) ≠ "" := fun e => by
  have h := congrArg tl e
  rw [tl_append, tl_sl] at h
  have h2 : (tl z ++ [47]).length = 0 := by rw [h]; rfl
  rw [List.length_append] at h2
  exact absurd h2 (by simp)
theorem pathNo_a : PathNo "a/" := ⟨["a", ""], by decide +kernel, by unfold Sh; decide +kernel, by intro y hy; unfold Sh; simp at hy; rcases hy with rfl | rfl <;> decide +kernel, by decide, by decide +kernel⟩
theorem pathNo_root : PathNo "/" := ⟨["", ""], by decide +kernel, by unfold Sh; decide +kernel, by intro y hy; unfold Sh; simp at hy; subst hy; decide +kernel, by decide, by decide +kernel⟩
theorem pathNo_nil : PathNo "" := ⟨[""], by decide +kernel, by unfold Sh; decide +kernel, by intro y hy; unfold Sh; simp at hy; subst hy; decide +kernel, by decide, by decide +kernel⟩
/-! a thing that is no look, with what is shown of it; it stays where it is -/
def OddT (K : PySem.W.Frag) (st l : Addr) (H : Hp) (x : V) : Prop := ∃ d, Fine d 2 300 ∧ ((∀ H', OddL H' x ∧ Dq K H' x d) ∨ ∃ a o, x = .ref a ∧ a ≠ st ∧ a ≠ l ∧ H a = some o ∧ ∀ H', H' a = some o → OddL H' x ∧ Dq K H' x d)
theorem OddT.got {K : PySem.W.Frag} {st l : Addr} {H : Hp} {x : V} (h : OddT K st l H x) : ∃ d, Fine d 2 300 ∧ OddL H x ∧ Dq K H x d := by
  obtain ⟨d, f, h | ⟨a, o, rfl, n1, n2, ha, h⟩⟩ := h
  · exact ⟨d, f, h H⟩
  · exact ⟨d, f, h H ha⟩
theorem OddT.but {K : PySem.W.Frag} {st l : Addr} {H H' : Hp} {x : V} (h : OddT K st l H x) (B : But st l H H') : OddT K st l H' x := by
  obtain ⟨d, f, h | ⟨a, o, rfl, n1, n2, ha, h⟩⟩ := h
  · exact ⟨d, f, .inl h⟩
  · exact ⟨d, f, .inr ⟨a, o, rfl, n1, n2, B _ _ ha n1 n2, h⟩⟩
theorem OddT.put {K : PySem.W.Frag} {st l L : Addr} {H : Hp} {x : V} {o : HO} (h : OddT K st l H x) (n : x ≠ .ref L) : OddT K st l (upd H L o) x := by
  obtain ⟨d, f, h | ⟨a, u, rfl, n1, n2, ha, h⟩⟩ := h
  · exact ⟨d, f, .inl h⟩
  · exact ⟨d, f, .inr ⟨a, u, rfl, n1, n2, by rw [upd_ne fun e => n (by rw [e])]; exact ha, h⟩⟩
theorem OddT.new {K : PySem.W.Frag} {st l L : Addr} {H : Hp} {x : V} (h : OddT K st l H x) (n : H L = none) : x ≠ .ref L := by
  obtain ⟨d, f, h | ⟨a, u, rfl, n1, n2, ha, h⟩⟩ := h
  · rintro rfl
    have q := (h (fun _ => none)).1
    cases q with
    | no h =>
      cases h with
      | dct h => cases h
    | row h o =>
      obtain ⟨a, e, h | h⟩ := h <;> cases h
  · intro e
    cases e
    rw [n] at ha
    cases ha
theorem mk_odd {K : PySem.W.Frag} {st l : Addr} {H : Hp} {c : Nat} {t : Addr} {xs : List V} {ds : List PyData} (S : Strm H st l c) (ht : H t = none) (o : OddR xs) (d : ∀ H, DqAll K H xs ds) (f : Fine (.tuple ds) 2 300) :
    Strm (upd H t (.tup xs)) st l c ∧ Same H (upd H t (.tup xs)) ∧ OddT K st l (upd H t (.tup xs)) (.ref t) :=
  ⟨S.up (same_mk ht), same_mk ht, .tuple ds, f, .inr ⟨t, .tup xs, rfl, (S.ne_new ht).1, (S.ne_new ht).2, upd_same, fun H' h => ⟨.row ⟨t, rfl, .inl h⟩ o, .tup h (d H')⟩⟩⟩
theorem mk_oddL {K : PySem.W.Frag} {st l : Addr} {H : Hp} {c : Nat} {t : Addr} {xs : List V} {ds : List PyData} (S : Strm H st l c) (ht : H t = none) (o : OddR xs) (d : ∀ H, DqAll K H xs ds) (f : Fine (.list ds) 2 300) :
    Strm (upd H t (.lst xs)) st l c ∧ Same H (upd H t (.lst xs)) ∧ OddT K st l (upd H t (.lst xs)) (.ref t) :=
  ⟨S.up (same_mk ht), same_mk ht, .list ds, f, .inr ⟨t, .lst xs, rfl, (S.ne_new ht).1, (S.ne_new ht).2, upd_same, fun H' h => ⟨.row ⟨t, rfl, .inr h⟩ o, .lst h (d H')⟩⟩⟩
theorem mk_oddD {K : PySem.W.Frag} {st l : Addr} {H : Hp} {c : Nat} {t : Addr} (S : Strm H st l c) (ht : H t = none) :
    Strm (upd H t (.dK [])) st l c ∧ Same H (upd H t (.dK [])) ∧ OddT K st l (upd H t (.dK [])) (.ref t) :=
  ⟨S.up (same_mk ht), same_mk ht, .dict [], ⟨by decide +kernel, by decide +kernel, by decide +kernel⟩, .inr ⟨t, .dK [], rfl, (S.ne_new ht).1, (S.ne_new ht).2, upd_same, fun H' h => ⟨.no (.dct h), .dct h .nil⟩⟩⟩
abbrev AllO (K : PySem.W.Frag) (st l : Addr) (H : Hp) (xs : List V) : Prop := ∀ x ∈ xs, OddT K st l H x
theorem AllO.same {K : PySem.W.Frag} {st l : Addr} {H H' : Hp} {xs : List V} (h : AllO K st l H xs) (s : Same H H') : AllO K st l H' xs := fun x hx => (h x hx).but (But.same s)
theorem AllO.snoc {K : PySem.W.Frag} {st l : Addr} {H H' : Hp} {xs : List V} {x : V} (h : AllO K st l H xs) (s : Same H H') (o : OddT K st l H' x) : AllO K st l H' (xs ++ [x]) := fun y hy => by
  rcases List.mem_append.mp hy with q | q
  · exact (h y q).but (But.same s)
  · rw [List.mem_singleton.mp q]
    exact o
theorem AllO.ext {K : PySem.W.Frag} {st l L : Addr} {H : Hp} {xs ys zs : List V} (h : AllO K st l H xs) (g : AllO K st l H ys) (n : ∀ x ∈ xs, x ≠ .ref L) (m : ∀ x ∈ ys, x ≠ .ref L) : AllO K st l (upd H L (.lst zs)) (xs ++ ys) := fun y hy => by
  rcases List.mem_append.mp hy with q | q
  · exact (h y q).put (n y q)
  · exact (g y q).put (m y q)
def spOdd (K : PySem.W.Frag) : Sp := fun vs H Q _ => ∃ (st l p : Addr) (c : Nat) (zs : List Str), vs = [.ref st, .ref p] ∧ Strm H st l c ∧ c ≤ 800000 ∧ Pool H st l p zs ∧ 0 < zs.length ∧ zs.length < 1000 ∧ (∀ z ∈ zs, IsNm z) ∧
  ∀ (x : V) (H' : Hp), OddT K st l H' x → But st l H H' → Strm H' st l (c + 1) → Q x H'
section
variable {P : Program} {w : World} {K : PySem.W.Frag} {mg : Str → Option Value} {base : Heap} {fP : Addr} {fdP : FuncData}
theorem scOdd : FnScope ["_law_stream", "_law_pool_here", "_law_odd"] ["_law_stream", "_law_pool_here"] (defScope sOdd) := ⟨rfl, rfl, rfl, by decide +kernel, rfl, by decide +kernel, by decide +kernel⟩
theorem ok_odd {f : Addr} {fd : FuncData} (F : Fun K "_law_odd_look" "_law_odd_look" sOdd f fd) (aP : At K mg "_law_pick" fP fdP ["_law_stream", "_law_things"]) (GP : FnOk P w K mg base CX0 2 fP fdP ["_law_stream", "_law_things"] spPick) : FnOk P w K mg base CX0 3 f fd ["_law_stream", "_law_pool_here"] (spOdd K) := by
  refine F.ok scOdd (fun vs H Q E h => ?_) (fun cdv A outer s H vs Q E hr h => ?_)
  · obtain ⟨st, l, p, c, zs, rfl, _⟩ := h
    rfl
  · obtain ⟨st, l, p, c, zs, rfl, S, hc, L, z0, z1, nm, k⟩ := h
    refine ⟨_, pss_cons (ps_set (i := 2) scOdd.nd rfl (Or.inl rfl) (pe_lst (pa_cons pe_non (pa_cons pe_int (pa_cons pe_str (pa_cons pe_str (pa_cons (pe_tup pa_nil) (pa_cons (pe_tup (pa_cons pe_str (pa_cons pe_str pa_nil))) (pa_cons (pe_tup (pa_cons pe_str pa_nil)) (pa_cons (pe_tup (pa_cons pe_str (pa_cons pe_str pa_nil))) (pa_cons (pe_tup (pa_cons pe_str pa_nil)) (pa_cons (pe_tup (pa_cons pe_str (pa_cons pe_non pa_nil))) (pa_cons pe_dnewK pa_nil)))))))))))))
            (pss_cons (ps_expr (pe_bm PySem.F.plainAttrs_list PySem.F.slot_list_extend PySem.F.type_list_extend mt_extend (pv 2) (pa_cons (pe_lst (pa_cons (pe_tup (pa_cons pe_str (pa_cons pe_str pa_nil))) (pa_cons (pe_tup (pa_cons pe_str (pa_cons pe_str pa_nil))) (pa_cons (pe_tup (pa_cons pe_str (pa_cons pe_str pa_nil))) (pa_cons (pe_tup (pa_cons pe_str (pa_cons pe_str pa_nil))) (pa_cons (pe_tup (pa_cons pe_str (pa_cons pe_str (pa_cons pe_str pa_nil)))) (pa_cons (pe_lst (pa_cons pe_str (pa_cons pe_str pa_nil))) pa_nil))))))) pa_nil)))
            (pss_cons (ps_expr (pe_bm PySem.F.plainAttrs_list PySem.F.slot_list_append PySem.F.type_list_append mt_append (pv 2) (pa_cons (pe_tup (pa_cons pe_str (pa_cons pe_str pa_nil))) pa_nil)))
            (pss_cons (ps_expr (pe_bm PySem.F.plainAttrs_list PySem.F.slot_list_extend PySem.F.type_list_extend mt_extend (pv 2) (pa_cons (pe_lst (pa_cons (pe_tup (pa_cons pe_str (pa_cons (pe_bm0 PySem.F.plainAttrs_str PySem.F.slot_str_upper PySem.F.type_str_upper mt_upper (pe_ix ix_list (pv 1) pe_int (fun _ _ => rfl))) pa_nil))) (pa_cons (pe_tup (pa_cons pe_str (pa_cons pe_int pa_nil))) (pa_cons (pe_tup (pa_cons pe_str pa_nil)) (pa_cons (pe_tup (pa_cons pe_str (pa_cons (pe_ix ix_list (pv 1) pe_int (fun _ _ => rfl)) pa_nil))) (pa_cons (pe_tup (pa_cons pe_str (pa_cons (pe_op op_add_str (pe_ix ix_list (pv 1) pe_int (fun _ _ => rfl)) pe_str) pa_nil))) pa_nil)))))) pa_nil)))
            (pss_one (ps_ret (pe_call GP (hr.mono (by decide)) rfl aP.m aP.k aP.b .nil pass0 (pa_cons (pv 0) (pa_cons (pv 2) pa_nil)))))))), ?_⟩
    obtain ⟨z, zr, rfl⟩ : ∃ z zr, zs = z :: zr := by
      cases zs with
      | nil => exact absurd z0 (by decide)
      | cons z zr => exact ⟨z, zr, rfl⟩
    have hz := nm z List.mem_cons_self
    have q100 : ∀ z : Str, z ∈ (["read", "list", "Read", "setting", "tools"] : List Str) → Fine (.str z) 0 102 := by
      intro z hz
      simp only [List.mem_cons, List.not_mem_nil, or_false] at hz
      rcases hz with rfl | rfl | rfl | rfl | rfl <;> exact ⟨by decide +kernel, by decide +kernel, by decide +kernel⟩
    have fz : Fine (.str z) 0 102 := fine_str (n := 10) (fun c hc => by have := hz.2.2 c hc; omega) (by have := hz.2.1; omega)
    have fu : Fine (.str (Txt.upper z)) 0 102 := fine_str (n := 10) (fun c hc => by have := up_at hz c hc; omega) (by have := up_len hz; have := hz.2.1; omega)
    have lsl : (z ++ ("/" : Str)).length = z.length + 1 := by
      rw [len_tl, tl_append, List.length_append, ← len_tl, tl_sl]
      rfl
    have fs : Fine (.str (z ++ "/")) 0 102 := fine_str (n := 10) (fun c hc => by
      rw [tl_append, tl_sl] at hc
      rcases List.mem_append.mp hc with q | q
      · have := hz.2.2 c q; omega
      · rw [List.mem_singleton.mp q]; decide) (by have := hz.2.1; omega)
    refine ⟨by show 0 ≤ sizeLine; decide, fun t1 ht1 => ?_⟩
    obtain ⟨S1, s1, o1⟩ := mk_odd (K := K) (xs := []) (ds := []) S ht1 .zero (fun _ => .nil) ⟨by decide +kernel, by decide +kernel, by decide +kernel⟩
    generalize eH1 : upd H t1 (.tup []) = H1 at S1 s1 o1 ⊢
    refine ⟨by show 2 ≤ sizeLine; decide, fun t2 ht2 => ?_⟩
    obtain ⟨S2, s2, o2⟩ := mk_odd (K := K) (xs := [.str "tool", .str ""]) (ds := [.str "tool", .str ""]) S1 ht2 (.two (.oth (by decide +kernel) (by decide +kernel) (by decide +kernel))) (fun _ => .cons (.str _) (.cons (.str _) .nil)) ⟨by decide +kernel, by decide +kernel, by decide +kernel⟩
    generalize eH2 : upd H1 t2 (.tup [.str "tool", .str ""]) = H2 at S2 s2 o2 ⊢
    refine ⟨by show 1 ≤ sizeLine; decide, fun t3 ht3 => ?_⟩
    obtain ⟨S3, s3, o3⟩ := mk_odd (K := K) (xs := [.str "read"]) (ds := [.str "read"]) S2 ht3 (.one (by decide +kernel)) (fun _ => .cons (.str _) .nil) ⟨by decide +kernel, by decide +kernel, by decide +kernel⟩
    generalize eH3 : upd H2 t3 (.tup [.str "read"]) = H3 at S3 s3 o3 ⊢
    refine ⟨by show 2 ≤ sizeLine; decide, fun t4 ht4 => ?_⟩
    obtain ⟨S4, s4, o4⟩ := mk_odd (K := K) (xs := [.str "read", .str ""]) (ds := [.str "read", .str ""]) S3 ht4 (.two (.rd pathNo_nil)) (fun _ => .cons (.str _) (.cons (.str _) .nil)) ⟨by decide +kernel, by decide +kernel, by decide +kernel⟩
    generalize eH4 : upd H3 t4 (.tup [.str "read", .str ""]) = H4 at S4 s4 o4 ⊢
    refine ⟨by show 1 ≤ sizeLine; decide, fun t5 ht5 => ?_⟩
    obtain ⟨S5, s5, o5⟩ := mk_odd (K := K) (xs := [.str "list"]) (ds := [.str "list"]) S4 ht5 (.one (by decide +kernel)) (fun _ => .cons (.str _) .nil) ⟨by decide +kernel, by decide +kernel, by decide +kernel⟩
    generalize eH5 : upd H4 t5 (.tup [.str "list"]) = H5 at S5 s5 o5 ⊢
    refine ⟨by show 2 ≤ sizeLine; decide, fun t6 ht6 => ?_⟩
    obtain ⟨S6, s6, o6⟩ := mk_odd (K := K) (xs := [.str "list", .non]) (ds := [.str "list", .none]) S5 ht6 (.two .ls0) (fun _ => .cons (.str _) (.cons .non .nil)) ⟨by decide +kernel, by decide +kernel, by decide +kernel⟩
    generalize eH6 : upd H5 t6 (.tup [.str "list", .non]) = H6 at S6 s6 o6 ⊢
    refine fun t7 ht7 => ?_
    obtain ⟨S7, s7, o7⟩ := mk_oddD (K := K) S6 ht7
    generalize eH7 : upd H6 t7 (.dK []) = H7 at S7 s7 o7 ⊢
    clear eH7 eH6 eH5 eH4 eH3 eH2 eH1
    have A1 : AllO K st l H7 [.non, .int 5, .str "read", .str "tool", .ref t1, .ref t2, .ref t3, .ref t4, .ref t5, .ref t6, .ref t7] := by
      have c0 : ∀ x : V, (∀ H', NoRow H' x) → ∀ d, Fine d 2 300 → (∀ H', Dq K H' x d) → OddT K st l H7 x := fun x h d f g => ⟨d, f, .inl fun H' => ⟨.no (h H'), g H'⟩⟩
      simp only [AllO, List.forall_mem_cons, List.not_mem_nil, false_imp_iff, implies_true, and_true]
      exact ⟨c0 _ (fun _ => .non) .none ⟨by decide +kernel, by decide +kernel, by decide +kernel⟩ (fun _ => .non), c0 _ (fun _ => .int 5) (.int 5) ⟨by decide +kernel, by decide +kernel, by decide +kernel⟩ (fun _ => .int 5), c0 _ (fun _ => .str _) (.str "read") ⟨by decide +kernel, by decide +kernel, by decide +kernel⟩ (fun _ => .str _), c0 _ (fun _ => .str _) (.str "tool") ⟨by decide +kernel, by decide +kernel, by decide +kernel⟩ (fun _ => .str _), o1.but (But.same (s2.trans (s3.trans (s4.trans (s5.trans (s6.trans s7)))))), o2.but (But.same (s3.trans (s4.trans (s5.trans (s6.trans s7))))), o3.but (But.same (s4.trans (s5.trans (s6.trans s7)))), o4.but (But.same (s5.trans (s6.trans s7))), o5.but (But.same (s6.trans s7)), o6.but (But.same (s7)), o7⟩
    have B07 : Same H H7 := s1.trans (s2.trans (s3.trans (s4.trans (s5.trans (s6.trans s7)))))
    refine ⟨by show 11 ≤ sizeLine; decide, fun q hq => ?_⟩
    have nq := S7.ne_new hq
    have hq0 := B07.free hq
    have m1 : ∀ x ∈ ([.non, .int 5, .str "read", .str "tool", .ref t1, .ref t2, .ref t3, .ref t4, .ref t5, .ref t6, .ref t7] : List V), x ≠ .ref q := fun x hx => (A1 x hx).new hq
    have sq := same_mk (o := .lst [.non, .int 5, .str "read", .str "tool", .ref t1, .ref t2, .ref t3, .ref t4, .ref t5, .ref t6, .ref t7]) hq
    have A1 := A1.same sq
    have B07 := B07.trans sq
    have S7 := S7.up sq
    have hq := upd_same (H := H7) (a := q) (o := .lst [.non, .int 5, .str "read", .str "tool", .ref t1, .ref t2, .ref t3, .ref t4, .ref t5, .ref t6, .ref t7])
    generalize upd H7 q (.lst [.non, .int 5, .str "read", .str "tool", .ref t1, .ref t2, .ref t3, .ref t4, .ref t5, .ref t6, .ref t7]) = G1 at A1 B07 S7 hq ⊢
    obtain ⟨x1, l1, A1, m1, hq⟩ : ∃ x1 : List V, x1.length = 11 ∧ AllO K st l G1 x1 ∧ (∀ x ∈ x1, x ≠ .ref q) ∧ G1 q = some (.lst x1) := ⟨_, by rfl, A1, m1, hq⟩
    have BH : But st l H G1 := But.same B07
    refine ⟨_, rfl, ?_⟩
    refine ⟨.inl ⟨rfl, _, SqL.of hq⟩, by show 2 ≤ sizeLine; decide, fun t8 ht8 => ?_⟩
    obtain ⟨S8, s8, o8⟩ := mk_odd (K := K) (xs := [.str "read", .str "a/"]) (ds := [.str "read", .str "a/"]) S7 ht8 (.two (.rd pathNo_a)) (fun _ => .cons (.str _) (.cons (.str _) .nil)) ⟨by decide +kernel, by decide +kernel, by decide +kernel⟩
    generalize eH8 : upd G1 t8 (.tup [.str "read", .str "a/"]) = H8 at S8 s8 o8 ⊢
    refine ⟨by show 2 ≤ sizeLine; decide, fun t9 ht9 => ?_⟩
    obtain ⟨S9, s9, o9⟩ := mk_odd (K := K) (xs := [.str "list", .str "/"]) (ds := [.str "list", .str "/"]) S8 ht9 (.two (.ls pathNo_root (by decide +kernel))) (fun _ => .cons (.str _) (.cons (.str _) .nil)) ⟨by decide +kernel, by decide +kernel, by decide +kernel⟩
    generalize eH9 : upd H8 t9 (.tup [.str "list", .str "/"]) = H9 at S9 s9 o9 ⊢
    refine ⟨by show 2 ≤ sizeLine; decide, fun t10 ht10 => ?_⟩
    obtain ⟨S10, s10, o10⟩ := mk_odd (K := K) (xs := [.str "setting", .str "a/b"]) (ds := [.str "setting", .str "a/b"]) S9 ht10 (.two (.se (by decide +kernel) (by unfold Sh; decide +kernel))) (fun _ => .cons (.str _) (.cons (.str _) .nil)) ⟨by decide +kernel, by decide +kernel, by decide +kernel⟩
    generalize eH10 : upd H9 t10 (.tup [.str "setting", .str "a/b"]) = H10 at S10 s10 o10 ⊢
    refine ⟨by show 2 ≤ sizeLine; decide, fun t11 ht11 => ?_⟩
    obtain ⟨S11, s11, o11⟩ := mk_odd (K := K) (xs := [.str "look", .str "a"]) (ds := [.str "look", .str "a"]) S10 ht11 (.two (.oth (by decide +kernel) (by decide +kernel) (by decide +kernel))) (fun _ => .cons (.str _) (.cons (.str _) .nil)) ⟨by decide +kernel, by decide +kernel, by decide +kernel⟩
    generalize eH11 : upd H10 t11 (.tup [.str "look", .str "a"]) = H11 at S11 s11 o11 ⊢
    refine ⟨by show 3 ≤ sizeLine; decide, fun t12 ht12 => ?_⟩
    obtain ⟨S12, s12, o12⟩ := mk_odd (K := K) (xs := [.str "read", .str "a", .str "b"]) (ds := [.str "read", .str "a", .str "b"]) S11 ht12 (.three _ _ _) (fun _ => .cons (.str _) (.cons (.str _) (.cons (.str _) .nil))) ⟨by decide +kernel, by decide +kernel, by decide +kernel⟩
    generalize eH12 : upd H11 t12 (.tup [.str "read", .str "a", .str "b"]) = H12 at S12 s12 o12 ⊢
    refine ⟨by show 2 ≤ sizeLine; decide, fun t13 ht13 => ?_⟩
    obtain ⟨S13, s13, o13⟩ := mk_oddL (K := K) (xs := [.str "tool", .str "a"]) (ds := [.str "tool", .str "a"]) S12 ht13 (.two (.oth (by decide +kernel) (by decide +kernel) (by decide +kernel))) (fun _ => .cons (.str _) (.cons (.str _) .nil)) ⟨by decide +kernel, by decide +kernel, by decide +kernel⟩
    generalize eH13 : upd H12 t13 (.lst [.str "tool", .str "a"]) = H13 at S13 s13 o13 ⊢
    clear eH13 eH12 eH11 eH10 eH9 eH8
    have A2 : AllO K st l H13 [.ref t8, .ref t9, .ref t10, .ref t11, .ref t12, .ref t13] := by
      simp only [AllO, List.forall_mem_cons, List.not_mem_nil, false_imp_iff, implies_true, and_true]
      exact ⟨o8.but (But.same (s9.trans (s10.trans (s11.trans (s12.trans s13))))), o9.but (But.same (s10.trans (s11.trans (s12.trans s13)))), o10.but (But.same (s11.trans (s12.trans s13))), o11.but (But.same (s12.trans s13)), o12.but (But.same (s13)), o13⟩
    have B2 : Same G1 H13 := s8.trans (s9.trans (s10.trans (s11.trans (s12.trans s13))))
    have nm2 : ∀ x ∈ ([.ref t8, .ref t9, .ref t10, .ref t11, .ref t12, .ref t13] : List V), x ≠ .ref q := by
      intro x hx e
      subst e
      simp only [List.mem_cons, List.not_mem_nil, or_false, V.ref.injEq] at hx
      rcases hx with rfl | rfl | rfl | rfl | rfl | rfl
      · rw [hq] at ht8; cases ht8
      · rw [(s8 _ _ hq)] at ht9; cases ht9
      · rw [((s8.trans (s9)) _ _ hq)] at ht10; cases ht10
      · rw [((s8.trans (s9.trans s10)) _ _ hq)] at ht11; cases ht11
      · rw [((s8.trans (s9.trans (s10.trans s11))) _ _ hq)] at ht12; cases ht12
      · rw [((s8.trans (s9.trans (s10.trans (s11.trans s12)))) _ _ hq)] at ht13; cases ht13
    refine ⟨by show 6 ≤ sizeLine; decide, fun r hr2 => ?_⟩
    have sr := same_mk (o := .lst [.ref t8, .ref t9, .ref t10, .ref t11, .ref t12, .ref t13]) hr2
    have hqr := (B2.trans sr) _ _ hq
    have A2 := A2.same sr
    have A1 := A1.same (B2.trans sr)
    have SS := S13.up sr
    have hrr := upd_same (H := H13) (a := r) (o := .lst [.ref t8, .ref t9, .ref t10, .ref t11, .ref t12, .ref t13])
    have B2 := B2.trans sr
    generalize upd H13 r (.lst [.ref t8, .ref t9, .ref t10, .ref t11, .ref t12, .ref t13]) = G2 at A1 A2 SS hqr hrr B2 ⊢
    clear sr
    refine ⟨q, r, x1, [.ref t8, .ref t9, .ref t10, .ref t11, .ref t12, .ref t13], rfl, rfl, hqr, hrr, by rw [l1]; show 11 + 6 ≤ sizeLine; decide, ?_⟩
    obtain ⟨x2, l1, A1, m1, hq, BH, SS⟩ : ∃ y : List V, y.length = 17 ∧ AllO K st l (upd G2 q (.lst (x1 ++ [.ref t8, .ref t9, .ref t10, .ref t11, .ref t12, .ref t13]))) y ∧ (∀ x ∈ y, x ≠ .ref q) ∧ upd G2 q (.lst (x1 ++ [.ref t8, .ref t9, .ref t10, .ref t11, .ref t12, .ref t13])) q = some (.lst y) ∧ But st l H (upd G2 q (.lst (x1 ++ [.ref t8, .ref t9, .ref t10, .ref t11, .ref t12, .ref t13]))) ∧ Strm (upd G2 q (.lst (x1 ++ [.ref t8, .ref t9, .ref t10, .ref t11, .ref t12, .ref t13]))) st l c :=
      ⟨_, by rw [List.length_append, l1]; rfl, A1.ext A2 m1 nm2, fun x hx => (List.mem_append.mp hx).elim (m1 x) (nm2 x), upd_same, But.put (BH.trans (But.same B2)) hq0, SS.put nq⟩
    generalize upd G2 q (.lst (x1 ++ [.ref t8, .ref t9, .ref t10, .ref t11, .ref t12, .ref t13])) = G3 at A1 hq BH SS ⊢
    refine ⟨_, rfl, ?_⟩
    refine ⟨.inl ⟨rfl, _, SqL.of hq⟩, by show 2 ≤ sizeLine; decide, fun t14 ht14 => ?_⟩
    obtain ⟨S14, s14, o14⟩ := mk_odd (K := K) (xs := [.str "setting", .str ""]) (ds := [.str "setting", .str ""]) SS ht14 (.two (.se (by decide +kernel) (by unfold Sh; decide +kernel))) (fun _ => .cons (.str _) (.cons (.str _) .nil)) ⟨by decide +kernel, by decide +kernel, by decide +kernel⟩
    generalize eH14 : upd G3 t14 (.tup [.str "setting", .str ""]) = H14 at S14 s14 o14 ⊢
    clear eH14
    have A2 : AllO K st l H14 [.ref t14] := by
      simp only [AllO, List.forall_mem_cons, List.not_mem_nil, false_imp_iff, implies_true, and_true]
      exact o14
    have B2 : Same G3 H14 := s14
    have nm2 : ∀ x ∈ ([.ref t14] : List V), x ≠ .ref q := by
      intro x hx e
      subst e
      simp only [List.mem_cons, List.not_mem_nil, or_false, V.ref.injEq] at hx
      subst hx
      rw [hq] at ht14; cases ht14
    have hqr := B2 _ _ hq
    have A1 := A1.same B2
    have SS := S14
    refine ⟨q, x2, _, rfl, rfl, hqr, by rw [l1]; decide, ?_⟩
    obtain ⟨x3, l1, A1, m1, hq, BH, SS⟩ : ∃ y : List V, y.length = 18 ∧ AllO K st l (upd H14 q (.lst (x2 ++ [.ref t14]))) y ∧ (∀ x ∈ y, x ≠ .ref q) ∧ upd H14 q (.lst (x2 ++ [.ref t14])) q = some (.lst y) ∧ But st l H (upd H14 q (.lst (x2 ++ [.ref t14]))) ∧ Strm (upd H14 q (.lst (x2 ++ [.ref t14]))) st l c :=
      ⟨_, by rw [List.length_append, l1]; rfl, A1.ext A2 m1 nm2, fun x hx => (List.mem_append.mp hx).elim (m1 x) (nm2 x), upd_same, But.put (BH.trans (But.same B2)) hq0, SS.put nq⟩
    generalize upd H14 q (.lst (x2 ++ [.ref t14])) = G5 at A1 hq BH SS ⊢
    have L5 := L.but BH
    have hp0 := L5.h
    have IX : ∀ {G6 : Hp}, Same G5 G6 → SqL K G6 p ((z :: zr).map V.str) := fun s => SqL.of (s _ _ hp0)
    refine ⟨_, rfl, .inl ⟨rfl, _, SqL.of hq⟩, ?_⟩
    refine ⟨_, rfl, p, _, ((0 : Nat) : Int), _, rfl, rfl, IX (Same.refl _), atI_nat rfl, rfl, z, rfl, rfl, Nat.le_trans (show z.length ≤ 8 from hz.2.1) (by decide), by show 2 ≤ sizeLine; decide, fun t15 ht15 => ?_⟩
    obtain ⟨S15, s15, o15⟩ := mk_odd (K := K) (xs := [.str "read", .str (Txt.upper z)]) (ds := [.str "read", .str (Txt.upper z)]) SS ht15 (.two (.rd (pathNo_up hz))) (fun _ => .cons (.str _) (.cons (.str _) .nil)) ((Fine.pair (dep := 0) (n := 102) (q100 _ (by decide +kernel)) fu).up (by decide) (by decide))
    generalize eH15 : upd G5 t15 (.tup [.str "read", .str (Txt.upper z)]) = H15 at S15 s15 o15 ⊢
    refine ⟨by show 2 ≤ sizeLine; decide, fun t16 ht16 => ?_⟩
    obtain ⟨S16, s16, o16⟩ := mk_odd (K := K) (xs := [.str "setting", .int 5]) (ds := [.str "setting", .int 5]) S15 ht16 (.two (.se5 5)) (fun _ => .cons (.str _) (.cons (.int 5) .nil)) ⟨by decide +kernel, by decide +kernel, by decide +kernel⟩
    generalize eH16 : upd H15 t16 (.tup [.str "setting", .int 5]) = H16 at S16 s16 o16 ⊢
    refine ⟨by show 1 ≤ sizeLine; decide, fun t17 ht17 => ?_⟩
    obtain ⟨S17, s17, o17⟩ := mk_odd (K := K) (xs := [.str "tools"]) (ds := [.str "tools"]) S16 ht17 (.one (by decide +kernel)) (fun _ => .cons (.str _) .nil) ⟨by decide +kernel, by decide +kernel, by decide +kernel⟩
    generalize eH17 : upd H16 t17 (.tup [.str "tools"]) = H17 at S17 s17 o17 ⊢
    refine ⟨_, rfl, p, _, ((0 : Nat) : Int), _, rfl, rfl, IX (s15.trans (s16.trans s17)), atI_nat rfl, by show 2 ≤ sizeLine; decide, fun t18 ht18 => ?_⟩
    obtain ⟨S18, s18, o18⟩ := mk_odd (K := K) (xs := [.str "Read", .str z]) (ds := [.str "Read", .str z]) S17 ht18 (.two (.oth (by decide +kernel) (by decide +kernel) (by decide +kernel))) (fun _ => .cons (.str _) (.cons (.str _) .nil)) ((Fine.pair (dep := 0) (n := 102) (q100 _ (by decide +kernel)) fz).up (by decide) (by decide))
    generalize eH18 : upd H17 t18 (.tup [.str "Read", .str z]) = H18 at S18 s18 o18 ⊢
    refine ⟨_, rfl, p, _, ((0 : Nat) : Int), _, rfl, rfl, IX (s15.trans (s16.trans (s17.trans s18))), atI_nat rfl, _, _, rfl, rfl, by rw [show z.length + ("/" : Str).length = z.length + 1 from rfl]; exact Nat.le_trans (show z.length + 1 ≤ 9 by have := hz.2.1; omega) (by decide), by show 2 ≤ sizeLine; decide, fun t19 ht19 => ?_⟩
    obtain ⟨S19, s19, o19⟩ := mk_odd (K := K) (xs := [.str "list", .str (z ++ "/")]) (ds := [.str "list", .str (z ++ "/")]) S18 ht19 (.two (.ls (pathNo_sl hz) (ne_sl z))) (fun _ => .cons (.str _) (.cons (.str _) .nil)) ((Fine.pair (dep := 0) (n := 102) (q100 _ (by decide +kernel)) fs).up (by decide) (by decide))
    generalize eH19 : upd H18 t19 (.tup [.str "list", .str (z ++ "/")]) = H19 at S19 s19 o19 ⊢
    clear eH19 eH18 eH17 eH16 eH15
    have A2 : AllO K st l H19 [.ref t15, .ref t16, .ref t17, .ref t18, .ref t19] := by
      simp only [AllO, List.forall_mem_cons, List.not_mem_nil, false_imp_iff, implies_true, and_true]
      exact ⟨o15.but (But.same (s16.trans (s17.trans (s18.trans s19)))), o16.but (But.same (s17.trans (s18.trans s19))), o17.but (But.same (s18.trans s19)), o18.but (But.same (s19)), o19⟩
    have B2 : Same G5 H19 := s15.trans (s16.trans (s17.trans (s18.trans s19)))
    have nm2 : ∀ x ∈ ([.ref t15, .ref t16, .ref t17, .ref t18, .ref t19] : List V), x ≠ .ref q := by
      intro x hx e
      subst e
      simp only [List.mem_cons, List.not_mem_nil, or_false, V.ref.injEq] at hx
      rcases hx with rfl | rfl | rfl | rfl | rfl
      · rw [hq] at ht15; cases ht15
      · rw [(s15 _ _ hq)] at ht16; cases ht16
      · rw [((s15.trans (s16)) _ _ hq)] at ht17; cases ht17
      · rw [((s15.trans (s16.trans s17)) _ _ hq)] at ht18; cases ht18
      · rw [((s15.trans (s16.trans (s17.trans s18))) _ _ hq)] at ht19; cases ht19
    refine ⟨by show 5 ≤ sizeLine; decide, fun r hr2 => ?_⟩
    have sr := same_mk (o := .lst [.ref t15, .ref t16, .ref t17, .ref t18, .ref t19]) hr2
    have hqr := (B2.trans sr) _ _ hq
    have A2 := A2.same sr
    have A1 := A1.same (B2.trans sr)
    have SS := S19.up sr
    have hrr := upd_same (H := H19) (a := r) (o := .lst [.ref t15, .ref t16, .ref t17, .ref t18, .ref t19])
    have B2 := B2.trans sr
    generalize upd H19 r (.lst [.ref t15, .ref t16, .ref t17, .ref t18, .ref t19]) = G2 at A1 A2 SS hqr hrr B2 ⊢
    clear sr
    refine ⟨q, r, x3, [.ref t15, .ref t16, .ref t17, .ref t18, .ref t19], rfl, rfl, hqr, hrr, by rw [l1]; show 18 + 5 ≤ sizeLine; decide, ?_⟩
    obtain ⟨x4, l1, A1, m1, hq, BH, SS⟩ : ∃ y : List V, y.length = 23 ∧ AllO K st l (upd G2 q (.lst (x3 ++ [.ref t15, .ref t16, .ref t17, .ref t18, .ref t19]))) y ∧ (∀ x ∈ y, x ≠ .ref q) ∧ upd G2 q (.lst (x3 ++ [.ref t15, .ref t16, .ref t17, .ref t18, .ref t19])) q = some (.lst y) ∧ But st l H (upd G2 q (.lst (x3 ++ [.ref t15, .ref t16, .ref t17, .ref t18, .ref t19]))) ∧ Strm (upd G2 q (.lst (x3 ++ [.ref t15, .ref t16, .ref t17, .ref t18, .ref t19]))) st l c :=
      ⟨_, by rw [List.length_append, l1]; rfl, A1.ext A2 m1 nm2, fun x hx => (List.mem_append.mp hx).elim (m1 x) (nm2 x), upd_same, But.put (BH.trans (But.same B2)) hq0, SS.put nq⟩
    generalize upd G2 q (.lst (x3 ++ [.ref t15, .ref t16, .ref t17, .ref t18, .ref t19])) = G7 at A1 hq BH SS ⊢
    refine ⟨_, rfl, _, rfl, .inl ⟨st, l, c, q, x4, rfl, SS, by omega, hq, nq.1, nq.2, by rw [l1]; decide, by rw [l1]; decide, fun i x H' hx B S' => ?_⟩⟩
    exact k x H' ((A1 x (List.mem_of_getElem? hx)).but B) (BH.trans B) S'
end
end W

set_option maxHeartbeats 3900000
namespace W
open PySem PySem.Spec PyProof.Rows L2 TL RP
open C8 (pss_cut tCut pe_gc)
open CB
abbrev sSame : Stmt := top 31
abbrev sEnd : Stmt := top 45
def spSame (K : PySem.W.Frag) : Sp := fun vs H Q _ => ∃ (v u : V) (d : PyData), vs = [v, u] ∧ Dq K H v d ∧ Dq K H u d ∧ Fine d 20 100000 ∧ Q (.bl true) H
def spEnd (C : Addr) : Sp := fun vs H Q _ => ∃ o x fs ss z, vs = [.ref o, x] ∧ WoAt C H o fs ss z ∧ OddL H x ∧ ∀ p H', Same H H' → H' p = some (.tup [.str "look", x]) → Q (.ref p) H'
section
variable {P : Program} {w : World} {K : PySem.W.Frag} {mg : Str → Option Value} {base : Heap} {C CB fB fAn : Addr} {fdAn : FuncData}
theorem scSame : FnScope ["_law_found", "_law_due"] ["_law_found", "_law_due"] (defScope sSame) := ⟨rfl, rfl, rfl, by decide +kernel, rfl, by decide +kernel, by decide +kernel⟩
theorem ok_same {f : Addr} {fd : FuncData} (F : Fun K "_law_same" "_law_same" sSame f fd) (mRepr : mg "repr" = none) (SM : (base.get? sysModules).isSome = true) : FnG P w K mg base CX0 1 f fd ["_law_found", "_law_due"] (spSame K) := by
  refine okG F scSame (fun vs H Q E h => ?_) (fun cdv A outer s H vs Q E hg hr h => ?_)
  · obtain ⟨v, u, d, rfl, _⟩ := h
    rfl
  · obtain ⟨v, u, d, rfl, h1, h2, fi, k⟩ := h
    have hu := hr.units
    have sz' : d.shown.length ≤ sizeLine := Nat.le_trans fi.sz (by decide)
    refine ⟨_, pss_one (ps_ret (pe_cmpR op_eq (pe_callB (call_repr SM hg hu) (by rfl) mRepr (by decide +kernel) (pa_cons (pv 0) pa_nil)) (pe_callB (call_repr SM hg hu) (by rfl) mRepr (by decide +kernel) (pa_cons (pv 1) pa_nil)) (nomark _))), ?_⟩
    refine ⟨_, rfl, v, d, rfl, h1, fi.sh, fi.dp, sz', _, rfl, u, d, rfl, h2, fi.sh, fi.dp, sz', rfl, ?_⟩
    show Q (.bl (decide (V.str d.shown = V.str d.shown))) H
    rw [decide_eq_true rfl]
    exact k
theorem scEnd : FnScope ["_law_world_here", "_law_thing", "_law_found", "e"] ["_law_world_here", "_law_thing"] (defScope sEnd) := ⟨rfl, rfl, rfl, by decide +kernel, rfl, by decide +kernel, by decide +kernel⟩
theorem lk_an (u v t : V) : List.lookup ("answer" : Str) [(("contents" : Str), u), ("chosen", v), ("tool", t)] = none := by
  have h1 : (("answer" : Str) == ("contents" : Str)) = false := by decide +kernel
  have h2 : (("answer" : Str) == ("chosen" : Str)) = false := by decide +kernel
  have h3 : (("answer" : Str) == ("tool" : Str)) = false := by decide +kernel
  simp only [List.lookup, h1, h2, h3]
theorem ok_end {f : Addr} {fd : FuncData} (F : Fun K "_law_end" "_law_end" sEnd f fd) (T : TB mg) (R : WCl K mg C) (mAn : Meth K C "answer" fAn) (B : BCl K mg CB fB) (bAn : L2.Binds K fdAn ["self", "look"] []) (GAnX : FnOk P w K mg base (CX P w) 6 fAn fdAn ["self", "look"] (spWAnsX CB)) :
    FnOk P w K mg base CX0 7 f fd ["_law_world_here", "_law_thing"] (spEnd C) := by
  refine F.ok scEnd (fun vs H Q E h => ?_) (fun cdv A outer s H vs Q E hr h => ?_)
  · obtain ⟨o, x, fs, ss, z, rfl, _⟩ := h
    rfl
  · obtain ⟨o, x, fs, ss, z, rfl, ⟨dx, d, e, ho, hd, he⟩, odd, k⟩ := h
    have hr6 : Room 6 _ := hr.mono (by decide)
    refine ⟨_, pss_cons (ps_set (i := 2) scEnd.nd rfl (Or.inl rfl) pe_non)
      (pss_cons (ps_try_as (i := 3) (tb := fun W => tAsg (tTup (tCons (tC (.str "told")) (tCons (tMethX C "answer" (spWAnsX CB) (WE W) (tVar 0) (tCons (tVar 1) tNil)) tNil))) (gName 2)) (ts := fun a cls d => tAsg (tTup (tCons (tC (.str "look")) (tCons (tXf a cls d CB "look" (tVar 3)) tNil))) (gName 2)) (Wout := fun _ _ _ _ => False) rfl rfl scEnd.nd rfl rfl ⟨rfl, by decide, Or.inl B.mg⟩ takes0
        (fun W pn xe tk _ => pss_one (ps_set (i := 2) scEnd.nd rfl (Or.inl rfl) (by exact (pe_tup (pa_cons pe_str (pa_cons (pe_methX (pv 0) R.cl mAn GAnX hr6 bAn (fun σ => passAt tk σ) (pa_cons (pv 1) pa_nil)) pa_nil))))))
        (fun a oe cls d pn hz hf => pss_one (ps_set (i := 2) scEnd.nd rfl (Or.inl rfl) (by exact (pe_tup (pa_cons pe_str (pa_cons (pe_xf B.xf B.no hz hf (pv 3)) pa_nil)))))))
      (pss_one (ps_ret (pv 2)))), ?_⟩
    refine ⟨_, rfl, o, dx, _, rfl, ho, lk_an _ _ _, _, rfl, o, x, rfl, odd, fun d H1 s1 hd hxd => ?_⟩
    refine ⟨true, B.te, fun _ a ha => ?_, fun q => Bool.noConfusion q⟩
    refine ⟨_, rfl, rfl, rfl, d, _, x, rfl, hxd, by simp [List.lookup], by show 2 ≤ sizeLine; decide, fun p hp => ?_⟩
    have sp := same_mk (o := .tup [.str "look", x]) hp
    exact ⟨_, rfl, k p _ (s1.trans sp) upd_same⟩
end
end W

set_option maxHeartbeats 3900000
namespace W
open PySem PySem.Spec PyProof.Rows L2 TL RP
open C8 (pss_cut tCut pe_gc)
open CB
theorem lt_tri : ∀ a b : List Nat, a < b ∨ a = b ∨ b < a
  | [], [] => .inr (.inl rfl)
  | [], y :: b => .inl (List.nil_lt_cons y b)
  | x :: a, [] => .inr (.inr (List.nil_lt_cons x a))
  | x :: a, y :: b => by
    rcases Nat.lt_trichotomy x y with h | h | h
    · exact .inl (List.cons_lt_cons_iff.mpr (.inl h))
    · subst h
      rcases lt_tri a b with g | g | g
      · exact .inl (List.cons_lt_cons_iff.mpr (.inr ⟨rfl, g⟩))
      · exact .inr (.inl (by rw [g]))
      · exact .inr (.inr (List.cons_lt_cons_iff.mpr (.inr ⟨rfl, g⟩)))
    · exact .inr (.inr (List.cons_lt_cons_iff.mpr (.inl h)))
theorem lt_tr : ∀ a b c : List Nat, a < b → b < c → a < c := fun _ _ _ h g => List.lt_trans h g
theorem rising_pw : ∀ (p : Str) (l : List Str), risingS p l = true → (p :: l).Nodup → (p :: l).Pairwise (fun a b : Str => a.cps.toList < b.cps.toList)
  | p, [], _, _ => List.pairwise_singleton _ _
  | p, x :: r, h, nd => by
    have h : (!ltCps x.cps.toList p.cps.toList && risingS x r) = true := h
    rw [Bool.and_eq_true] at h
    obtain ⟨h1, h2⟩ := h
    rw [ltCps_eq] at h1
    have nd2 := List.nodup_cons.mp nd
    have ih := rising_pw x r h2 nd2.2
    have px : p.cps.toList < x.cps.toList := by
      rcases lt_tri p.cps.toList x.cps.toList with g | g | g
      · exact g
      · exact absurd (by rw [ext_tl g]; exact List.mem_cons_self) nd2.1
      · rw [decide_eq_true g] at h1
        cases h1
    refine List.pairwise_cons.mpr ⟨fun y hy => ?_, ih⟩
    rcases List.mem_cons.mp hy with e | e
    · rw [e]
      exact px
    · exact lt_tr _ _ _ px ((List.pairwise_cons.mp ih).1 y e)
theorem sorted_pw {l : List Str} (h : sortedS l = true) (nd : l.Nodup) : l.Pairwise (fun a b : Str => a.cps.toList < b.cps.toList) := by
  cases l with
  | nil => exact .nil
  | cons p r => exact rising_pw p r h nd
theorem strict_ext {α : Type} (R : α → α → Prop) (irr : ∀ a, ¬ R a a) (asym : ∀ a b, R a b → R b a → False) : ∀ l l' : List α, l.Pairwise R → l'.Pairwise R → (∀ x, x ∈ l ↔ x ∈ l') → l = l'
  | [], [], _, _, _ => rfl
  | [], b :: r, _, _, h => absurd ((h b).mpr List.mem_cons_self) (by simp)
  | a :: r, [], _, _, h => absurd ((h a).mp List.mem_cons_self) (by simp)
  | a :: r, b :: t, p, q, h => by
    obtain ⟨pa, pr⟩ := List.pairwise_cons.mp p
    obtain ⟨qb, qt⟩ := List.pairwise_cons.mp q
    have e : a = b := by
      rcases List.mem_cons.mp ((h a).mp List.mem_cons_self) with e | ha
      · exact e
      · rcases List.mem_cons.mp ((h b).mpr List.mem_cons_self) with e | hb
        · exact e.symm
        · exact (asym a b (pa b hb) (qb a ha)).elim
    subst e
    rw [strict_ext R irr asym r t pr qt fun x => ⟨fun hx => ?_, fun hx => ?_⟩]
    · rcases List.mem_cons.mp ((h x).mp (List.mem_cons_of_mem _ hx)) with e | g
      · exact (irr a (e ▸ pa x hx)).elim
      · exact g
    · rcases List.mem_cons.mp ((h x).mpr (List.mem_cons_of_mem _ hx)) with e | g
      · exact (irr a (e ▸ qb x hx)).elim
      · exact g
theorem nd_len {α : Type} [DecidableEq α] : ∀ (l m : List α), l.Nodup → (∀ x ∈ l, x ∈ m) → l.length ≤ m.length
  | [], m, _, _ => Nat.zero_le _
  | a :: r, m, nd, h => by
    have ha := h a List.mem_cons_self
    have n1 := List.nodup_cons.mp nd
    have ih := nd_len r (m.erase a) n1.2 fun x hx => (List.mem_erase_of_ne fun (e : x = a) => n1.1 (by rw [← e]; exact hx)).mpr (h x (List.mem_cons_of_mem _ hx))
    rw [List.length_erase_of_mem ha] at ih
    have pos := List.length_pos_of_mem ha
    rw [List.length_cons]
    omega
/-! what a look shows of two worlds that hold the same is shown alike -/
theorem fOf_some {fs : Fs} {p : List Str} {t : Str} (h : fOf fs p = some t) : ∃ e ∈ fs, e.1 = p ∧ e.2 = t := by
  unfold fOf at h
  obtain ⟨e, he, rfl⟩ := Option.map_eq_some_iff.mp h
  exact ⟨e, List.mem_of_find?_eq_some he, of_decide_eq_true (List.find?_some (p := fun e : List Str × Str => decide (e.1 = p)) he), rfl⟩
theorem sOf_some {ss : Ss} {p : Str} {t : Str} (h : sOf ss p = some t) : ∃ e ∈ ss, e.1 = p ∧ e.2 = t := by
  unfold sOf at h
  obtain ⟨e, he, rfl⟩ := Option.map_eq_some_iff.mp h
  exact ⟨e, List.mem_of_find?_eq_some he, of_decide_eq_true (List.find?_some (p := fun e : Str × Str => decide (e.1 = p)) he), rfl⟩
theorem fOf_perm {fs fs' : Fs} {p : List Str} (h : ∀ e ∈ fs, Nms e.1) (pf : fs'.Perm fs) (nd : (fs.map (·.1)).Nodup) : fOf fs' p = fOf fs p := by
  have nd' : (fs'.map (·.1)).Nodup := (pf.map _).nodup_iff.mpr nd
  have h' : ∀ e ∈ fs', Nms e.1 := fun e he => h e (pf.mem_iff.mp he)
  cases e : fOf fs' p with
  | some t =>
    obtain ⟨x, hx, rfl, rfl⟩ := fOf_some e
    exact (fs_get h nd x (pf.mem_iff.mp hx)).symm
  | none =>
    cases g : fOf fs p with
    | none => rfl
    | some t =>
      obtain ⟨x, hx, rfl, rfl⟩ := fOf_some g
      rw [fs_get h' nd' x (pf.mem_iff.mpr hx)] at e
      cases e
theorem sOf_perm {ss ss' : Ss} {p : Str} (pf : ss'.Perm ss) (nd : (ss.map (·.1)).Nodup) : sOf ss' p = sOf ss p := by
  have nd' : (ss'.map (·.1)).Nodup := (pf.map _).nodup_iff.mpr nd
  cases e : sOf ss' p with
  | some t =>
    obtain ⟨x, hx, rfl, rfl⟩ := sOf_some e
    exact (ss_get nd x (pf.mem_iff.mp hx)).symm
  | none =>
    cases g : sOf ss p with
    | none => rfl
    | some t =>
      obtain ⟨x, hx, rfl, rfl⟩ := sOf_some g
      rw [ss_get nd' x (pf.mem_iff.mpr hx)] at e
      cases e
theorem has_perm {fs fs' : Fs} {q : List Str} {n : Str} {b : Bool} (pf : fs'.Perm fs) : Has fs' q n b ↔ Has fs q n b :=
  ⟨fun ⟨e, he, h⟩ => ⟨e, pf.mem_iff.mp he, h⟩, fun ⟨e, he, h⟩ => ⟨e, pf.mem_iff.mpr he, h⟩⟩
theorem fm_len {fs : Fs} {q : List Str} {fm : Nm} (h : Fm fs q fm) : fm.length ≤ fs.length := by
  have l := nd_len (fm.map (·.1)) (fs.map fun e => e.1.getD q.length "") h.nd fun x hx => by
    obtain ⟨⟨n, b⟩, hn, rfl⟩ := List.mem_map.mp hx
    obtain ⟨e, he, r, h1, h2⟩ := (h.has n b).mp hn
    refine List.mem_map.mpr ⟨e, he, ?_⟩
    rw [h1]
    simp
  rw [List.length_map, List.length_map] at l
  exact l
theorem fm_nm {zs : List Str} {fs : Fs} {q : List Str} {fm : Nm} (h : Fm fs q fm) (g : GoodF zs fs) (nm : ∀ z ∈ zs, IsNm z) : ∀ e ∈ fm, IsNm e.1 := fun e he => by
  obtain ⟨x, hx, r, h1, h2⟩ := (h.has e.1 e.2).mp he
  exact nm _ ((g.path x hx).2.2 _ (by rw [h1]; simp))
theorem texts_fine : ∀ t ∈ texts, (PyData.str t).showable = true ∧ (PyData.str t).depth ≤ 0 ∧ (PyData.str t).shown.length ≤ 100 := by decide +kernel
theorem tools_fine : ∀ t ∈ tools, (PyData.str t).showable = true ∧ (PyData.str t).depth ≤ 0 ∧ (PyData.str t).shown.length ≤ 100 := by decide +kernel
theorem nd_of_map {ys : Nm} (h : (ys.map (·.1)).Nodup) (s : sortedS (ys.map (·.1)) = true) : ys.Pairwise (fun a b : Str × Bool => a.1.cps.toList < b.1.cps.toList) := by
  have p := sorted_pw s h
  rw [List.pairwise_map] at p
  exact p
theorem dq_ents {K : PySem.W.Frag} {H : Hp} : ∀ ys : Nm, DqAll K H (ys.map fun e => .str (ent e.1 e.2)) (ys.map fun e => .str (ent e.1 e.2))
  | [] => .nil
  | e :: r => .cons (.str _) (dq_ents r)
theorem ans_eq {K : PySem.W.Frag} {H1 H2 : Hp} {zs : List Str} {fs fs' : Fs} {ss ss' : Ss} {z : Str} {v u : V} {k : Lk} (a1 : Ans H1 fs' ss' z v k) (a2 : Ans H2 fs ss z u k) (g : GoodF zs fs) (gs : GoodS zs ss) (nm : ∀ z ∈ zs, IsNm z) (pf : fs'.Perm fs) (ps : ss'.Perm ss) (fl : fs.length ≤ 50) (hz : z ∈ tools) :
    ∃ d, Dq K H1 v d ∧ Dq K H2 u d ∧ Fine d 20 100000 := by
  have nf : ∀ x ∈ fs, Nms x.1 := fun x hx y hy => nm y ((g.path x hx).2.2 y hy)
  have fx : ∀ t ∈ texts, Fine (.str t) 20 100000 := fun t ht => by
    obtain ⟨q1, q2, q3⟩ := texts_fine t ht
    exact (Fine.mk q1 q2 q3).up (by decide) (by decide)
  cases k with
  | rd p =>
    have a1 : v = oV (fOf fs' p) := a1
    have a2 : u = oV (fOf fs p) := a2
    rw [fOf_perm nf pf g.nd] at a1
    subst a1
    subst a2
    cases e : fOf fs p with
    | none => exact ⟨.none, .non, .non, fine_non.up (by decide) (by decide)⟩
    | some t =>
      obtain ⟨x, hx, _, rfl⟩ := fOf_some e
      exact ⟨.str x.2, .str _, .str _, fx _ (g.text x hx)⟩
  | se n =>
    have a1 : v = oV (sOf ss' n) := a1
    have a2 : u = oV (sOf ss n) := a2
    rw [sOf_perm ps gs.nd] at a1
    subst a1
    subst a2
    cases e : sOf ss n with
    | none => exact ⟨.none, .non, .non, fine_non.up (by decide) (by decide)⟩
    | some t =>
      obtain ⟨x, hx, _, rfl⟩ := sOf_some e
      exact ⟨.str x.2, .str _, .str _, fx _ (gs.text x hx)⟩
  | tl =>
    have a1 : v = .str z := a1
    have a2 : u = .str z := a2
    subst a1
    subst a2
    obtain ⟨q1, q2, q3⟩ := tools_fine z hz
    exact ⟨.str z, .str _, .str _, (Fine.mk q1 q2 q3).up (by decide) (by decide)⟩
  | ls q =>
    obtain ⟨fm1, m1, c1⟩ := a1
    obtain ⟨fm2, m2, c2⟩ := a2
    have mem : ∀ x, x ∈ fm1 ↔ x ∈ fm2 := fun x => (m1.has x.1 x.2).trans ((has_perm pf).trans (m2.has x.1 x.2).symm)
    have emp : fm1 = [] ↔ fm2 = [] := by
      constructor
      · intro e
        cases h : fm2 with
        | nil => rfl
        | cons y r => exact absurd ((mem y).mpr (by rw [h]; exact List.mem_cons_self)) (by rw [e]; simp)
      · intro e
        cases h : fm1 with
        | nil => rfl
        | cons y r => exact absurd ((mem y).mp (by rw [h]; exact List.mem_cons_self)) (by rw [e]; simp)
    rcases c1 with ⟨e1, nq, rfl⟩ | ⟨w1, t1, ys1, rfl, p1, s1, h1⟩
    · rcases c2 with ⟨e2, _, rfl⟩ | ⟨w2, _⟩
      · exact ⟨.none, .non, .non, fine_non.up (by decide) (by decide)⟩
      · exact (w2.elim (fun h => h (emp.mp e1)) fun h => nq h).elim
    · rcases c2 with ⟨e2, nq, rfl⟩ | ⟨w2, t2, ys2, rfl, p2, s2, h2⟩
      · exact (w1.elim (fun h => h (emp.mpr e2)) fun h => nq h).elim
      · have n1 : (ys1.map (·.1)).Nodup := (p1.map _).nodup_iff.mpr m1.nd
        have n2 : (ys2.map (·.1)).Nodup := (p2.map _).nodup_iff.mpr m2.nd
        have e : ys1 = ys2 := strict_ext (fun a b : Str × Bool => a.1.cps.toList < b.1.cps.toList) (fun a h => List.lt_irrefl _ h) (fun a b h g => List.lt_irrefl _ (lt_tr _ _ _ h g)) ys1 ys2 (nd_of_map n1 s1) (nd_of_map n2 s2) fun x => p1.mem_iff.trans ((mem x).trans p2.mem_iff.symm)
        subst e
        refine ⟨.tuple (ys1.map fun e => .str (ent e.1 e.2)), .tup h1 (dq_ents ys1), .tup h2 (dq_ents ys1), ?_⟩
        have l : ys1.length ≤ 50 := by
          rw [p2.length_eq]
          exact Nat.le_trans (fm_len m2) fl
        refine (Fine.tup (dep := 0) (n := 102) (m := 100000) (fun d hd => ?_) (by rw [List.length_map]; omega)).up (by decide) (by decide)
        obtain ⟨e, he, rfl⟩ := List.mem_map.mp hd
        have hn := fm_nm m2 g nm e (p2.mem_iff.mp he)
        refine fine_str (n := 10) (fun c hc => ?_) ?_
        · rw [tl_ent] at hc
          rcases List.mem_append.mp hc with q | q
          · have := hn.2.2 c q; omega
          · by_cases eb : e.2 = true
            · rw [if_pos eb] at q
              rw [List.mem_singleton.mp q]
              decide
            · rw [if_neg eb] at q
              cases q
        · rw [len_tl, tl_ent, List.length_append, ← len_tl]
          have := hn.2.1
          cases e.2
          · show e.1.length + 0 ≤ 10
            omega
          · show e.1.length + 1 ≤ 10
            omega
end W

set_option maxHeartbeats 3900000
namespace W
open PySem PySem.Spec PyProof.Rows L2 TL RP
open C8 (pss_cut tCut pe_gc)
open CB
/-! the text ahead of the last stroke -/
theorem at_sl {x : Str} {i : Nat} : PySem.StrLaws.At x "/" x.length i ↔ (tl x)[i]? = some 47 := by
  show i + ("/" : Str).length ≤ x.length ∧ Builtin.Str.subAt x "/" i = true ↔ _
  rw [PySem.StrLaws.subAt_eq]
  have e1 : ("/" : Str).length = 1 := rfl
  have e2 : ("/" : Str).cps.toList = [47] := tl_sl
  rw [e1, e2, beq_iff_eq]
  show i + 1 ≤ x.length ∧ ((tl x).drop i).take 1 = [47] ↔ _
  constructor
  · rintro ⟨h1, h2⟩
    have h3 : (((tl x).drop i).take 1)[0]? = ([47] : List Nat)[0]? := by rw [h2]
    rw [List.getElem?_take_of_lt (by decide), List.getElem?_drop] at h3
    exact h3
  · intro h
    have hl : i < (tl x).length := (List.getElem?_eq_some_iff.mp h).1
    refine ⟨by rw [len_tl]; omega, ?_⟩
    rw [List.drop_eq_getElem_cons hl, List.take_succ_cons, List.take_zero]
    have := (List.getElem?_eq_some_iff.mp h).2
    rw [this]
theorem rfind_js {q : List Str} (hq : Nms q) (h : q ≠ []) : cutS (js q) none (some (if (0 : Int) > Txt.rfind (js q) "/" then 0 else Txt.rfind (js q) "/")) = js q.dropLast := by
  obtain ⟨r, y, rfl⟩ : ∃ r y, q = r ++ [y] := ⟨q.dropLast, q.getLast h, (List.dropLast_concat_getLast h).symm⟩
  rw [List.dropLast_concat]
  have hy : IsNm y := hq y (by simp)
  have fr := nm_free hy
  have key : ∀ i, (tl y)[i]? ≠ some 47 := fun i e => fr (List.mem_of_getElem? e)
  by_cases hr : r = []
  · subst hr
    have e : js ([] ++ [y]) = y := js_one y
    rw [e]
    have e2 : Txt.rfind y "/" = -1 := by
      unfold Txt.rfind
      rcases PySem.StrLaws.last_spec y "/" with ⟨h1, _⟩ | ⟨i, _, h2, _⟩
      · rw [h1]
      · exact absurd (at_sl.mp h2) (key i)
    rw [e2, if_pos (by decide)]
    refine ext_tl ?_
    have c := cut_to y 0
    rw [List.take_zero] at c
    exact c
  · have e : js (r ++ [y]) = js r ++ "/" ++ y := by
      rw [js_app hr (by simp), js_one]
    have et : tl (js (r ++ [y])) = jl r ++ 47 :: tl y := by
      rw [e, tl_append, tl_append, tl_js, tl_sl]
      simp
    have a0 : (tl (js (r ++ [y])))[(jl r).length]? = some 47 := by
      rw [et]
      simp
    have e2 : Txt.rfind (js (r ++ [y])) "/" = ((jl r).length : Int) := by
      unfold Txt.rfind
      rcases PySem.StrLaws.last_spec (js (r ++ [y])) "/" with ⟨_, h1⟩ | ⟨i, h1, h2, h3⟩
      · exact absurd (at_sl.mpr a0) (h1 _)
      · rw [h1]
        have le : (jl r).length ≤ i := Nat.le_of_not_lt fun q => h3 _ q (at_sl.mpr a0)
        have q2 := at_sl.mp h2
        rw [et] at q2
        by_cases q3 : i = (jl r).length
        · rw [q3]
        · rw [List.getElem?_append_right le] at q2
          obtain ⟨d, hd⟩ : ∃ d, i - (jl r).length = d + 1 := ⟨i - (jl r).length - 1, by omega⟩
          rw [hd, List.getElem?_cons_succ] at q2
          exact absurd q2 (key d)
    rw [e2, if_neg (by omega)]
    refine ext_tl ?_
    rw [cut_to, et, tl_js]
    simp
end W

set_option maxHeartbeats 3900000
/-! operators by the text's own methods: rules for ~o, o | u, o & u, x in o, len(o), o == u -/
namespace OW
open PySem PySem.Spec PyProof.Rows L2 PySem.F
section
variable {X : Cx} {k : Nat} {C f : Addr} {fd : FuncData} {ps : List Str} {sp : Sp} {CX : CXT} {E : XK}
/-- what stands where an instance is tracked -/
theorem inst_at {pins : List (Addr × Obj)} {σ : L2.St} {H : Hp} {s : Shared} {a dx : Addr} {fs : List (Str × V)} (I : Inv X pins σ H s) (ha : H a = some (.ins C dx fs)) : ∃ ox od, PySem.W.InstAt s.heap a ox C od := by
  obtain ⟨mA, J, _⟩ := ins_get I.hok ha
  obtain ⟨od, J, _⟩ := J.look
  exact ⟨_, _, J⟩
theorem cmp_back {pins : List (Addr × Obj)} {σ : L2.St} {Q : VK} {A : Around} {m : Sem Value} {Es : Value → Shared → Prop} {s : Shared} (h : wpAny (model X.prog X.w) A m (EP X pins σ Q) Es s) : wpAny (model X.prog X.w) A m (PySem.W.CmpBack (EP X pins σ Q)) Es s :=
  wpAny_mono h (fun u s' hq => by
    obtain ⟨v, H', I', rv, q⟩ := hq
    have e : EP X pins σ Q u s' := ⟨v, H', I', rv, q⟩
    cases v with
    | non => cases rv; exact e
    | bl b => cases rv; exact e
    | int i => obtain ⟨t, rfl⟩ := rv; exact e
    | str z => obtain ⟨t, rfl⟩ := rv; exact e
    | byt z => obtain ⟨t, rfl⟩ := rv; exact e
    | flt z => obtain ⟨t, rfl⟩ := rv; exact e
    | ref z => cases rv; exact e
    | ty z => cases rv; exact e) fun _ _ e => e
/-- a call of a def from within an operation -/
theorem run_in {A : Around} {pins : List (Addr × Obj)} {σ : L2.St} {H : Hp} {s : Shared} {Q : VK} {us : List Value} {vs : List V} (F : FnOk X.prog X.w X.K X.mg X.base CX k f fd ps sp) (sb : Sub X k A) (hb : Binds X.K fd ps []) (hx : Passes CX X E)
    (I : Inv X pins σ H s) (r : Vals vs us) (h : sp vs H Q E) : wpAny (model X.prog X.w) A (call (.ref f) us) (EP X pins σ Q) X.xe s := by
  have e0 : Env0 X.prog X.w X.K X.mg X.base A X.stack s H := by
    have e := I.env0
    exact ⟨by rw [sb.fr]; exact e.frames, e.mod, e.bs, e.bsz, e.funs, e.frf, e.hok, e.bare⟩
  have hl : us.length = ps.length := by rw [← r.length]; exact F.len _ _ _ _ h
  refine wpAny_call (codeAny_mono (F.run A X.stack s H ⟨us, []⟩ us vs Q E sb.room e0 (by
    have := hb s us I.kIn (by simpa using hl)
    simpa using this) r h) fun r s' hq => ?_)
  cases r with
  | error e => exact hx pins σ H s e s' I hq
  | ok fl =>
    cases fl with
    | ret w =>
      obtain ⟨z, H', I', rz, q⟩ := I.after hq
      exact ⟨z, H', I', rz, q⟩
    | next => exact False.elim hq
    | brk => exact False.elim hq
    | cont => exact False.elim hq
/-- ~o -/
def rInv (C : Addr) (sp : Sp) (E : XK) : V → Hp → VK → Prop := fun x H Q => ∃ a dx fs, x = .ref a ∧ H a = some (.ins C dx fs) ∧ sp [.ref a] H Q E
theorem un_inv (F : FnOk X.prog X.w X.K X.mg X.base CX k f fd ps sp) (hr : Room k X.A) (hb : Binds X.K fd ps []) (hx : Passes CX X E) (M : Meth X.K C "__invert__" f) : UnR X (unaryOp .Invert) (rInv C sp E) := by
  intro pins s σ H x v Q I rx h
  obtain ⟨a, dx, fs, rfl, ha, q⟩ := h
  cases rx
  obtain ⟨ox, od, J⟩ := inst_at I ha
  obtain ⟨m, hF⟩ := I.fr
  exact PySem.W.ksp_inv hF I.ok.mod.kin J M.at_ M.fn (run_fn F hr hb .nil hx I (vs := [.ref a]) (.cons rfl .nil) q)
/-- x in o -/
def rInO (C : Addr) (sp : Sp) (E : XK) : R2 := fun x y H Q => ∃ a dx fs, y = .ref a ∧ H a = some (.ins C dx fs) ∧ sp [.ref a, x] H (fun v H' => ∃ b, v = .bl b ∧ Q (.bl b) H') E
theorem op_inO (F : FnOk X.prog X.w X.K X.mg X.base CX k f fd ps sp) (hr : Room k X.A) (hb : Binds X.K fd ps []) (hx : Passes CX X E) (M : Meth X.K C "__contains__" f) : OpR X (compareOp .In) (rInO C sp E) := by
  intro pins s σ H x y v u Q I rx ry h
  obtain ⟨a, dx, fs, rfl, ha, q⟩ := h
  cases ry
  obtain ⟨ox, od, J⟩ := inst_at I ha
  have K0 := I.kIn
  show wpAny (model X.prog X.w) X.A (do return .bool (← contains (.ref a) v)) (EP X pins σ Q) X.xe s
  refine wpAny_bind ?_
  unfold contains
  refine wpAny_holding ?_
  have e0 : stdlibNamesSay? (.ref a) v = none := rfl
  rw [e0]
  refine wpAny_bind (wpAny_bind (J.type.here ((PySem.W.looks_findIn K0 M.at_).here ?_)))
  show wpAny _ _ (if (some (Value.ref f) == some Value.none) = true then _ else _) _ _ s
  rw [if_neg (by simp)]
  have run := run_fn F hr hb .nil hx I (vs := [.ref a, x]) (us := [.ref a, v]) (.cons rfl (.cons rx .nil)) q
  unfold callSpecialUnlessNone?
  refine wpAny_bind (wpAny_bind (wpAny_bind (J.type.here ((PySem.W.looks_findIn K0 M.at_).here ?_))))
  refine wpAny_holding (wpAny_bind ((PySem.W.bind_fn K0 _ (beq_iff_eq.mp M.fn)).here ?_))
  show wpAny _ _ (if (Value.ref f == Value.none) = true then _ else _) _ _ s
  rw [if_neg (by simp)]
  refine wpAny_bind (wpAny_mono run (fun r s' hq => ?_) fun _ _ e => e)
  obtain ⟨w, H', I', rw', b, rfl, q'⟩ := hq
  cases rw'
  refine wpAny_pure ?_
  refine wpAny_truthy_bool (wpAny_pure ⟨.bl b, H', I', rfl, q'⟩)
/-- len(o) -/
def rLenO (C : Addr) (sp : Sp) (E : XK) : List V → Hp → VK → Prop := fun vs H Q => ∃ a dx fs, vs = [.ref a] ∧ H a = some (.ins C dx fs) ∧ sp [.ref a] H (fun v H' => ∃ n : Nat, v = .int (n : Int) ∧ n < 2 ^ 62 ∧ Q (.int (n : Int)) H') E
theorem call_lenO (F : FnOk X.prog X.w X.K X.mg X.base CX k f fd ps sp) (hr : Room (k + 1) X.A) (hb : Binds X.K fd ps []) (hx : Passes CX X E) (M : Meth X.K C "__len__" f) : CallR X (.builtin "len") (rLenO C sp E) := by
  intro pins s σ H xs us Q I r h
  obtain ⟨a, dx, fs, rfl, ha, q⟩ := h
  obtain ⟨ox, od, J⟩ := inst_at I ha
  obtain ⟨u, rfl, ru⟩ := vals1 r
  cases ru
  have K0 := I.kIn
  refine Calls.call_function_entry kind_len plain_len entry_len (args_len1 _) ?_
  unfold Builtin.«len»
  refine wpAny_bind (m := oneArg "len" _) (wpAny_pure ?_)
  have run := run_in F (A := X.A.in1) ⟨hr.in1, rfl⟩ hb hx I (vs := [.ref a]) (us := [.ref a]) (.cons rfl .nil) q
  refine wpAny_bind (m := callSpecial? (.ref a) (Str.ofString "__len__")) (PySem.W.special_fn K0 J M.at_ (beq_iff_eq.mp M.fn) (wpAny_mono run (fun rv s' hq => ?_) fun _ _ e => e))
  obtain ⟨w, H', I', rw', n, rfl, hn, q'⟩ := hq
  obtain ⟨t, rfl⟩ := rw'
  show wpAny _ _ _ _ _ s'
  refine wpAny_bind (wpAny_holding (wpAny_pure ?_))
  refine wpAny_bind (wpAny_letGo ?_)
  show wpAny _ _ (if (n : Int) < 0 then _ else _) _ _ _
  rw [if_neg (by omega)]
  show wpAny _ _ (if (n : Int) ≥ 2 ^ 63 then _ else _) _ _ _
  rw [if_neg (by omega)]
  exact wpAny_bind (wpAny_mkInt (wpAny_pure ⟨_, rfl, ⟨.int n, H', I'.tok _, ⟨_, rfl⟩, q'⟩⟩))
/-- a op b of two instances of one class, by its own method -/
theorem bin_own {op : Operator} {A : Around} {Es : Value → Shared → Prop} {s : Shared} {K : PySem.W.Frag} {x y : Addr} {ox oy : Obj} {od od' : Option Obj} {R : Value → Shared → Prop} (K0 : K.In s.heap) (J : PySem.W.InstAt s.heap x ox C od) (J' : PySem.W.InstAt s.heap y oy C od') (hc : PySem.W.selfFirst K C = true)
    (hs : PySem.W.findIn K (.ref C) (PySem.dunder op.info.2) = some (some (.ref f))) (hf : PySem.W.isFn K (.ref f) = true)
    (h : wpAny (model X.prog X.w) A (call (.ref f) [.ref x, .ref y]) (PySem.W.CmpBack R) Es s) : wpAny (model X.prog X.w) A (binaryOp op (.ref x) (.ref y)) R Es s := by
  obtain ⟨cd, rest, hcd, hm⟩ := PySem.W.ksp_first hc
  rcases hi : op.info with ⟨sym, nm'⟩
  rw [hi] at hs
  dsimp only at hs
  have one := PySem.W.ksp_try K0 J hs hf h
  have L1 : PySem.W.Looks (model X.prog X.w) s.heap (typeOf (.ref x)) (.ref C) := J.type
  have L2' : PySem.W.Looks (model X.prog X.w) s.heap (typeOf (.ref y)) (.ref C) := J'.type
  have L3 : PySem.W.Looks (model X.prog X.w) s.heap (fillsNumberSlot (.ref C) nm') true := PySem.W.fills_K K0 hcd hm hs
  simp only [binaryOp, hi]
  refine wpAny_holding (wpAny_bind ?_)
  unfold binaryOp1
  refine wpAny_bind (L1.here (wpAny_bind (L2'.here (wpAny_bind (L3.here ?_)))))
  have hne : (Value.ref C == Value.ref C) = true := by simp
  simp only [hne, if_true, pure_bind, Bool.and_false, Bool.false_and, Bool.false_eq_true, if_false]
  refine wpAny_bind (wpAny_mono one (fun r s' hr' => ?_) fun _ _ e => e)
  obtain ⟨v, rfl, hq⟩ := hr'
  exact wpAny_pure (wpAny_pure hq)
def rBinO (C : Addr) (sp : Sp) (E : XK) : R2 := fun x y H Q => ∃ a b dx dy fs gs, x = .ref a ∧ y = .ref b ∧ H a = some (.ins C dx fs) ∧ H b = some (.ins C dy gs) ∧ sp [.ref a, .ref b] H Q E
theorem op_binO {op : Operator} (F : FnOk X.prog X.w X.K X.mg X.base CX k f fd ps sp) (hr : Room k X.A) (hb : Binds X.K fd ps []) (hx : Passes CX X E) (hc : PySem.W.selfFirst X.K C = true)
    (hs : PySem.W.findIn X.K (.ref C) (PySem.dunder op.info.2) = some (some (.ref f))) (hf : PySem.W.isFn X.K (.ref f) = true) : OpR X (binaryOp op) (rBinO C sp E) := by
  intro pins s σ H x y v u Q I rx ry h
  obtain ⟨a, b, dx, dy, fs, gs, rfl, rfl, ha, hb', q⟩ := h
  cases rx
  cases ry
  obtain ⟨ox, od, J⟩ := inst_at I ha
  obtain ⟨oy, od', J'⟩ := inst_at I hb'
  exact bin_own I.kIn J J' hc hs hf (cmp_back (run_fn F hr hb .nil hx I (vs := [.ref a, .ref b]) (.cons rfl (.cons rfl .nil)) q))
/-- o == y: y of any kind -/
def rEqO (K : PySem.W.Frag) (C : Addr) (sp : Sp) (E : XK) : R2 := fun x y H Q => ∃ a dx fs t, x = .ref a ∧ H a = some (.ins C dx fs) ∧ TyX K H y t ∧ PySem.W.notFirst K C t = true ∧ sp [.ref a, y] H Q E
theorem op_eqO (F : FnOk X.prog X.w X.K X.mg X.base CX k f fd ps sp) (hr : Room k X.A) (hu : X.A.units < cLine) (hb : Binds X.K fd ps []) (hx : Passes CX X E) (M : Meth X.K C "__eq__" f) : OpR X (compareOp .Eq) (rEqO X.K C sp E) := by
  intro pins s σ H x y v u Q I rx ry h
  obtain ⟨a, dx, fs, t, rfl, ha, ht, hn, q⟩ := h
  cases rx
  obtain ⟨ox, od, J⟩ := inst_at I ha
  obtain ⟨m, hF⟩ := I.fr
  show wpAny (model X.prog X.w) X.A (richCompare .Eq (.ref a) u) (EP X pins σ Q) X.xe s
  exact PySem.W.cmp_K (op := .Eq) (tb := t) hu hF I.ok.mod.kin J (by obtain ⟨P, Z, p, _⟩ := kit_of I ry ht; exact Z.ty _ _ I.kIn p) hn M.at_ M.fn (cmp_back (run_fn F hr hb .nil hx I (vs := [.ref a, y]) (.cons rfl (.cons ry .nil)) q))
theorem ne_slot : PySem.Slot "object" "__ne__" "object.__ne__" := .of (T := "object") (name := "__ne__") (owner := "object") (n := "__ne__") (by rw [typeLookup_type, builtinLookup_eq_fast]; kernel_rfl) (by decide +kernel) (by decide +kernel) (by decide +kernel) (.inl (by decide +kernel)) (by rw [isSubtype_type]; kernel_rfl)
/-- a slot of object's, found in an own class -/
theorem ifBound_B {M : Model} {A : Around} {Es : Value → Shared → Prop} {s : Shared} {K : PySem.W.Frag} {x : Addr} {ox : Obj} {od : Option Obj} {name : Str} {id : String} {args : List Value} {R : Option Value → Shared → Prop} (S : PySem.Slot "object" name id) (K0 : K.In s.heap) (J : PySem.W.InstAt s.heap x ox C od)
    (hs : PySem.W.findIn K (.ref C) name = some (some (.builtin id))) (h : wpAny M A (call (.builtin id) (.ref x :: args)) (fun v => R (some v)) Es s) : wpAny M A (callSpecialIfBound? (.ref x) name args) R Es s := by
  simp only [callSpecialIfBound?, bindSpecialIfBound?]
  refine wpAny_holding (wpAny_bind (wpAny_bind (wpAny_bind (J.type.here ((PySem.W.looks_findIn K0 hs).here ?_)))))
  refine wpAny_bind (wpAny_askSetting (wpAny_ite ?_))
  have fin : wpAny M A (call (.builtin id) ([.ref x] ++ args) >>= fun v => pure (some v)) R Es s := wpAny_bind (wpAny_mono h (fun v s' h' => wpAny_pure h') fun _ _ h' => h')
  split
  · rw [S.bind]
    exact wpAny_bind (wpAny_pure (wpAny_pure (by exact fin)))
  · rw [S.bind]
    exact wpAny_tryCatch (wpAny_bind (wpAny_pure (wpAny_pure (by exact fin))))
/-- o != u of two instances of one class whose == is its own -/
def rNeO (C : Addr) (sp : Sp) (E : XK) : R2 := fun x y H Q => ∃ a b dx dy fs gs, x = .ref a ∧ y = .ref b ∧ H a = some (.ins C dx fs) ∧ H b = some (.ins C dy gs) ∧ sp [.ref a, .ref b] H (fun v H' => ∃ r, v = .bl r ∧ Q (.bl (!r)) H') E
theorem op_neO (F : FnOk X.prog X.w X.K X.mg X.base CX k f fd ps sp) (hr : Room (k + 1) X.A) (hu : X.A.units + 1 < cLine) (hb : Binds X.K fd ps []) (hx : Passes CX X E) (M : Meth X.K C "__eq__" f)
    (hn : PySem.W.findIn X.K (.ref C) "__ne__" = some (some (.builtin "object.__ne__"))) (hO : PySem.W.subIn X.K (.ref C) (.type "object") = some true) : OpR X (compareOp .NotEq) (rNeO C sp E) := by
  intro pins s σ H x y v u Q I rx ry h
  obtain ⟨a, b, dx, dy, fs, gs, rfl, rfl, ha, hb', q⟩ := h
  cases rx
  cases ry
  obtain ⟨ox, od, J⟩ := inst_at I ha
  obtain ⟨oy, od', J'⟩ := inst_at I hb'
  have K0 := I.kIn
  have hu0 : X.A.units < cLine := by omega
  show wpAny (model X.prog X.w) X.A (richCompare .NotEq (.ref a) (.ref b)) (EP X pins σ Q) X.xe s
  unfold richCompare
  simp only [oneThing_ref]
  refine wpAny_holding (wpAny_bind (wpAny_cRoomFor hu0 ?_))
  rw [cmpInfo_NotEq]
  dsimp only
  refine wpAny_bind (J.type.here (wpAny_bind (J'.type.here ?_)))
  rw [show (Value.ref C != Value.ref C) = false from by simp]
  simp only [Bool.false_eq_true, if_false]
  refine wpAny_bind (wpAny_pure ?_)
  simp only [Bool.false_eq_true, if_false]
  have run := run_in F (A := X.A.in1) ⟨hr.in1, rfl⟩ hb hx I (vs := [.ref a, .ref b]) (us := [.ref a, .ref b]) (.cons rfl (.cons rfl .nil)) q
  have isO : PySem.W.Looks (model X.prog X.w) s.heap (isInstance (.ref a) (.type "object")) true := J.type.andThen (PySem.W.looks_subIn K0 hO)
  have one : wpAny (model X.prog X.w) X.A (tryCompare (.ref a) "__ne__" (.ref b)) (fun r s' => ∃ v, r = some v ∧ EP X pins σ Q v s') X.xe s := by
    simp only [tryCompare]
    refine wpAny_bind (ifBound_B ne_slot K0 J hn (wpAny_call (codeAny_call_builtin (by decide +kernel) PySem.F.cmpEntry_ne (PySem.W.check_slot PySem.F.cmpKind_ne PySem.F.cmpSplit_ne isO (PySem.F.cmpArgs_ne _ _) ?_))))
    unfold Builtin.«object.__ne__»
    have hu1 : X.A.in1.units < cLine := by
      have : X.A.in1.units = X.A.units + 1 := rfl
      omega
    repeat (first
      | with_reducible refine wpAny_cRoomFor hu1 ?_
      | (refine wpAny_bind (m := callSpecialIfBound? (.ref a) (Str.ofString "__eq__") [.ref b])
          (PySem.W.ifBound_K K0 J M.at_ M.fn (wpAny_mono run (fun r s' hq => by
            obtain ⟨w, H', I', rw', b', rfl, q'⟩ := hq
            cases rw'
            have fin : EP X pins σ Q (.bool (!b')) s' := ⟨.bl (!b'), H', I', rfl, q'⟩
            repeat (first | exact ⟨_, rfl, fin⟩ | exact wpAny_pure ⟨_, rfl, fin⟩ | (refine wpAny_bind (m := truthy (.bool _)) (wpAny_truthy_bool ?_)) | wp_step)) fun _ _ e => e)))
      | wp_step)
  refine wpAny_bind (wpAny_mono one (fun r s' hr' => ?_) fun _ _ e => e)
  obtain ⟨v, rfl, hq⟩ := hr'
  exact wpAny_pure hq
end
end OW

set_option maxHeartbeats 3900000
namespace W
open PySem PySem.Spec PyProof.Rows L2 TL RP
open C8 (pss_cut tCut pe_gc)
open CB
abbrev sLaw : Stmt := top 46
/-! a block, statement by statement -/
def Step (X : Cx) (st : Stmt) (A B : L2.St → Hp → Prop) : Prop := ∃ t, PS X st t ∧ ∀ (D : Ends) σ H, A σ H → (∀ σ' H', B σ' H' → D.nx σ' H') → t D σ H
def Steps (X : Cx) (ss : List Stmt) (A B : L2.St → Hp → Prop) : Prop := ∃ t, PSs X ss t ∧ ∀ (D : Ends) σ H, A σ H → (∀ σ' H', B σ' H' → D.nx σ' H') → t D σ H
theorem steps_cons {X : Cx} {st : Stmt} {ss : List Stmt} {A B C : L2.St → Hp → Prop} (h : Step X st A B) (r : Steps X ss B C) : Steps X (st :: ss) A C := by
  obtain ⟨t, p, q⟩ := h
  obtain ⟨u, p2, q2⟩ := r
  exact ⟨_, pss_cut p p2, fun D σ H a k => ⟨B, q _ σ H a fun _ _ b => b, fun σ' H' b => q2 D σ' H' b k⟩⟩
theorem steps_one {X : Cx} {st : Stmt} {A B : L2.St → Hp → Prop} (h : Step X st A B) : Steps X [st] A B := by
  obtain ⟨t, p, q⟩ := h
  exact ⟨_, pss_one p, fun D σ H a k => q D σ H a k⟩
/-- what a block itself asks -/
def tW (X : Cx) (ss : List Stmt) : TS := fun D σ H => ∀ (pins : List (Addr × Obj)) (s : Shared), Inv X pins σ H s → wpAny (model X.prog X.w) X.A (execs ss X.env) (SP X pins D) X.xe s
theorem psW {X : Cx} {ss : List Stmt} : PSs X ss (tW X ss) := ⟨fun pins s σ H D I h => h pins s I⟩
theorem Steps.wish {X : Cx} {ss : List Stmt} {A B : L2.St → Hp → Prop} (h : Steps X ss A B) {D : Ends} {σ : L2.St} {H : Hp} (a : A σ H) (k : ∀ σ' H', B σ' H' → D.nx σ' H') : tW X ss D σ H := by
  obtain ⟨t, p, q⟩ := h
  exact fun pins s I => p.run pins s σ H D I (q D σ H a k)
def forBody : Stmt → List Stmt
  | .For _ _ b _ _ => b
  | _ => []
abbrev bd (i : Nat) : Stmt := (forBody ((defBody sLaw).getD 1 (.Pass ⟨0, 0, 0, 0⟩))).getD i (.Pass ⟨0, 0, 0, 0⟩)
/-! the names and places of the law -/
structure LV (P : Program) (w : World) (K : PySem.W.Frag) (mg : Str → Option Value) (base : Heap) (C : Addr) (fa : Str → Addr) (fd : Str → FuncData) : Prop where
  T : TB mg
  mMax : mg "max" = none
  R : WCl K mg C
  mAn : Meth K C "answer" (fa "answer")
  mEq : Meth K C "__eq__" (fa "eq")
  ne : PySem.W.findIn K (.ref C) "__ne__" = some (some (.builtin "object.__ne__"))
  so : PySem.W.subIn K (.ref C) (.type "object") = some true
  bAn : L2.Binds K (fd "answer") ["self", "look"] []
  GAn : FnOk P w K mg base CX0 6 (fa "answer") (fd "answer") ["self", "look"] (spWAns C)
  bEq : L2.Binds K (fd "eq") ["self", "other"] []
  GEq : FnOk P w K mg base CX0 1 (fa "eq") (fd "eq") ["self", "other"] (spWEq C)
  aD : aD' K mg (fa "draw") (fd "draw")
  GD : FnOk P w K mg base CX0 1 (fa "draw") (fd "draw") ["_law_stream", "_law_many"] spDraw
  aPo : At K mg "_law_pool" (fa "pool") (fd "pool") ["_law_stream", "_law_many"]
  GPo : FnOk P w K mg base CX0 4 (fa "pool") (fd "pool") ["_law_stream", "_law_many"] spPool
  aPa : At K mg "_law_path" (fa "path") (fd "path") ["_law_stream", "_law_pool_here", "_law_most"]
  GPa : FnOk P w K mg base CX0 3 (fa "path") (fd "path") ["_law_stream", "_law_pool_here", "_law_most"] spPath
  aWorld : At K mg "_law_world" (fa "world") (fd "world") ["_law_stream", "_law_pool_here", "_law_most"]
  GWorld : FnOk P w K mg base CX0 5 (fa "world") (fd "world") ["_law_stream", "_law_pool_here", "_law_most"] spWorld
  aMade : At K mg "_law_made" (fa "made") (fd "made") ["_law_w"]
  GMade : FnOk P w K mg base CX0 6 (fa "made") (fd "made") ["_law_w"] (spMade C)
  aLo : At K mg "_law_look" (fa "look") (fd "look") ["_law_stream", "_law_pool_here"]
  GLo : FnOk P w K mg base CX0 4 (fa "look") (fd "look") ["_law_stream", "_law_pool_here"] spLook
  aShows : At K mg "_law_shows" (fa "shows") (fd "shows") ["_law_w", "_law_look_here"]
  GShows : FnOk P w K mg base CX0 3 (fa "shows") (fd "shows") ["_law_w", "_law_look_here"] spShows
  aOdd : At K mg "_law_odd_look" (fa "odd") (fd "odd") ["_law_stream", "_law_pool_here"]
  GOdd : FnOk P w K mg base CX0 3 (fa "odd") (fd "odd") ["_law_stream", "_law_pool_here"] (spOdd K)
  aEn : At K mg "_law_end" (fa "end") (fd "end") ["_law_world_here", "_law_thing"]
  GEn : FnOk P w K mg base CX0 7 (fa "end") (fd "end") ["_law_world_here", "_law_thing"] (spEnd C)
  aSa : At K mg "_law_same" (fa "same") (fd "same") ["_law_found", "_law_due"]
  GSa : FnG P w K mg base CX0 1 (fa "same") (fd "same") ["_law_found", "_law_due"] (spSame K)
theorem scLaw : FnScope ["_law_script", "_law_stream", "_law_turn", "_law_pool_here", "_law_w", "_law_world_here", "_law_looks", "_law_k", "_law_look_here", "_law_path_here", "_law_thing"] ["_law_script"] (defScope sLaw) := ⟨rfl, rfl, rfl, by decide +kernel, rfl, by decide +kernel, by decide +kernel⟩
abbrev XL (P : Program) (w : World) (K : PySem.W.Frag) (mg : Str → Option Value) (base : Heap) (f : Addr) (cdv : Value) (A : Around) (outer : List Env) (s : Shared) (H : Hp) (E : XK) : Cx :=
  (cxOf CX0 P w K mg base ["_law_script", "_law_stream", "_law_turn", "_law_pool_here", "_law_w", "_law_world_here", "_law_looks", "_law_k", "_law_look_here", "_law_path_here", "_law_thing"] "law" (defScope sLaw) f cdv A outer s H E).nox
/-! what stands in a turn -/
structure Tn (C st l : Addr) (H : Hp) (p x o : Addr) (zs : List Str) (fs fs' : Fs) (ss ss' : Ss) (z : Str) : Prop where
  lp : Pool H st l p zs
  zl : zs.length = 3
  nd : zs.Nodup
  nm : ∀ y ∈ zs, IsNm y
  wa : WAt H x fs ss z
  g : GoodF zs fs
  fl : fs.length ≤ 8
  gs : GoodS zs ss
  sl : ss.length ≤ 2
  tz : z ∈ tools
  wo : WoAt C H o fs' ss' z
  pf : fs'.Perm fs
  ps : ss'.Perm ss
theorem Tn.same {C st l : Addr} {H H' : Hp} {p x o : Addr} {zs : List Str} {fs fs' : Fs} {ss ss' : Ss} {z : Str} (h : Tn C st l H p x o zs fs fs' ss ss' z) (s : Same H H') : Tn C st l H' p x o zs fs fs' ss ss' z :=
  ⟨h.lp.but (But.same s), h.zl, h.nd, h.nm, h.wa.same s, h.g, h.fl, h.gs, h.sl, h.tz, h.wo.same s, h.pf, h.ps⟩
theorem Tn.but {C st l : Addr} {H H' : Hp} {c : Nat} {p x o : Addr} {zs : List Str} {fs fs' : Fs} {ss ss' : Ss} {z : Str} (h : Tn C st l H p x o zs fs fs' ss ss' z) (S : Strm H st l c) (B : But st l H H') : Tn C st l H' p x o zs fs fs' ss ss' z :=
  ⟨h.lp.but B, h.zl, h.nd, h.nm, h.wa.but S B, h.g, h.fl, h.gs, h.sl, h.tz, h.wo.but S B, h.pf, h.ps⟩
theorem WAt.put {H : Hp} {L x : Addr} {xs : List V} {o : HO} {fs : Fs} {ss : Ss} {z : Str} (h : WAt H x fs ss z) (hL : H L = some (.lst xs)) : WAt (upd H L o) x fs ss z := by
  obtain ⟨d, e, h1, h2, h3⟩ := h
  have n : ∀ {a kvs}, H a = some (.dK kvs) → a ≠ L := fun q => ne_of q hL (by intro z; cases z)
  exact ⟨d, e, by rw [upd_ne (n h1)]; exact h1, by rw [upd_ne (n h2)]; exact h2, by rw [upd_ne (n h3)]; exact h3⟩
theorem WoAt.put {C : Addr} {H : Hp} {L x : Addr} {xs : List V} {o : HO} {fs : Fs} {ss : Ss} {z : Str} (h : WoAt C H x fs ss z) (hL : H L = some (.lst xs)) : WoAt C (upd H L o) x fs ss z := by
  obtain ⟨dx, d, e, h1, h2, h3⟩ := h
  exact ⟨dx, d, e, by rw [upd_ne (ne_of h1 hL (by intro z; cases z))]; exact h1, by rw [upd_ne (ne_of h2 hL (by intro z; cases z))]; exact h2, by rw [upd_ne (ne_of h3 hL (by intro z; cases z))]; exact h3⟩
theorem Tn.put {C st l L : Addr} {H : Hp} {xs : List V} {u : HO} {p x o : Addr} {zs : List Str} {fs fs' : Fs} {ss ss' : Ss} {z : Str} (h : Tn C st l H p x o zs fs fs' ss ss' z) (hL : H L = some (.lst xs)) (n : L ≠ p) : Tn C st l (upd H L u) p x o zs fs fs' ss ss' z :=
  ⟨⟨by rw [upd_ne n.symm]; exact h.lp.h, h.lp.n1, h.lp.n2⟩, h.zl, h.nd, h.nm, h.wa.put hL, h.g, h.fl, h.gs, h.sl, h.tz, h.wo.put hL, h.pf, h.ps⟩
def LkAll (H : Hp) (xs : List V) : Prop := ∀ x ∈ xs, ∃ t k, x = .ref t ∧ H t = some (.tup (lkV k)) ∧ LkOk k
theorem LkAll.same {H H' : Hp} {xs : List V} (h : LkAll H xs) (s : Same H H') : LkAll H' xs := fun x hx => by
  obtain ⟨t, k, e, ht, hk⟩ := h x hx
  exact ⟨t, k, e, s _ _ ht, hk⟩
theorem LkAll.but {H H' : Hp} {st l : Addr} {c : Nat} {xs : List V} (h : LkAll H xs) (S : Strm H st l c) (B : But st l H H') : LkAll H' xs := fun x hx => by
  obtain ⟨t, k, e, ht, hk⟩ := h x hx
  obtain ⟨ns, u, m, ⟨g1, g2⟩, _⟩ := S.ex
  exact ⟨t, k, e, B _ _ ht (ne_of ht g1 (by intro z; cases z)) (ne_of ht g2 (by intro z; cases z)), hk⟩
theorem LkAll.put {H : Hp} {L : Addr} {xs ys : List V} {o : HO} (h : LkAll H xs) (hL : H L = some (.lst ys)) : LkAll (upd H L o) xs := fun x hx => by
  obtain ⟨t, k, e, ht, hk⟩ := h x hx
  exact ⟨t, k, e, by rw [upd_ne (ne_of ht hL (by intro z; cases z))]; exact ht, hk⟩
theorem LkAll.app {H : Hp} {xs ys : List V} (h : LkAll H xs) (g : LkAll H ys) : LkAll H (xs ++ ys) := fun x hx => (List.mem_append.mp hx).elim (h x) (g x)
def J0 (v0 : V) (st l : Addr) (c : Nat) : L2.St → Hp → Prop := fun σ H => ∃ x2 x3 x4 x5 x6 x7 x8 x9 x10, σ = [some v0, some (.ref st), x2, x3, x4, x5, x6, x7, x8, x9, x10] ∧ Strm H st l c ∧ c ≤ 5000
def J1 (v0 : V) (st l : Addr) (c : Nat) : L2.St → Hp → Prop := fun σ H => ∃ (p : Addr) (zs : List Str) (x2 x4 x5 x6 x7 x8 x9 x10 : Option V), σ = [some v0, some (.ref st), x2, some (.ref p), x4, x5, x6, x7, x8, x9, x10] ∧ (∃ c' ≤ c + 33, Strm H st l c') ∧ c ≤ 5000 ∧
  Pool H st l p zs ∧ zs.length = 3 ∧ zs.Nodup ∧ ∀ y ∈ zs, IsNm y
def J2 (v0 : V) (st l : Addr) (c : Nat) : L2.St → Hp → Prop := fun σ H => ∃ (p x : Addr) (zs : List Str) (fs : Fs) (ss : Ss) (z : Str) (x2 x5 x6 x7 x8 x9 x10 : Option V), σ = [some v0, some (.ref st), x2, some (.ref p), some (.ref x), x5, x6, x7, x8, x9, x10] ∧ (∃ c' ≤ c + 79, Strm H st l c') ∧ c ≤ 5000 ∧
  Pool H st l p zs ∧ zs.length = 3 ∧ zs.Nodup ∧ (∀ y ∈ zs, IsNm y) ∧ WAt H x fs ss z ∧ GoodF zs fs ∧ fs.length ≤ 8 ∧ GoodS zs ss ∧ ss.length ≤ 2 ∧ z ∈ tools
/-- the looks stand, at most n; e draws at most -/
def J3 (C : Addr) (v0 : V) (st l : Addr) (c e n : Nat) : L2.St → Hp → Prop := fun σ H => ∃ (p x o L : Addr) (zs : List Str) (fs fs' : Fs) (ss ss' : Ss) (z : Str) (xs : List V) (x2 x7 x8 x9 x10 : Option V), σ = [some v0, some (.ref st), x2, some (.ref p), some (.ref x), some (.ref o), some (.ref L), x7, x8, x9, x10] ∧ (∃ c' ≤ c + e, Strm H st l c') ∧ c ≤ 5000 ∧
  Tn C st l H p x o zs fs fs' ss ss' z ∧ H L = some (.lst xs) ∧ L ≠ st ∧ L ≠ l ∧ L ≠ p ∧ xs.length ≤ n ∧ LkAll H xs
section
variable {P : Program} {w : World} {K : PySem.W.Frag} {mg : Str → Option Value} {base : Heap} {C : Addr} {fa : Str → Addr} {fd : Str → FuncData}
  {f : Addr} {cdv : Value} {A : Around} {outer : List Env} {s : Shared} {H : Hp} {E : XK} {v0 : V} {st l : Addr} {c : Nat}
theorem step0 (V : LV P w K mg base C fa fd) (hr : Room 8 (A.deeper (envOfC "law" (defScope sLaw) s.heap.objs.size f cdv))) : Step (XL P w K mg base f cdv A outer s H E) (bd 0) (J0 v0 st l c) (J1 v0 st l c) := by
  obtain ⟨T, mMax, R, mAn, mEq, ne, so, bAn, GAn, bEq, GEq, aD, GD, aPo, GPo, aPa, GPa, aWorld, GWorld, aMade, GMade, aLo, GLo, aShows, GShows, aOdd, GOdd, aEn, GEn, aSa, GSa⟩ := V
  refine ⟨_, ps_set (i := 3) scLaw.nd rfl (Or.inl rfl) (pe_call GPo (hr.mono (by decide)) rfl aPo.m aPo.k aPo.b .nil pass0 (pa_cons (pv 1) (pa_cons pe_int pa_nil))), fun D σ H' hA k => ?_⟩
  obtain ⟨x2, x3, x4, x5, x6, x7, x8, x9, x10, rfl, S, hc⟩ := hA
  exact ⟨_, rfl, st, l, c, 3, rfl, S, by omega, by decide, by decide, fun p zs H1 c1 zl nd nm hp L B S1 hc1 => k _ _ ⟨p, zs, _, _, _, _, _, _, _, _, rfl, ⟨c1, by have : (3 : Int).toNat = 3 := rfl; omega, S1⟩, hc, L, by omega, nd, nm⟩⟩
theorem step1 (V : LV P w K mg base C fa fd) (hr : Room 8 (A.deeper (envOfC "law" (defScope sLaw) s.heap.objs.size f cdv))) : Step (XL P w K mg base f cdv A outer s H E) (bd 1) (J1 v0 st l c) (J2 v0 st l c) := by
  obtain ⟨T, mMax, R, mAn, mEq, ne, so, bAn, GAn, bEq, GEq, aD, GD, aPo, GPo, aPa, GPa, aWorld, GWorld, aMade, GMade, aLo, GLo, aShows, GShows, aOdd, GOdd, aEn, GEn, aSa, GSa⟩ := V
  refine ⟨_, ps_set (i := 4) scLaw.nd rfl (Or.inl rfl) (pe_call GWorld (hr.mono (by decide)) rfl aWorld.m aWorld.k aWorld.b .nil pass0 (pa_cons (pv 1) (pa_cons (pv 3) (pa_cons pe_int pa_nil)))), fun D σ H' hA k => ?_⟩
  obtain ⟨p, zs, x2, x4, x5, x6, x7, x8, x9, x10, rfl, ⟨c1, hc1, S⟩, hc, L, zl, nd, nm⟩ := hA
  exact ⟨_, rfl, _, rfl, st, l, p, c1, zs, 8, rfl, S, by omega, L, by omega, by omega, nm, nd, by decide, fun x fs ss z H1 c2 wa g fl gs sl tz B S1 hc2 => k _ _ ⟨p, x, zs, fs, ss, z, _, _, _, _, _, _, _, rfl, ⟨c2, by omega, S1⟩, hc, L.but B, zl, nd, nm, wa, g, fl, gs, sl, tz⟩⟩
theorem step2 (V : LV P w K mg base C fa fd) (hr : Room 8 (A.deeper (envOfC "law" (defScope sLaw) s.heap.objs.size f cdv))) : Step (XL P w K mg base f cdv A outer s H E) (bd 2) (J2 v0 st l c) (J3 C v0 st l c 79 2) := by
  obtain ⟨T, mMax, R, mAn, mEq, ne, so, bAn, GAn, bEq, GEq, aD, GD, aPo, GPo, aPa, GPa, aWorld, GWorld, aMade, GMade, aLo, GLo, aShows, GShows, aOdd, GOdd, aEn, GEn, aSa, GSa⟩ := V
  refine ⟨_, ps_par (i := 5) (j := 6) (by rfl) scLaw.nd rfl rfl (by decide) rfl rfl (pa_cons (pe_call GMade (hr.mono (by decide)) rfl aMade.m aMade.k aMade.b .nil pass0 (pa_cons (pv 4) pa_nil)) (pa_cons (pe_lst (pa_cons (pe_tup (pa_cons pe_str (pa_cons pe_str pa_nil))) (pa_cons (pe_tup (pa_cons pe_str pa_nil)) pa_nil))) pa_nil)) (by rfl), fun D σ H' hA k => ?_⟩
  obtain ⟨p, x, zs, fs, ss, z, x2, x5, x6, x7, x8, x9, x10, rfl, ⟨c1, hc1, S⟩, hc, L, zl, nd, nm, wa, g, fl, gs, sl, tz⟩ := hA
  refine ⟨_, rfl, x, fs, ss, zs, z, rfl, wa, g, gs, nm, by omega, by omega, fun o H1 fs' ss' ho s1 pf ps srt srt2 wo => ?_⟩
  have T1 : Tn C st l H1 p x o zs fs fs' ss ss' z := ⟨L.but (But.same s1), zl, nd, nm, wa.same s1, g, fl, gs, sl, tz, wo, pf, ps⟩
  have S1 := S.up s1
  refine ⟨by show 2 ≤ sizeLine; decide, fun t1 ht1 => ?_⟩
  have s2 := same_mk (o := .tup [.str "list", .str ""]) ht1
  have g1 := upd_same (H := H1) (a := t1) (o := .tup [.str "list", .str ""])
  have T2 := T1.same s2
  have S2 := S1.up s2
  generalize upd H1 t1 (.tup [.str "list", .str ""]) = H2 at s2 g1 T2 S2 ⊢
  refine ⟨by show 1 ≤ sizeLine; decide, fun t2 ht2 => ?_⟩
  have s3 := same_mk (o := .tup [.str "tool"]) ht2
  have g2 := upd_same (H := H2) (a := t2) (o := .tup [.str "tool"])
  have g1 := s3 _ _ g1
  have T3 := T2.same s3
  have S3 := S2.up s3
  generalize upd H2 t2 (.tup [.str "tool"]) = H3 at s3 g1 g2 T3 S3 ⊢
  refine ⟨by show 2 ≤ sizeLine; decide, fun q hq => ?_⟩
  have s4 := same_mk (o := .lst [.ref t1, .ref t2]) hq
  have nq := S3.ne_new hq
  have pq : q ≠ p := (ne_of_none T3.lp.h hq).symm
  refine ⟨_, _, rfl, k _ _ ⟨p, x, o, q, zs, fs, fs', ss, ss', z, [.ref t1, .ref t2], _, _, _, _, _, rfl, ⟨c1, hc1, S3.up s4⟩, hc, T3.same s4, upd_same, nq.1, nq.2, pq, Nat.le_refl _, fun y hy => ?_⟩⟩
  rcases List.mem_cons.mp hy with rfl | hy
  · exact ⟨t1, .ls [], rfl, s4 _ _ g1, ⟨by simp [Nms], by decide⟩⟩
  · rw [List.mem_singleton.mp hy]
    exact ⟨t2, .tl, rfl, s4 _ _ g2, trivial⟩
end
end W

set_option maxHeartbeats 3900000
namespace W
open PySem PySem.Spec PyProof.Rows L2 TL RP
open C8 (pss_cut tCut pe_gc)
open CB
theorem LkOn.ok {zs : List Str} {k : Lk} (h : LkOn zs 3 k) (nm : ∀ z ∈ zs, IsNm z) : LkOk k := by
  cases k with
  | rd p => exact ⟨h.1, fun y hy => nm y (h.2.2 y hy), Nat.le_trans h.2.1 (by decide)⟩
  | ls p => exact ⟨fun y hy => nm y (h.2 y hy), Nat.le_trans h.1 (by decide)⟩
  | se n => exact nm n h
  | tl => trivial
/-- all stays but one list -/
def Kp (L : Addr) (H H' : Hp) : Prop := ∀ b u, H b = some u → b ≠ L → H' b = some u
theorem Strm.kp {L st l : Addr} {H H' : Hp} {c : Nat} (S : Strm H st l c) (k : Kp L H H') (n1 : L ≠ st) (n2 : L ≠ l) : Strm H' st l c := by
  obtain ⟨ns, a, m, ⟨h1, h2⟩, r⟩ := S.ex
  exact ⟨ns, a, m, ⟨k _ _ h1 n1.symm, k _ _ h2 n2.symm⟩, r⟩
theorem Tn.kp {C st l L : Addr} {H H' : Hp} {xs : List V} {p x o : Addr} {zs : List Str} {fs fs' : Fs} {ss ss' : Ss} {z : Str} (h : Tn C st l H p x o zs fs fs' ss ss' z) (k : Kp L H H') (hL : H L = some (.lst xs)) (n : L ≠ p) : Tn C st l H' p x o zs fs fs' ss ss' z := by
  have n0 : ∀ {a kvs}, H a = some (.dK kvs) → a ≠ L := fun q => ne_of q hL (by intro z; cases z)
  obtain ⟨d, e, h1, h2, h3⟩ := h.wa
  obtain ⟨dx, d', e', k1, k2, k3⟩ := h.wo
  exact ⟨⟨k _ _ h.lp.h n.symm, h.lp.n1, h.lp.n2⟩, h.zl, h.nd, h.nm, ⟨d, e, k _ _ h1 (n0 h1), k _ _ h2 (n0 h2), k _ _ h3 (n0 h3)⟩, h.g, h.fl, h.gs, h.sl, h.tz, ⟨dx, d', e', k _ _ k1 (ne_of k1 hL (by intro z; cases z)), k _ _ k2 (n0 k2), k _ _ k3 (n0 k3)⟩, h.pf, h.ps⟩
section
variable {P : Program} {w : World} {K : PySem.W.Frag} {mg : Str → Option Value} {base : Heap} {C : Addr} {fa : Str → Addr} {fd : Str → FuncData}
  {f : Addr} {cdv : Value} {A : Around} {outer : List Env} {s : Shared} {H : Hp} {E : XK} {v0 : V} {st l : Addr} {c : Nat}
theorem step3 (V : LV P w K mg base C fa fd) (hr : Room 8 (A.deeper (envOfC "law" (defScope sLaw) s.heap.objs.size f cdv))) : Step (XL P w K mg base f cdv A outer s H E) (bd 3) (J3 C v0 st l c 79 2) (J3 C v0 st l c 179 22) := by
  obtain ⟨T, mMax, R, mAn, mEq, ne, so, bAn, GAn, bEq, GEq, aD, GD, aPo, GPo, aPa, GPa, aWorld, GWorld, aMade, GMade, aLo, GLo, aShows, GShows, aOdd, GOdd, aEn, GEn, aSa, GSa⟩ := V
  refine ⟨_, ps_for PassesOwn.never rfl (pi_range1 rfl T.range (pa_cons pe_int pa_nil)) (pg_name (i := 7) scLaw.nd rfl (Or.inl rfl)) (pss_cons (ps_set (i := 8) scLaw.nd rfl (Or.inl rfl) (pe_call GLo (hr.mono (by decide)) rfl aLo.m aLo.k aLo.b .nil pass0 (pa_cons (pv 1) (pa_cons (pv 3) pa_nil))))
          (pss_one (ps_expr (pe_bm PySem.F.plainAttrs_list PySem.F.slot_list_extend PySem.F.type_list_extend mt_extend (pv 6) (pa_cons (pe_lst (pa_cons (pv 8) (pa_cons (pe_tup (pa_cons pe_str (pa_cons (pe_call GPa (hr.mono (by decide)) rfl aPa.m aPa.k aPa.b .nil pass0 (pa_cons (pv 1) (pa_cons (pv 3) (pa_cons pe_int pa_nil)))) pa_nil))) pa_nil))) pa_nil))))), fun D σ H' hA k => ?_⟩
  refine ⟨10, rfl, by decide, by decide, for_range (lo := 0) (n := 10) (fun i σ H' => J3 C v0 st l c (79 + 10 * i) (2 + 2 * i) σ H') hA ?_ (fun σ H h => k σ H h)⟩
  rintro i _ H1 hi ⟨p, x, o, L, zs, fs, fs', ss, ss', z, xs, x2, x7, x8, x9, x10, rfl, ⟨c1, hc1, S⟩, hc, T1, hL, n1, n2, n3, ln, la⟩
  refine ⟨_, rfl, _, rfl, st, l, p, c1, zs, rfl, S, by omega, T1.lp, by have := T1.zl; omega, by have := T1.zl; omega, T1.nm, fun t k1 H2 c2 on ht0 ht B S2 hc2 => ?_⟩
  have T2 := T1.but S B
  have hL2 := B _ _ hL n1 n2
  have la2 := la.but S B
  refine ⟨_, rfl, .inl ⟨rfl, _, SqL.of hL2⟩, _, rfl, _, rfl, _, rfl, st, l, p, c2, zs, 3, rfl, S2, by omega, T2.lp, by have := T2.zl; omega, by have := T2.zl; omega, T2.nm, by decide, by decide, fun ys H3 c3 y1 y3 ysub B3 S3 hc3 => ?_⟩
  have T3 := T2.but S2 B3
  have hL3 := B3 _ _ hL2 n1 n2
  have la3 := la2.but S2 B3
  have tt : LkAll H2 [.ref t] := fun y hy => by
    rw [List.mem_singleton.mp hy]
    exact ⟨t, k1, rfl, ht, on.ok T1.nm⟩
  have tt3 := tt.but S2 B3
  refine ⟨by show 2 ≤ sizeLine; decide, fun t3 h3 => ?_⟩
  have s3 := same_mk (o := .tup [.str "list", .str (js ys)]) h3
  have g3 := upd_same (H := H3) (a := t3) (o := .tup [.str "list", .str (js ys)])
  have T4 := T3.same s3
  have S4 := S3.up s3
  have la4 := (la3.same s3).app ((tt3.same s3).app (ys := [.ref t3]) fun y hy => by
    rw [List.mem_singleton.mp hy]
    exact ⟨t3, .ls ys, rfl, g3, ⟨fun y hy => T1.nm y (ysub y hy), by omega⟩⟩)
  have hL4 := s3 _ _ hL3
  generalize upd H3 t3 (.tup [.str "list", .str (js ys)]) = H4 at T4 S4 la4 hL4 ⊢
  refine ⟨by show 2 ≤ sizeLine; decide, fun r hr2 => ?_⟩
  have s5 := same_mk (o := .lst [.ref t, .ref t3]) hr2
  have g5 := upd_same (H := H4) (a := r) (o := .lst [.ref t, .ref t3])
  have T5 := T4.same s5
  have S5 := S4.up s5
  have la5 := la4.same s5
  have hL5 := s5 _ _ hL4
  generalize upd H4 r (.lst [.ref t, .ref t3]) = H5 at T5 S5 la5 hL5 g5 ⊢
  refine ⟨L, r, xs, [.ref t, .ref t3], rfl, rfl, hL5, g5, Nat.le_trans (show xs.length + 2 ≤ 100 by omega) (by decide), ?_⟩
  exact ⟨p, x, o, L, zs, fs, fs', ss, ss', z, _, _, _, _, _, _, rfl, ⟨c3, by have : (3 : Int).toNat = 3 := rfl; omega, S5.put ⟨n1, n2⟩⟩, hc, T5.put hL5 n3, upd_same, n1, n2, n3, by rw [List.length_append]; show xs.length + 2 ≤ _; omega, la5.put hL5⟩
theorem step4 (V : LV P w K mg base C fa fd) (hr : Room 8 (A.deeper (envOfC "law" (defScope sLaw) s.heap.objs.size f cdv))) : Step (XL P w K mg base f cdv A outer s H E) (bd 4) (J3 C v0 st l c 179 22) (J3 C v0 st l c 179 46) := by
  obtain ⟨T, mMax, R, mAn, mEq, ne, so, bAn, GAn, bEq, GEq, aD, GD, aPo, GPo, aPa, GPa, aWorld, GWorld, aMade, GMade, aLo, GLo, aShows, GShows, aOdd, GOdd, aEn, GEn, aSa, GSa⟩ := V
  have hu1 := Nat.lt_of_le_of_lt (Nat.add_le_add_left (show 1 ≤ 64 by decide) _) hr.units
  refine ⟨_, ps_lock (ps_for PassesOwn.never rfl (pi_keys (pe_dget hu1 (pv 4) pe_str (fun _ _ => rfl))) (pg_name (i := 9) scLaw.nd rfl (Or.inl rfl)) (pss_one (ps_expr (pe_bm PySem.F.plainAttrs_list PySem.F.slot_list_extend PySem.F.type_list_extend mt_extend (pv 6) (pa_cons (pe_lst (pa_cons (pe_tup (pa_cons pe_str (pa_cons (pv 9) pa_nil))) (pa_cons (pe_tup (pa_cons pe_str (pa_cons (pv 9) pa_nil))) (pa_cons (pe_tup (pa_cons pe_str (pa_cons (pe_slice sl_str (pv 9) po_none (po_some (pe_callB (call_max2 rfl) (by rfl) mMax (by decide +kernel) (pa_cons (pe_bm PySem.F.plainAttrs_str PySem.F.slot_str_rfind PySem.F.type_str_rfind mt_rfind (pv 9) (pa_cons pe_str pa_nil)) (pa_cons pe_int pa_nil))))) pa_nil))) pa_nil)))) pa_nil))))), fun D σ H' hA k => ?_⟩
  obtain ⟨p, x, o, L, zs, fs, fs', ss, ss', z, xs, x2, x7, x8, x9, x10, rfl, ⟨c1, hc1, S⟩, hc, T1, hL, n1, n2, n3, ln, la⟩ := hA
  obtain ⟨d, e, h1, h2, h3⟩ := id T1.wa
  have nf : ∀ e ∈ fs, Nms e.1 := fun e he y hy => T1.nm y ((T1.g.path e he).2.2 y hy)
  have at_ : ∀ {i : Nat} {k0 : L2.Key} {v : V}, (fsK fs)[i]? = some (k0, v) → ∃ e, fs[i]? = some e ∧ k0 = .inr (js e.1) := fun {i k0 v} hkv => by
    unfold fsK at hkv
    rw [List.getElem?_map] at hkv
    obtain ⟨e, he, ek⟩ := Option.map_eq_some_iff.mp hkv
    cases ek
    exact ⟨e, he, rfl⟩
  have xd : x ≠ d := fun q => by
    rw [q, h2] at h1
    have h9 : (fsK fs) = [(.inr "files", .ref d), (.inr "settings", .ref e), (.inr "tool", .str z)] := by
      injection h1 with h1
      injection h1
    have h8 := congrArg (fun l : List (L2.Key × V) => l.map (·.2)) h9
    unfold fsK at h8
    cases fs with
    | nil => cases h8
    | cons a r =>
      rw [List.map_cons, List.map_cons] at h8
      injection h8 with h8
      cases h8
  have Ld : L ≠ d := (ne_of h2 hL (by intro z; cases z)).symm
  refine ⟨d, _, h2, trivial, fun od => ⟨_, rfl, x, _, rfl, wd_f (by rw [upd_ne xd]; exact h1), d, od, rfl, .inl ⟨fsK fs, upd_same, for_it (walk_keys (kvs := fsK fs)) (fun i σ H2 => ∃ x7 x8 x9 x10 ys, σ = [some v0, some (.ref st), x2, some (.ref p), some (.ref x), some (.ref o), some (.ref L), x7, x8, x9, x10] ∧ Kp L (upd H' d (.frz od (.dK (fsK fs)))) H2 ∧ H2 L = some (.lst ys) ∧ ys.length ≤ 22 + 3 * i ∧ LkAll H2 ys)
    ⟨x7, x8, x9, x10, xs, rfl, fun b u hb _ => hb, by rw [upd_ne Ld]; exact hL, ln, ?_⟩ (fun i σ H2 _ q => by obtain ⟨_, _, _, _, _, _, q, _⟩ := q; exact q _ _ upd_same Ld.symm) ?_ ?_⟩⟩⟩
  · intro y hy
    obtain ⟨t, k1, e1, ht, hk⟩ := la y hy
    exact ⟨t, k1, e1, by rw [upd_ne (ne_of ht h2 (by intro z; cases z))]; exact ht, hk⟩
  · rintro i y _ H2 H3 hi ⟨x7, x8, x9, x10, ys, rfl, kp, hL2, l2, la2⟩ ⟨rfl, k0, v, hkv, rfl⟩
    obtain ⟨en, he, rfl⟩ := at_ hkv
    have hm := List.mem_of_getElem? he
    obtain ⟨h0, hlen, _⟩ := T1.g.path en hm
    have hn := nf en hm
    have sh := js_sh hn (by omega)
    refine ⟨_, rfl, .inl ⟨rfl, _, SqL.of hL2⟩, _, rfl, by show 2 ≤ sizeLine; decide, fun t1 ht1 => ?_⟩
    have s1 := same_mk (o := .tup [.str "read", .str (js en.1)]) ht1
    have g1 := upd_same (H := H3) (a := t1) (o := .tup [.str "read", .str (js en.1)])
    refine ⟨_, rfl, by show 2 ≤ sizeLine; decide, fun t2 ht2 => ?_⟩
    have s2 := same_mk (o := .tup [.str "list", .str (js en.1)]) ht2
    have g2 := upd_same (H := upd H3 t1 (.tup [.str "read", .str (js en.1)])) (a := t2) (o := .tup [.str "list", .str (js en.1)])
    refine ⟨_, rfl, _, rfl, rfl, js en.1, "/", rfl, rfl, _, _, rfl, _, rfl, js en.1, rfl, sh.line, ?_⟩
    rw [rfind_js hn h0]
    refine ⟨by show 2 ≤ sizeLine; decide, fun t3 ht3 => ?_⟩
    have s3 := same_mk (o := .tup [.str "list", .str (js en.1.dropLast)]) ht3
    have g3 := upd_same (H := upd (upd H3 t1 (.tup [.str "read", .str (js en.1)])) t2 (.tup [.str "list", .str (js en.1)])) (a := t3) (o := .tup [.str "list", .str (js en.1.dropLast)])
    refine ⟨by show 3 ≤ sizeLine; decide, fun r hr2 => ?_⟩
    have s4 := same_mk (o := .lst [.ref t1, .ref t2, .ref t3]) hr2
    have g4 := upd_same (H := upd (upd (upd H3 t1 (.tup [.str "read", kV (Sum.inr (js en.1))])) t2 (.tup [.str "list", kV (Sum.inr (js en.1))])) t3 (.tup [.str "list", .str (js en.1.dropLast)])) (a := r) (o := .lst [.ref t1, .ref t2, .ref t3])
    have g1 := (s2.trans (s3.trans s4)) _ _ g1
    have g2 := (s3.trans s4) _ _ g2
    have g3 := s4 _ _ g3
    have s14 := s1.trans (s2.trans (s3.trans s4))
    have hL7 := s14 _ _ hL2
    generalize upd (upd (upd (upd H3 t1 (.tup [.str "read", kV (Sum.inr (js en.1))])) t2 (.tup [.str "list", kV (Sum.inr (js en.1))])) t3 (.tup [.str "list", .str (js en.1.dropLast)])) r (.lst [.ref t1, .ref t2, .ref t3]) = H7 at s14 hL7 g1 g2 g3 g4 ⊢
    have new : LkAll H7 [.ref t1, .ref t2, .ref t3] := fun y hy => by
      simp only [List.mem_cons, List.not_mem_nil, or_false] at hy
      rcases hy with rfl | rfl | rfl
      · exact ⟨t1, .rd en.1, rfl, g1, h0, hn, by omega⟩
      · exact ⟨t2, .ls en.1, rfl, g2, hn, by omega⟩
      · exact ⟨t3, .ls en.1.dropLast, rfl, g3, fun y hy => hn y ((List.dropLast_sublist _).mem hy), by rw [List.length_dropLast]; omega⟩
    refine ⟨L, r, ys, [.ref t1, .ref t2, .ref t3], rfl, rfl, hL7, g4, Nat.le_trans (show ys.length + 3 ≤ 100 by have := hi; unfold fsK at this; rw [List.length_map] at this; have := T1.fl; omega) (by decide), ?_⟩
    refine ⟨_, _, _, _, _, rfl, fun b u hb nb => ?_, upd_same, by rw [List.length_append]; show ys.length + 3 ≤ _; omega, ((la2.same s14).app new).put hL7⟩
    rw [upd_ne nb]
    exact s14 _ _ (kp b u hb nb)
  · rintro _ H2 ⟨x7, x8, x9, x10, ys, rfl, kp, hL2, l2, la2⟩
    have fl : (fsK fs).length = fs.length := by unfold fsK; rw [List.length_map]
    rw [fl] at l2
    have f8 := T1.fl
    have hd2 := kp d _ upd_same Ld.symm
    refine ⟨hd2, ?_⟩
    have kk : Kp L H' (upd H2 d (.dK (fsK fs))) := fun b u hb nb => by
      by_cases e : b = d
      · rw [e] at hb ⊢
        rw [upd_same, ← h2]
        exact hb
      · rw [upd_ne e]
        exact kp b u (by rw [upd_ne e]; exact hb) nb
    refine k _ _ ⟨p, x, o, L, zs, fs, fs', ss, ss', z, ys, _, _, _, _, _, rfl, ⟨c1, hc1, Strm.kp S kk n1 n2⟩, hc, T1.kp kk hL n3, by rw [upd_ne Ld]; exact hL2, n1, n2, n3, by omega, fun y hy => ?_⟩
    obtain ⟨t, k1, e1, ht, hk⟩ := la2 y hy
    exact ⟨t, k1, e1, by rw [upd_ne (ne_of ht hd2 (by intro z; cases z))]; exact ht, hk⟩
end
end W

set_option maxHeartbeats 3900000
namespace W
open PySem PySem.Spec PyProof.Rows L2 TL RP
open C8 (pss_cut tCut pe_gc)
open CB
theorem LkOk.p {k : Lk} (h : LkOk k) : LkP k := by
  cases k with
  | rd p => exact ⟨h.2.1, by have := h.2.2; omega⟩
  | ls p => exact ⟨h.1, by have := h.2; omega⟩
  | se n => exact h
  | tl => trivial
def J4 (K : PySem.W.Frag) (C : Addr) (v0 : V) (st l : Addr) (c : Nat) : L2.St → Hp → Prop := fun σ H => ∃ (p x o : Addr) (zs : List Str) (fs fs' : Fs) (ss ss' : Ss) (z : Str) (y : V) (x2 x6 x7 x8 x9 : Option V), σ = [some v0, some (.ref st), x2, some (.ref p), some (.ref x), some (.ref o), x6, x7, x8, x9, some y] ∧ (∃ c' ≤ c + 226, Strm H st l c') ∧ c ≤ 5000 ∧
  Tn C st l H p x o zs fs fs' ss ss' z ∧ OddT K st l H y
def JE (v0 : V) (st l : Addr) (c : Nat) : L2.St → Hp → Prop := fun σ H => ∃ x2 x3 x4 x5 x6 x7 x8 x9 x10, σ = [some v0, some (.ref st), x2, x3, x4, x5, x6, x7, x8, x9, x10] ∧ ∃ c' ≤ c + 226, Strm H st l c'
section
variable {P : Program} {w : World} {K : PySem.W.Frag} {mg : Str → Option Value} {base : Heap} {C : Addr} {fa : Str → Addr} {fd : Str → FuncData}
  {f : Addr} {cdv : Value} {A : Around} {outer : List Env} {s : Shared} {H : Hp} {E : XK} {v0 : V} {st l : Addr} {c : Nat}
theorem step5 (V : LV P w K mg base C fa fd) (hg : A.guards = some []) (hr : Room 8 (A.deeper (envOfC "law" (defScope sLaw) s.heap.objs.size f cdv))) : Step (XL P w K mg base f cdv A outer s H E) (bd 5) (J3 C v0 st l c 179 46) (J3 C v0 st l c 225 46) := by
  obtain ⟨T, mMax, R, mAn, mEq, ne, so, bAn, GAn, bEq, GEq, aD, GD, aPo, GPo, aPa, GPa, aWorld, GWorld, aMade, GMade, aLo, GLo, aShows, GShows, aOdd, GOdd, aEn, GEn, aSa, GSa⟩ := V
  refine ⟨_, ps_for PassesOwn.never rfl (pi_list (pv 6)) (pg_name (i := 8) scLaw.nd rfl (Or.inl rfl)) (pss_cut (ps_set (i := 10) scLaw.nd rfl (Or.inl rfl) (pe_ifExp (pt_cmpR op_eq (pe_call GD (hr.mono (by decide)) rfl aD.m aD.k aD.b .nil pass0 (pa_cons (pv 1) (pa_cons pe_int pa_nil))) pe_int (nomark _)) (pe_callTy call_list_of (by rfl) T.list (by decide +kernel) (pa_cons (pv 8) pa_nil)) (pv 8)))
        (pss_one (ps_if (pt_not (pt_val (pe_callG GSa hg (hr.mono (by decide)) rfl aSa.m aSa.k aSa.b pass0 (pa_cons (pe_meth (pv 5) R.cl mAn GAn (hr.mono (by decide)) bAn .nil pass0 (pa_cons (pv 10) pa_nil)) (pa_cons (pe_call GShows (hr.mono (by decide)) rfl aShows.m aShows.k aShows.b .nil pass0 (pa_cons (pv 4) (pa_cons (pv 8) pa_nil))) pa_nil))))) (pss_one (ps_ret pe_bl)) (pss_nil)))), fun D σ H' hA k => ?_⟩
  obtain ⟨p, x, o, L, zs, fs, fs', ss, ss', z, xs, x2, x7, x8, x9, x10, rfl, ⟨c1, hc1, S⟩, hc, T1, hL, n1, n2, n3, ln, la⟩ := hA
  refine ⟨_, rfl, L, rfl, ⟨_, SqL.of hL⟩, for_it (walk_list (K := K) (a := L) (xs := xs)) (fun i σ H2 => ∃ x8 x10 c2, σ = [some v0, some (.ref st), x2, some (.ref p), some (.ref x), some (.ref o), some (.ref L), x7, x8, x9, x10] ∧ Tn C st l H2 p x o zs fs fs' ss ss' z ∧ H2 L = some (.lst xs) ∧ LkAll H2 xs ∧ Strm H2 st l c2 ∧ c2 ≤ c1 + i)
    ⟨x8, x10, c1, rfl, T1, hL, la, S, Nat.le_refl _⟩ (fun i σ H2 _ q => by obtain ⟨_, _, _, _, _, q, _⟩ := q; exact SqL.of q) ?_ ?_⟩
  · rintro i y _ H2 H3 hi ⟨x8, x10, c2, rfl, T2, hL2, la2, S2, hc2⟩ ⟨rfl, hx⟩
    obtain ⟨t, k1, rfl, ht, hk⟩ := la2 y (List.mem_of_getElem? hx)
    have ht0 := ht
    refine ⟨fun σ H5 => ∃ q, σ = [some v0, some (.ref st), x2, some (.ref p), some (.ref x), some (.ref o), some (.ref L), x7, some (.ref t), x9, some q] ∧ RowAt H5 q (lkV k1) ∧ H5 t = some (.tup (lkV k1)) ∧ Tn C st l H5 p x o zs fs fs' ss ss' z ∧ H5 L = some (.lst xs) ∧ LkAll H5 xs ∧ Strm H5 st l (c2 + 1), ?_, ?_⟩
    · refine ⟨_, rfl, st, l, c2, 2, rfl, S2, by omega, by decide, by decide, fun n H4 m0 m1 B4 S4 => ⟨rfl, _, rfl, ?_⟩⟩
      have T4 := T2.but S2 B4
      have hL4 := B4 _ _ hL2 n1 n2
      have la4 := la2.but S2 B4
      have ht4 : H4 t = some (.tup (lkV k1)) := by
        obtain ⟨ns, a, m, ⟨g1, g2⟩, _⟩ := id S2.ex
        exact B4 _ _ ht (ne_of ht g1 (by intro z; cases z)) (ne_of ht g2 (by intro z; cases z))
      refine ite2 (fun _ => ?_) (fun _ => ?_)
      · refine ⟨_, rfl, t, _, rfl, .inr (SqT.of ht4), fun q hq => ?_⟩
        have s5 := same_mk (o := .lst (lkV k1)) hq
        exact ⟨.ref q, rfl, ⟨q, rfl, .inr upd_same⟩, s5 _ _ ht4, T4.same s5, s5 _ _ hL4, la4.same s5, S4.up s5⟩
      · exact ⟨_, rfl, .ref t, rfl, ⟨t, rfl, .inl ht4⟩, ht4, T4, hL4, la4, S4⟩
    · rintro _ H5 ⟨q, rfl, rq, ht5, T5, hL5, la5, S5⟩
      obtain ⟨dx, a1, a2, g1, g2, g3⟩ := id T5.wo
      refine ⟨_, rfl, o, dx, _, rfl, g1, lk_an _ _ _, _, rfl, o, q, zs, fs', ss', z, k1, rfl, T5.wo, rq, hk, T5.g.perm T5.pf, T5.nm, by have := T5.fl; rw [T5.pf.length_eq]; omega, fun v H6 s6 an => ?_⟩
      refine ⟨_, rfl, _, rfl, x, t, zs, fs, ss, z, k1, rfl, T5.wa.same s6, s6 _ _ ht5, hk.p, T5.g, T5.nm, by have := T5.fl; omega, fun u H7 s7 an2 => ?_⟩
      obtain ⟨d, q1, q2, fi⟩ := ans_eq (K := K) an an2 T5.g T5.gs T5.nm T5.pf T5.ps (by have := T5.fl; omega) T5.tz
      have s67 := s6.trans s7
      exact ⟨v, u, d, rfl, q1.up s7, q2, fi, _, rfl, iteF ⟨_, _, c2 + 1, rfl, T5.same s67, s67 _ _ hL5, la5.same s67, S5.up s67, by omega⟩⟩
  · rintro _ H2 ⟨x8, x10, c2, rfl, T2, hL2, la2, S2, hc2⟩
    exact k _ _ ⟨p, x, o, L, zs, fs, fs', ss, ss', z, xs, _, _, _, _, _, rfl, ⟨c2, by omega, S2⟩, hc, T2, hL2, n1, n2, n3, ln, la2⟩
theorem step6 (V : LV P w K mg base C fa fd) (hr : Room 8 (A.deeper (envOfC "law" (defScope sLaw) s.heap.objs.size f cdv))) : Step (XL P w K mg base f cdv A outer s H E) (bd 6) (J3 C v0 st l c 225 46) (J4 K C v0 st l c) := by
  obtain ⟨T, mMax, R, mAn, mEq, ne, so, bAn, GAn, bEq, GEq, aD, GD, aPo, GPo, aPa, GPa, aWorld, GWorld, aMade, GMade, aLo, GLo, aShows, GShows, aOdd, GOdd, aEn, GEn, aSa, GSa⟩ := V
  refine ⟨_, ps_set (i := 10) scLaw.nd rfl (Or.inl rfl) (pe_call GOdd (hr.mono (by decide)) rfl aOdd.m aOdd.k aOdd.b .nil pass0 (pa_cons (pv 1) (pa_cons (pv 3) pa_nil))), fun D σ H' hA k => ?_⟩
  obtain ⟨p, x, o, L, zs, fs, fs', ss, ss', z, xs, x2, x7, x8, x9, x10, rfl, ⟨c1, hc1, S⟩, hc, T1, hL, n1, n2, n3, ln, la⟩ := hA
  exact ⟨_, rfl, _, rfl, st, l, p, c1, zs, rfl, S, by omega, T1.lp, by have := T1.zl; omega, by have := T1.zl; omega, T1.nm, fun y H1 oy B S1 => k _ _ ⟨p, x, o, zs, fs, fs', ss, ss', z, y, _, _, _, _, _, rfl, ⟨c1 + 1, by omega, S1⟩, hc, T1.but S B, oy⟩⟩
theorem step7 (V : LV P w K mg base C fa fd) (hg : A.guards = some []) (hr : Room 8 (A.deeper (envOfC "law" (defScope sLaw) s.heap.objs.size f cdv))) : Step (XL P w K mg base f cdv A outer s H E) (bd 7) (J4 K C v0 st l c) (JE v0 st l c) := by
  obtain ⟨T, mMax, R, mAn, mEq, ne, so, bAn, GAn, bEq, GEq, aD, GD, aPo, GPo, aPa, GPa, aWorld, GWorld, aMade, GMade, aLo, GLo, aShows, GShows, aOdd, GOdd, aEn, GEn, aSa, GSa⟩ := V
  have hu2 := Nat.lt_of_le_of_lt (Nat.add_le_add_left (show 1 ≤ 64 by decide) _) hr.units
  have hu2 := Nat.lt_of_le_of_lt (Nat.add_le_add_left (show 1 ≤ 64 by decide) _) hr.units
  refine ⟨_, ps_if (PW.pt (pw_or (pt_not (pt_val (pe_callG GSa hg (hr.mono (by decide)) rfl aSa.m aSa.k aSa.b pass0 (pa_cons (pe_call GEn (hr.mono (by decide)) rfl aEn.m aEn.k aEn.b .nil pass0 (pa_cons (pv 5) (pa_cons (pv 10) pa_nil))) (pa_cons (pe_tup (pa_cons pe_str (pa_cons (pv 10) pa_nil))) pa_nil))))) (pw_or1 (pt_cmpR (OW.op_neO GEq (hr.mono (by decide)) hu2 bEq pass0 mEq ne so) (pv 5) (pe_call GMade (hr.mono (by decide)) rfl aMade.m aMade.k aMade.b .nil pass0 (pa_cons (pv 4) pa_nil)) (nomark _))))) (pss_one (ps_ret pe_bl)) (pss_nil), fun D σ H' hA k => ?_⟩
  obtain ⟨p, x, o, zs, fs, fs', ss, ss', z, y, x2, x6, x7, x8, x9, rfl, ⟨c1, hc1, S⟩, hc, T1, oy⟩ := hA
  obtain ⟨d0, f0, ol, _⟩ := oy.got
  refine ⟨_, rfl, _, rfl, o, y, fs', ss', z, rfl, T1.wo, ol, fun p1 H1 s1 hp1 => ⟨_, rfl, by show 2 ≤ sizeLine; decide, fun t ht => ?_⟩⟩
  have s2 := same_mk (o := .tup [.str "look", y]) ht
  have hp2 := s2 _ _ hp1
  have ht2 := upd_same (H := H1) (a := t) (o := .tup [.str "look", y])
  have s12 := s1.trans s2
  generalize upd H1 t (.tup [.str "look", y]) = H2 at hp2 ht2 s12 ⊢
  obtain ⟨d, fd, _, dq⟩ := (oy.but (But.same s12)).got
  have T2 := T1.same s12
  have S2 := S.up s12
  have fi : Fine (.tuple [.str "look", d]) 20 100000 := (Fine.pair (dep := 2) (n := 300) ⟨by decide +kernel, by decide +kernel, by decide +kernel⟩ fd).up (by decide) (by decide)
  refine ⟨_, _, _, rfl, .tup hp2 (.cons (.str _) (.cons dq .nil)), .tup ht2 (.cons (.str _) (.cons dq .nil)), fi, _, rfl, iteF ?_⟩
  refine ⟨_, rfl, _, rfl, x, fs, ss, zs, z, rfl, T2.wa, T2.g, T2.gs, T2.nm, by have := T2.fl; omega, by have := T2.sl; omega, fun o2 H3 fs2 ss2 ho2 s3 pf2 ps2 srt srt2 wo2 => ?_⟩
  have T3 := T2.same s3
  obtain ⟨dx, a1, a2, h1, h2, h3⟩ := id T3.wo
  obtain ⟨dy, b1, b2, k1, k2, k3⟩ := id wo2
  refine ⟨o, o2, dx, dy, _, _, rfl, rfl, h1, k1, o, o2, fs', fs2, ss', ss2, zs, z, rfl, T3.wo, wo2, T3.pf.trans pf2.symm, T3.ps.trans ps2.symm, T3.g.perm T3.pf, T3.gs.perm T3.ps, T3.nm, true, rfl, ?_⟩
  exact ⟨_, rfl, iteF (k _ _ ⟨_, _, _, _, _, _, _, _, _, rfl, c1, by omega, S2.up s3⟩)⟩
end
end W

set_option maxHeartbeats 3900000
namespace W
open PySem PySem.Spec PyProof.Rows L2 TL RP
open C8 (pss_cut tCut pe_gc)
open CB
def spLaw (K : PySem.W.Frag) : Sp := fun vs H Q _ => ∃ (a : Addr) (ns : List Int), vs = [.ref a] ∧ ns.length ≤ 63 ∧ SqL K H a (ns.map V.int) ∧ ∀ H', Q (.bl true) H'
section
variable {P : Program} {w : World} {K : PySem.W.Frag} {mg : Str → Option Value} {base : Heap} {C : Addr} {fa : Str → Addr} {fd : Str → FuncData}
theorem turn {f : Addr} {cdv : Value} {A : Around} {outer : List Env} {s : Shared} {H : Hp} {E : XK} (V : LV P w K mg base C fa fd) (hg : A.guards = some []) (hr : Room 8 (A.deeper (envOfC "law" (defScope sLaw) s.heap.objs.size f cdv))) (v0 : L2.V) (st l : Addr) (c : Nat) :
    Steps (XL P w K mg base f cdv A outer s H E) (forBody ((defBody sLaw).getD 1 (.Pass ⟨0, 0, 0, 0⟩))) (J0 v0 st l c) (JE v0 st l c) :=
  steps_cons (step0 V hr) (steps_cons (step1 V hr) (steps_cons (step2 V hr) (steps_cons (step3 V hr) (steps_cons (step4 V hr) (steps_cons (step5 V hg hr) (steps_cons (step6 V hr) (steps_one (step7 V hg hr))))))))
theorem ok_law {f : Addr} {fdl : FuncData} (F : Fun K "law" "law" sLaw f fdl) (VV : LV P w K mg base C fa fd) : FnG P w K mg base CX0 9 f fdl ["_law_script"] (spLaw K) := by
  refine okG F scLaw (fun vs H Q E h => ?_) (fun cdv A outer s H vs Q E hg hr h => ?_)
  · obtain ⟨a, ns, rfl, _⟩ := h
    rfl
  · have V0 := VV
    have T := VV.T
    obtain ⟨a, ns, rfl, hl, hS, fin⟩ := h
    refine ⟨_, pss_cut (ps_set (i := 1) scLaw.nd rfl (Or.inl rfl) (pe_lst (pa_cons (pe_callTy call_list_of (by rfl) T.list (by decide +kernel) (pa_cons (pv 0) pa_nil)) (pa_cons pe_int (pa_cons pe_int (pa_cons pe_int pa_nil))))))
      (pss_cut (ps_for PassesOwn.never rfl (pi_range1 rfl T.range (pa_cons pe_int pa_nil)) (pg_name (i := 2) scLaw.nd rfl (Or.inl rfl)) (psW (ss := forBody ((defBody sLaw).getD 1 (.Pass ⟨0, 0, 0, 0⟩)))))
      (pss_one (ps_ret pe_bl))), ?_⟩
    refine ⟨fun σ H' => ∃ st l, σ = [some (.ref a), some (.ref st), none, none, none, none, none, none, none, none, none] ∧ Strm H' st l 0,
      ⟨_, rfl, a, _, rfl, .inl hS, fun l hl0 => ⟨by show 4 ≤ sizeLine; decide, fun st hst => ⟨st, l, rfl, ?_⟩⟩⟩, ?_⟩
    · have e : upd (upd H l (.lst (ns.map V.int))) st (.lst [.ref l, .int 0, .int 0, .int 0]) l = some (.lst (ns.map V.int)) := same_mk hst _ _ upd_same
      exact ⟨ns, 0, 0, ⟨upd_same, e⟩, hl, by decide, by decide, by decide⟩
    rintro _ H0 ⟨st, l, rfl, S0⟩
    refine ⟨fun _ _ => True, ?_, ?_⟩
    · refine ⟨8, rfl, by decide, by decide, for_range (lo := 0) (n := 8) (fun i σ H' => ∃ x2 x3 x4 x5 x6 x7 x8 x9 x10 c, σ = [some (.ref a), some (.ref st), x2, x3, x4, x5, x6, x7, x8, x9, x10] ∧ Strm H' st l c ∧ c ≤ 226 * i)
        ⟨none, none, none, none, none, none, none, none, none, 0, rfl, S0, Nat.le_refl _⟩ ?_ (fun _ _ _ => trivial)⟩
      rintro i _ H1 hi ⟨x2, x3, x4, x5, x6, x7, x8, x9, x10, c, rfl, S1, hc⟩
      refine Steps.wish (turn V0 hg hr (.ref a) st l c) ⟨_, _, _, _, _, _, _, _, _, rfl, S1, by omega⟩ ?_
      rintro σ' H' ⟨y2, y3, y4, y5, y6, y7, y8, y9, y10, rfl, c', hc', S'⟩
      exact ⟨_, _, _, _, _, _, _, _, _, c', rfl, S', by omega⟩
    · rintro σ H1 _
      exact fin _
end
end W

set_option maxHeartbeats 3900000
/-! The end of a law whose defs are called where no repr is under way; tables of code objects. -/
namespace EG
open PySem PySem.Spec PyProof.Rows L2 LamX RP
section
variable {P : Program} {w : World} {K : PySem.W.Frag} {tabs : List Addr} {a : Addr} {ob : Obj} {xs : List V}
/-- tracked at the start: the empty tables, and the script where the written part does not hold it -/
def track (K : PySem.W.Frag) (tabs : List Addr) (a : Addr) (ob : Obj) (xs : List V) : Hp := fun b =>
  if b ∈ tabs then some (.tbl #[]) else if b = a ∧ K.lookup a = none then some (.frz ob (.lst xs)) else none
theorem track_cases (b : Addr) : (b ∈ tabs ∧ track K tabs a ob xs b = some (.tbl #[])) ∨ (b ∉ tabs ∧ b = a ∧ K.lookup a = none ∧ track K tabs a ob xs b = some (.frz ob (.lst xs))) ∨
    (b ∉ tabs ∧ (b = a → K.lookup a ≠ none) ∧ track K tabs a ob xs b = none) := by
  unfold track
  by_cases h1 : b ∈ tabs
  · exact .inl ⟨h1, if_pos h1⟩
  · by_cases h2 : b = a ∧ K.lookup a = none
    · exact .inr (.inl ⟨h1, h2.1, h2.2, by rw [if_neg h1, if_pos h2]⟩)
    · exact .inr (.inr ⟨h1, fun e z => h2 ⟨e, z⟩, by rw [if_neg h1, if_neg h2]⟩)
end
theorem end_call {P : Program} {w : World} {K : PySem.W.Frag} {mg mb : Str → Option Value} {k : Nat} {fa a : Addr} {cs : List (Addr × Addr)} {fd : FuncData} {x : Str} {sp : Sp} {s : Shared} {us : List Value} {ns : List Int}
    (kin : K.In s.heap) (gn : s.heap.Ns mainGlobals mg) (bn : s.heap.Ns builtinsNs mb) (bb : ∀ y : Str, y ≠ "__name__" → mb y = bootBuiltins y) (nl : s.heap.NoLimit) (ng : s.gens = #[])
    (tE : ∀ p ∈ cs, s.heap.get? p.2 = some { cls := .none, data := .fields #[] }) (tK : ∀ p ∈ cs, K.lookup p.2 = none) (tC : ∀ p ∈ cs, PySem.W.CodeHd s.heap p.1 p.2)
    (sys : ∃ (o : Obj) (es : Array DictEntry) (n : Nat), s.heap.get? sysModules = some o ∧ o.data = .dict es n)
    (mod : ∃ (m : Addr) (o : Obj), mg "__builtins__" = some (.ref m) ∧ m ≠ builtinsNs ∧ s.heap.get? m = some o ∧ o.cls = .type "module" ∧ o.dict = some builtinsNs ∧ o.data = .plain)
    (ia : s.heap.get? a = some { cls := .type "list", data := .seq us.toArray }) (ii : IntsAre us ns) (il : ns.length ≤ sizeLine) (room : Room k callerA)
    (F : ∀ base : Heap, K.In base → base.Ns mainGlobals mg → (∀ p ∈ cs, TabB base mg p.1 p.2) → (base.get? sysModules).isSome = true → FnG P w K mg base CX0 k fa fd [x] sp) (hb : ∀ (t : Shared) (u : Value), BindsTo t fd ⟨[u], []⟩ [(x, u)])
    (hsp : ∀ H : Hp, (∀ p ∈ cs, H p.2 = some (.tbl #[])) → SqL K H a (ns.map V.int) → sp [.ref a] H (fun v _ => v = .bl true) fun _ _ _ => False) :
    codeAny (model P w) callerA (.call (.ref fa) ⟨[.ref a], []⟩) (fun r t => r = .ok (.ret (.bool true)) ∧ OldK s.heap t.heap ∧ t.os = s.os ∧ AllBare t.gens) s := by
  have rv := vals_ints ii
  have tE' : ∀ b ∈ cs.map (·.2), s.heap.get? b = some { cls := .none, data := .fields #[] } := fun b hb => by
    obtain ⟨p, hp, rfl⟩ := List.mem_map.mp hb
    exact tE p hp
  generalize hob : ({ cls := .type "list", data := .seq us.toArray } : Obj) = ob at ia
  have na : a ∉ cs.map (·.2) := fun z => by
    have q := (tE' a z).symm.trans ia
    rw [← hob] at q
    cases q
  generalize hH : track K (cs.map (·.2)) a ob (ns.map V.int) = H
  have tc := fun b => track_cases (K := K) (tabs := cs.map (·.2)) (a := a) (ob := ob) (xs := ns.map V.int) b
  rw [hH] at tc
  -- what the heap holds is as tracked
  have ok : HOk P w H s.heap := fun b o e => by
    rcases tc b with ⟨h1, h2⟩ | ⟨h1, h2, h3, h4⟩ | ⟨_, _, h4⟩
    · rw [h2] at e
      cases e
      exact tE' b h1
    · rw [h4] at e
      cases e
      subst h2
      exact ⟨ia, by rw [List.length_map]; exact il, us, _, rv, ia.trans (congrArg some hob.symm)⟩
    · rw [h4] at e
      cases e
  -- other objects are not tracked
  have free : ∀ {b : Addr} {o : Obj}, s.heap.get? b = some o → o ≠ ob → o.data ≠ .fields #[] → H b = none := fun {b o} e d1 d2 => by
    rcases tc b with ⟨h1, _⟩ | ⟨_, h2, _, _⟩ | ⟨_, _, h4⟩
    · rw [tE' b h1] at e
      cases e
      exact (d2 rfl).elim
    · rw [h2, ia] at e
      exact (d1 (Option.some.inj e).symm).elim
    · exact h4
  have down : ∀ {b : Addr} {o : Obj}, s.heap.get? b = some o → o ≠ ob → o.data ≠ .fields #[] → (hidT s.heap H).get? b = some o := fun e d1 d2 => hidT_get e (free e d1 d2)
  have dict : ∀ {b : Addr} {m : Str → Option Value}, s.heap.Ns b m → (hidT s.heap H).Ns b m := fun {b m} ⟨o, es, ep, e, d, r⟩ =>
    ⟨o, es, ep, down e (fun z => by rw [z, ← hob] at d; cases d) (fun z => by rw [d] at z; cases z), d, r⟩
  have kB : K.In (hidT s.heap H) := fun b o e => hidT_get (kin b o e) (by
    rcases tc b with ⟨h1, _⟩ | ⟨_, h2, h3, _⟩ | ⟨_, _, h4⟩
    · obtain ⟨p, hp, rfl⟩ := List.mem_map.mp h1
      rw [tK p hp] at e
      cases e
    · rw [h2, h3] at e
      cases e
    · exact h4)
  have tabB : ∀ p ∈ cs, TabB (hidT s.heap H) mg p.1 p.2 := fun p hp => by
    obtain ⟨m, o, m1, m2, m3, m4, m5, m6⟩ := mod
    have dm : m ≠ mainGlobals := fun z => by
      obtain ⟨o', es, ep, e, d, _⟩ := gn
      rw [z, e] at m3
      cases m3
      rw [d] at m6
      cases m6
    have dp : m ≠ p.2 := fun z => by
      rw [z, tE p hp] at m3
      cases m3
      cases m6
    obtain ⟨oc, vs, file, tf, fl, tg, inF, tx, tt, c1, c2, c3, c4, cr⟩ := tC p hp
    have cne : oc ≠ ob := fun z => by
      rw [z, ← hob] at c3
      cases c3
    have cnf : oc.data ≠ .fields #[] := fun z => by
      rw [c3] at z
      cases z
      simp at c4
    have mne : o ≠ ob := fun z => by
      rw [z, ← hob] at m6
      cases m6
    have mnf : o.data ≠ .fields #[] := fun z => by
      rw [m6] at z
      cases z
    refine ⟨⟨oc, vs, file, tf, fl, tg, inF, tx, tt, down c1 cne cnf, c2, c3, c4, cr⟩, ⟨m, o, m1, m2, dm, dp, down m3 mne mnf, m4, m5, m6⟩, fun z => ?_⟩
    obtain ⟨o', es, ep, e, d, _⟩ := gn
    rw [z, tE p hp] at e
    cases e
    cases d
  have sysB : ((hidT s.heap H).get? sysModules).isSome = true := by
    obtain ⟨o, es, n, h1, h2⟩ := sys
    have q := down h1 (fun z => by rw [z, ← hob] at h2; cases h2) (fun z => by rw [h2] at z; cases z)
    rw [q]
    rfl
  have e0 : Env0 P w K mg (hidT s.heap H) callerA [] s H :=
    ⟨rfl, ⟨kB, dict gn, ⟨mb, dict bn, bb⟩, let ⟨mc, l1, l2⟩ := nl; ⟨mc, dict l1, l2⟩⟩, fun b o e => of_hidT e, Nat.le_of_eq (hidT_size _ _), trivial, fun b z => absurd (show b ∈ ([] : List Addr) from z) (by simp), ok, .of_eq ng⟩
  have seq : SqL K H a (ns.map V.int) := by
    rcases tc a with ⟨h1, _⟩ | ⟨_, _, _, h4⟩ | ⟨_, h3, _⟩
    · exact (na h1).elim
    · exact .inl (.inr ⟨ob, h4⟩)
    · cases q : K.lookup a with
      | none => exact (h3 rfl q).elim
      | some o =>
        have z := kin a o q
        rw [ia] at z
        cases z
        rw [← hob] at q
        exact .inr ⟨_, us.toArray, _, q, rfl, rfl, rfl, by rw [List.size_toArray, ii.length]; exact il, by simpa using rv⟩
  have tabs : ∀ p ∈ cs, H p.2 = some (.tbl #[]) := fun p hp => by
    have hm : p.2 ∈ cs.map (·.2) := List.mem_map.mpr ⟨p, hp, rfl⟩
    rcases tc p.2 with ⟨_, h2⟩ | ⟨h1, _⟩ | ⟨h1, _⟩
    · exact h2
    · exact (h1 hm).elim
    · exact (h1 hm).elim
  refine codeAny_mono ((F _ kB (dict gn) tabB sysB).run callerA [] s H ⟨[.ref a], []⟩ [.ref a] [.ref a] _ _ rfl room e0 (hb s (.ref a)) (.cons rfl .nil) (hsp H tabs seq)) fun r t h => ?_
  cases r with
  | error e => exact (show False from h).elim
  | ok fl =>
    cases fl with
    | next => exact False.elim h
    | brk => exact False.elim h
    | cont => exact False.elim h
    | ret u =>
      obtain ⟨v, H', os, bare, un, ok', r', q⟩ := h
      have q' : v = .bl true := q
      subst q'
      obtain rfl : u = Value.bool true := r'
      have old : ∀ b o, b ∉ cs.map (·.2) → s.heap.get? b = some o → t.heap.get? b = some o := fun b o nb e => by
        rcases tc b with ⟨h1, _⟩ | ⟨_, h2, h3, h4⟩ | ⟨_, _, h4⟩
        · exact (nb h1).elim
        · have z := un.frzs b _ _ h4
          obtain ⟨e2, _⟩ := ok' b _ z
          rw [h2, ia] at e
          cases e
          exact e2
        · exact un.keep b o e h4 (fun z => absurd (show b ∈ ([] : List Addr) from z) (by simp)) (by simp)
      have more : ∀ p ∈ cs, ∃ m : Array Value, t.heap.get? p.2 = some { cls := .none, data := .fields m } := fun p hp => by
        obtain ⟨m, z⟩ := un.tbls p.2 #[] (tabs p hp)
        exact ⟨_, ok' p.2 _ z⟩
      refine ⟨rfl, ⟨fun b o e => ?_, fun b o e => ?_⟩, os, bare⟩
      · by_cases z : b ∈ cs.map (·.2)
        · obtain ⟨p, hp, rfl⟩ := List.mem_map.mp z
          obtain ⟨m, hm⟩ := more p hp
          rw [tE p hp] at e
          cases e
          exact .inr (.inl ⟨((tC p hp).tab (tE p hp)).isCodeTable, rfl, #[], m, rfl, by rw [Array.empty_append]; exact hm⟩)
        · exact .inl (old b o z e)
      · by_cases z : b ∈ cs.map (·.2)
        · obtain ⟨p, hp, rfl⟩ := List.mem_map.mp z
          obtain ⟨m, hm⟩ := more p hp
          exact ⟨_, hm⟩
        · exact ⟨o, old b o z e⟩
/-- a law: F gives the written part, the tables, the function object, the promise over every base -/
theorem walkG {l : PySem.W.OpenLaw} {n k : Nat} {q : Program} {loose : List Str} {XP : (Str → Option Value) → Heap → Prop} {YP : World → Heap → Prop} {d : DefRec} {x : Str}
    (hn : l.most = some n) (hn2 : n ≤ sizeLine) (hdf : d.params.defaults = []) (room : Room k callerA)
    (F : ∀ (w : World) (mg : Str → Option Value) (fa : Addr) (h : Heap), YP w h → h.Ns mainGlobals mg → mg d.name = some (.ref fa) →
      ∃ (K : PySem.W.Frag) (cs : List (Addr × Addr)) (fd : FuncData) (sp : Sp), K.In h ∧ (∀ p ∈ cs, h.get? p.2 = some { cls := .none, data := .fields #[] }) ∧ (∀ p ∈ cs, K.lookup p.2 = none) ∧ (∀ p ∈ cs, PySem.W.CodeHd h p.1 p.2) ∧ (∃ (o : Obj) (es : Array DictEntry) (n : Nat), h.get? sysModules = some o ∧ o.data = .dict es n) ∧
        (∀ (s : Shared) (u : Value), BindsTo s fd ⟨[u], []⟩ [(x, u)]) ∧
        (∀ (H : Hp) (a : Addr) (ns : List Int), ns.length ≤ n → (∀ z ∈ ns, Builtin.Int.intBits z ≤ 1048576) → (∀ p ∈ cs, H p.2 = some (.tbl #[])) → SqL K H a (ns.map V.int) → sp [.ref a] H (fun v _ => v = .bl true) fun _ _ _ => False) ∧
        ∀ base : Heap, K.In base → base.Ns mainGlobals mg → (∀ p ∈ cs, TabB base mg p.1 p.2) → (base.get? sysModules).isSome = true → FnG l.prog w K mg base CX0 k fa fd [x] sp) :
    PySem.W.WalkO q loose XP YP l.row.toRowW d [] (fun f vs => PySem.call f vs) := by
  refine Att.attach_callB hn hdf fun w s₀ s mg mb fa o pm cd doc a vs ns G Y ho hd hcd hmg hobj hints hlen hbits hg => ?_
  obtain ⟨K, cs, fd, sp, KX, h1, h2, h3, h4, hb, hsp, hF⟩ := F w mg fa _ Y G.T.g hmg
  exact end_call KX G.T.g G.T.b G.T.builtins G.T.nolimit hg h1 h2 h3 h4 G.T.bmain hobj hints (Nat.le_trans hlen hn2) room hF hb fun H => hsp H a ns hlen hbits
end EG

set_option maxHeartbeats 0
namespace W
open PySem PySem.Spec PyProof.Rows L2 EG RP
def oexB (K : PySem.W.Frag) (C : Addr) : Bool := match K.lookup C with
  | some ⟨.type t, _, .cls cd, sl⟩ => decide (t = "type") && ((match cd.mro with
      | .ref C' :: bm => decide (C' = C) && PySem.HandSPX.refsVE bm
      | _ => false) && (cd.hasDict && (!cd.hasDel && (match sl.toList with
      | [_, _, _, _, some (.builtin n), _] => decide (n = "ValueError.__new__")
      | _ => false))))
  | _ => false
theorem oexB_ok {K : PySem.W.Frag} {C : Addr} (h : oexB K C = true) : ∃ nm q N bs bm sn sub ab col dd k0 k1 k2 k3 k5, K.lookup C = some (excClassObj nm q C N bs bm true sn sub ab col dd k0 k1 k2 k3 k5 "ValueError.__new__") ∧ PySem.HandSPX.refsVE bm = true := by
  unfold oexB at h
  split at h
  · rename_i t dd cd sl ho
    obtain ⟨h1, h⟩ := He.ba h
    obtain ⟨h2, h⟩ := He.ba h
    obtain ⟨h3, h⟩ := He.ba h
    obtain ⟨h4, h5⟩ := He.ba h
    split at h2
    · rename_i C' bm hm
      split at h5
      · rename_i k0 k1 k2 k3 n k5 hs
        obtain ⟨h6, h7⟩ := He.ba h2
        have e1 : t = "type" := of_decide_eq_true h1
        have e2 : C' = C := of_decide_eq_true h6
        have e3 : n = "ValueError.__new__" := of_decide_eq_true h5
        have e4 : sl = #[k0, k1, k2, k3, some (.builtin n), k5] := by
          have := congrArg List.toArray hs
          simpa using this
        obtain ⟨nm, bs, mro, ns, qn, hd, sn, sub, ab, col, del⟩ := cd
        dsimp only at hm h3 h4
        have e5 : del = false := by simpa using h4
        rw [e1, e4, hm, h3, e5, e2, e3] at ho
        exact ⟨nm, qn, ns, bs, bm, sn, sub, ab, col, dd, k0, k1, k2, k3, k5, ho, h7⟩
      · cases h5
    · cases h2
  · cases h
def eqV (a b : Option (Option Value)) : Bool := decide (a = b)
def wrldB (K : PySem.W.Frag) (C : Addr) : Bool :=
  eqV (PySem.W.findIn K (.ref C) "__class__") (some (some (.builtin "object.__class__"))) && (decide (PySem.W.specialIn K (.builtin "object.__class__") "__get__" = some (some (.builtin "getset_descriptor.__get__"))) &&
  (decide (PySem.W.takesIn K (.builtin "object.__class__") = some true) && (decide (PySem.W.mroIn K C (.type "object") = some true) && (eqV (PySem.W.findIn K (.ref C) "__ne__") (some (some (.builtin "object.__ne__"))) &&
  (decide (PySem.W.subIn K (.ref C) (.type "object") = some true) && decide (PySem.W.kitOne K (.ref C) (.ref C) = some true))))))
def lookB (K : PySem.W.Frag) (C : Addr) : Bool := oexB K C && (eqV (PySem.W.findIn K (.ref C) "__setattr__") (some (some (.builtin "object.__setattr__"))) && (decide (PySem.W.subIn K (.ref C) (.type "BaseException") = some true) && (decide (PySem.W.typeIn K (.ref C) = some (.type "type")) &&
  (PySem.W.keepIn K (.ref C) && (eqV (PySem.W.findIn K (.ref C) "__init__") (some (some (.ref (He.ma K C "__init__")))) && (decide (PySem.W.typeIn K (.ref (He.ma K C "__init__")) = some (.type "function")) && (eqV (PySem.W.findIn K (.ref C) "look") (some none) &&
  (xfB K C && decide (PySem.W.exmOne K (.ref C) (.ref C) = some true)))))))))
def exB (K : PySem.W.Frag) : Bool := wrldB K (He.ga K "World") && lookB K (He.ga K "BadLook")
def dG (x : Str) (i : Nat) : He.DefD := ⟨(x, none), x, x, defArgs (top i), defBody (top i), defScope (top i), [], []⟩
def dI (x m q : Str) (i j : Nat) (ds : List He.Dv) : He.DefD := ⟨(x, some m), m, q, defArgs (inClass (top i) j), defBody (inClass (top i) j), defScope (inClass (top i) j), ds, []⟩
def fnL : List He.DefD := ([dG "is_name" 12, dG "is_path" 13, dG "is_place" 14, dG "beginning" 15, dG "paths_above" 16, dG "rest_in" 17, dG "is_row" 19, dG "as_look" 20, dG "can_look" 21, dG "check_files" 24, dG "check_settings" 25, dG "listing" 26] : List He.DefD) ++ ([dG "entry_of" 27, dG "_law_draw" 29, dG "_law_pick" 30, dG "_law_same" 31, dG "_law_fresh" 32, dG "_law_pool" 33, dG "_law_path" 34, dG "_law_beneath" 35, dG "_law_has_room" 36, dG "_law_text" 37, dG "_law_files" 38, dG "_law_world" 39] : List He.DefD) ++ ([dG "_law_made" 40, dG "_law_names_in" 41, dG "_law_shows" 42, dG "_law_look" 43, dG "_law_odd_look" 44, dG "_law_end" 45, dG "law" 46, dI "BadLook" "__init__" "BadLook.__init__" 6 0 [], dI "World" "__init__" "World.__init__" 23 0 [.non, .str ""], dI "World" "answer" "World.answer" 23 3 [], dI "World" "__eq__" "World.__eq__" 23 7 []] : List He.DefD)
def gloL : List Str := (["is_name", "is_path", "is_place", "beginning", "paths_above", "rest_in", "is_row", "as_look", "can_look", "check_files", "check_settings", "listing"] : List PySem.Str) ++ (["entry_of", "_law_draw", "_law_pick", "_law_same", "_law_fresh", "_law_pool", "_law_path", "_law_beneath", "_law_has_room", "_law_text", "_law_files", "_law_world"] : List PySem.Str) ++ (["_law_made", "_law_names_in", "_law_shows", "_law_look", "_law_odd_look", "_law_end", "law", "World", "BadLook"] : List PySem.Str)
def freeL : List Str := ["int", "len", "range", "list", "tuple", "any", "all", "sorted", "isinstance", "enumerate", "zip", "str", "repr", "dict", "max"]
def conL : List He.Fa := [.str "STROKE" "/", .str "ROOT" "", .str "LETTERS" "abcdefghijklmnopqrstuvwxyz", .int "LONGEST" 8, .cls "World", .noat "World" "contents", .noat "World" "chosen", .noat "World" "tool", .mkr "World", .meth "World" "answer", .meth "World" "__eq__"]
def faL : List He.Fa := (gloL.map fun x => He.Fa.glo x) ++ ((freeL.map fun x => He.Fa.free x) ++ conL)
def isD (o : Option Obj) : Bool := match o with
  | some ⟨_, _, .dict _ _, _⟩ => true
  | _ => false
def hkL : PySem.W.Hook where
  α := He.AlX × Bool
  obs := fun s => (He.obsX 5 faL fnL [] [] exB s.heap.get?, isD (s.heap.get? sysModules))
  val := fun w => (He.valX fnL [] w, true)
  says := fun w h => (∃ K : PySem.W.Frag, K.In h ∧ He.SaysX faL fnL [] [] exB w h K) ∧ ∃ (o : Obj) (es : Array DictEntry) (n : Nat), h.get? sysModules = some o ∧ o.data = .dict es n
  of := fun w s e => by
    refine ⟨(He.hookX 5 faL fnL [] [] exB).of w s (congrArg (fun z : He.AlX × Bool => z.1) e), ?_⟩
    have e2 : isD (s.heap.get? sysModules) = true := congrArg (fun z : He.AlX × Bool => z.2) e
    unfold isD at e2
    split at e2
    · rename_i c d es n sl ho
      exact ⟨_, es, n, ho, rfl⟩
    · cases e2
  keeps := fun w h h' ⟨a, o, es, n, h1, h2⟩ k => ⟨(He.hookX 5 faL fnL [] [] exB).keeps w h h' a k, o, es, n, k _ _ h1, h2⟩
abbrev RL : PySem.W.OpenRow := PySem.W.OpenLaw.row PySem.Challenge.rw_trueagain_k03_looks_shown
def obL (s : PySem.W.SharedT) : hkL.α := (He.obsX 5 faL fnL [] [] exB (HandSHeadRun.getT s), isD (HandSHeadRun.getT s sysModules))
theorem obL_eq (s : PySem.W.SharedT) : obL s = hkL.obs s.abs := by
  have e : HandSHeadRun.getT s = s.abs.heap.get? := funext (HandSHeadRun.getT_eq s)
  show (He.obsX 5 faL fnL [] [] exB (HandSHeadRun.getT s), isD (HandSHeadRun.getT s sysModules)) = _
  rw [e]
  rfl
def looseL : List PySem.Str := (["_wall", "AgainError", "BadPath", "Blocked", "BadName", "BadLook", "is_name", "is_path", "is_place", "beginning", "paths_above", "rest_in"] : List PySem.Str) ++ (["is_row", "as_look", "can_look", "World", "check_files", "check_settings", "listing", "entry_of", "_law_draw", "_law_pick", "_law_same", "_law_fresh"] : List PySem.Str) ++ (["_law_pool", "_law_path", "_law_beneath", "_law_has_room", "_law_text", "_law_files", "_law_world", "_law_made", "_law_names_in", "_law_shows", "_law_look", "_law_odd_look"] : List PySem.Str) ++ (["_law_end", "LETTERS", "LONGEST", "STROKE", "ROOT"] : List PySem.Str)
theorem runL (w : World) : HandSHeadRun.RunEq RL (PySem.W.view RL.prog [46]) hkL obL 20000 looseL w := by
  intro os
  kernel_rfl
end W

set_option maxHeartbeats 0
namespace W
open PySem PySem.Spec PyProof.Rows L2 EG RP
theorem fun_of {K : PySem.W.Frag} {x q : Str} {st : Stmt} {f : Addr} {fd : FuncData} (F : FunD K x q (defArgs st) (defBody st) (defScope st) [] [] f fd) : Fun K x q st f fd := by
  obtain ⟨oc, od, dV, kV, doc, pm, an, cdv, ct, osl, rfl, lk, hcd, hD, hK⟩ := F.ex
  rcases hD with ⟨_, rfl⟩ | ⟨e, _⟩
  · exact ⟨⟨oc, od, kV, doc, pm, an, cdv, ct, osl, rfl, lk, hcd⟩, F.kp⟩
  · exact absurd rfl e
theorem lookS_of {K : PySem.W.Frag} {C : Addr} {mg : Str → Option Value} (h : lookB K C = true) (m : mg "BadLook" = some (.ref C)) : BCl K mg C (He.ma K C "__init__") := by
  obtain ⟨h1, h⟩ := He.ba h
  obtain ⟨h2, h⟩ := He.ba h
  obtain ⟨h3, h⟩ := He.ba h
  obtain ⟨h4, h⟩ := He.ba h
  obtain ⟨h5, h⟩ := He.ba h
  obtain ⟨h6, h⟩ := He.ba h
  obtain ⟨h7, h⟩ := He.ba h
  obtain ⟨h8, h⟩ := He.ba h
  obtain ⟨h9, h10⟩ := He.ba h
  exact ⟨m, ⟨oexB_ok h1, of_decide_eq_true h2, of_decide_eq_true h3, of_decide_eq_true h4, h5⟩, of_decide_eq_true h6, of_decide_eq_true h7, of_decide_eq_true h8, xfB_ok h9, of_decide_eq_true h10⟩
section
variable {P : Program} {w : World} {K : PySem.W.Frag} {h : Heap} {mg : Str → Option Value} {f : Addr}
theorem whole (X : K.In h) (G : h.Ns mainGlobals mg) (hfa : mg ("law" : Str) = some (.ref f)) (c : He.SaysX faL fnL [] [] exB w h K) :
    ∃ fd : FuncData, (∀ (s : Shared) (u : Value), BindsTo s fd ⟨[u], []⟩ [("_law_script", u)]) ∧ ∀ base : Heap, K.In base → base.Ns mainGlobals mg → (base.get? sysModules).isSome = true → FnG P w K mg base CX0 9 f fd ["_law_script"] (spLaw K) := by
  have D := c.t.d
  have ex := c.more
  obtain ⟨x1, x2⟩ := He.ba ex
  have gl : ∀ x ∈ gloL, mg x = some (.ref (He.ga K x)) := fun x hx => He.glo_ok X G (D.facts (f := .glo x) (List.mem_append_left _ (List.mem_map.mpr ⟨x, hx, rfl⟩)))
  have fr : ∀ x ∈ freeL, mg x = none := fun x hx => He.free_ok X G (D.facts (f := .free x) (List.mem_append_right _ (List.mem_append_left _ (List.mem_map.mpr ⟨x, hx, rfl⟩))))
  have co : ∀ x ∈ conL, x.ok K = true := fun x hx => D.facts (List.mem_append_right _ (List.mem_append_right _ hx))
  have e := hfa.symm.trans (gl "law" (by decide +kernel))
  cases e
  obtain ⟨d0, U0⟩ := D.def_ 0 (d := dG "is_name" 12) rfl
  have F0 : Fun K "is_name" "is_name" (top 12) (He.ga K "is_name") d0 := fun_of U0
  have b0 : L2.Binds K d0 ["thing"] [] := F0.binds fun _ _ _ _ _ _ us hl => match us, hl with | [_], _ => rfl
  have a0 : At K mg "is_name" (He.ga K "is_name") d0 ["thing"] := ⟨gl _ (by decide +kernel), F0.kp, b0⟩
  obtain ⟨d1, U1⟩ := D.def_ 1 (d := dG "is_path" 13) rfl
  have F1 : Fun K "is_path" "is_path" (top 13) (He.ga K "is_path") d1 := fun_of U1
  have b1 : L2.Binds K d1 ["thing"] [] := F1.binds fun _ _ _ _ _ _ us hl => match us, hl with | [_], _ => rfl
  have a1 : At K mg "is_path" (He.ga K "is_path") d1 ["thing"] := ⟨gl _ (by decide +kernel), F1.kp, b1⟩
  obtain ⟨d2, U2⟩ := D.def_ 2 (d := dG "is_place" 14) rfl
  have F2 : Fun K "is_place" "is_place" (top 14) (He.ga K "is_place") d2 := fun_of U2
  have b2 : L2.Binds K d2 ["thing"] [] := F2.binds fun _ _ _ _ _ _ us hl => match us, hl with | [_], _ => rfl
  have a2 : At K mg "is_place" (He.ga K "is_place") d2 ["thing"] := ⟨gl _ (by decide +kernel), F2.kp, b2⟩
  obtain ⟨d3, U3⟩ := D.def_ 3 (d := dG "beginning" 15) rfl
  have F3 : Fun K "beginning" "beginning" (top 15) (He.ga K "beginning") d3 := fun_of U3
  have b3 : L2.Binds K d3 ["place"] [] := F3.binds fun _ _ _ _ _ _ us hl => match us, hl with | [_], _ => rfl
  have a3 : At K mg "beginning" (He.ga K "beginning") d3 ["place"] := ⟨gl _ (by decide +kernel), F3.kp, b3⟩
  obtain ⟨d4, U4⟩ := D.def_ 4 (d := dG "paths_above" 16) rfl
  have F4 : Fun K "paths_above" "paths_above" (top 16) (He.ga K "paths_above") d4 := fun_of U4
  have b4 : L2.Binds K d4 ["path"] [] := F4.binds fun _ _ _ _ _ _ us hl => match us, hl with | [_], _ => rfl
  have a4 : At K mg "paths_above" (He.ga K "paths_above") d4 ["path"] := ⟨gl _ (by decide +kernel), F4.kp, b4⟩
  obtain ⟨d5, U5⟩ := D.def_ 5 (d := dG "rest_in" 17) rfl
  have F5 : Fun K "rest_in" "rest_in" (top 17) (He.ga K "rest_in") d5 := fun_of U5
  have b5 : L2.Binds K d5 ["path", "place"] [] := F5.binds fun _ _ _ _ _ _ us hl => match us, hl with | [_, _], _ => rfl
  have a5 : At K mg "rest_in" (He.ga K "rest_in") d5 ["path", "place"] := ⟨gl _ (by decide +kernel), F5.kp, b5⟩
  obtain ⟨d6, U6⟩ := D.def_ 6 (d := dG "is_row" 19) rfl
  have F6 : Fun K "is_row" "is_row" (top 19) (He.ga K "is_row") d6 := fun_of U6
  have b6 : L2.Binds K d6 ["thing", "size"] [] := F6.binds fun _ _ _ _ _ _ us hl => match us, hl with | [_, _], _ => rfl
  have a6 : At K mg "is_row" (He.ga K "is_row") d6 ["thing", "size"] := ⟨gl _ (by decide +kernel), F6.kp, b6⟩
  obtain ⟨d7, U7⟩ := D.def_ 7 (d := dG "as_look" 20) rfl
  have F7 : Fun K "as_look" "as_look" (top 20) (He.ga K "as_look") d7 := fun_of U7
  have b7 : L2.Binds K d7 ["thing"] [] := F7.binds fun _ _ _ _ _ _ us hl => match us, hl with | [_], _ => rfl
  have a7 : At K mg "as_look" (He.ga K "as_look") d7 ["thing"] := ⟨gl _ (by decide +kernel), F7.kp, b7⟩
  obtain ⟨d8, U8⟩ := D.def_ 8 (d := dG "can_look" 21) rfl
  have F8 : Fun K "can_look" "can_look" (top 21) (He.ga K "can_look") d8 := fun_of U8
  have b8 : L2.Binds K d8 ["word", "where"] [] := F8.binds fun _ _ _ _ _ _ us hl => match us, hl with | [_, _], _ => rfl
  have a8 : At K mg "can_look" (He.ga K "can_look") d8 ["word", "where"] := ⟨gl _ (by decide +kernel), F8.kp, b8⟩
  obtain ⟨d9, U9⟩ := D.def_ 9 (d := dG "check_files" 24) rfl
  have F9 : Fun K "check_files" "check_files" (top 24) (He.ga K "check_files") d9 := fun_of U9
  have b9 : L2.Binds K d9 ["files"] [] := F9.binds fun _ _ _ _ _ _ us hl => match us, hl with | [_], _ => rfl
  have a9 : At K mg "check_files" (He.ga K "check_files") d9 ["files"] := ⟨gl _ (by decide +kernel), F9.kp, b9⟩
  obtain ⟨d10, U10⟩ := D.def_ 10 (d := dG "check_settings" 25) rfl
  have F10 : Fun K "check_settings" "check_settings" (top 25) (He.ga K "check_settings") d10 := fun_of U10
  have b10 : L2.Binds K d10 ["settings"] [] := F10.binds fun _ _ _ _ _ _ us hl => match us, hl with | [_], _ => rfl
  have a10 : At K mg "check_settings" (He.ga K "check_settings") d10 ["settings"] := ⟨gl _ (by decide +kernel), F10.kp, b10⟩
  obtain ⟨d11, U11⟩ := D.def_ 11 (d := dG "listing" 26) rfl
  have F11 : Fun K "listing" "listing" (top 26) (He.ga K "listing") d11 := fun_of U11
  have b11 : L2.Binds K d11 ["paths", "place"] [] := F11.binds fun _ _ _ _ _ _ us hl => match us, hl with | [_, _], _ => rfl
  have a11 : At K mg "listing" (He.ga K "listing") d11 ["paths", "place"] := ⟨gl _ (by decide +kernel), F11.kp, b11⟩
  obtain ⟨d12, U12⟩ := D.def_ 12 (d := dG "entry_of" 27) rfl
  have F12 : Fun K "entry_of" "entry_of" (top 27) (He.ga K "entry_of") d12 := fun_of U12
  have b12 : L2.Binds K d12 ["rest"] [] := F12.binds fun _ _ _ _ _ _ us hl => match us, hl with | [_], _ => rfl
  have a12 : At K mg "entry_of" (He.ga K "entry_of") d12 ["rest"] := ⟨gl _ (by decide +kernel), F12.kp, b12⟩
  obtain ⟨d13, U13⟩ := D.def_ 13 (d := dG "_law_draw" 29) rfl
  have F13 : Fun K "_law_draw" "_law_draw" (top 29) (He.ga K "_law_draw") d13 := fun_of U13
  have b13 : L2.Binds K d13 ["_law_stream", "_law_many"] [] := F13.binds fun _ _ _ _ _ _ us hl => match us, hl with | [_, _], _ => rfl
  have a13 : At K mg "_law_draw" (He.ga K "_law_draw") d13 ["_law_stream", "_law_many"] := ⟨gl _ (by decide +kernel), F13.kp, b13⟩
  obtain ⟨d14, U14⟩ := D.def_ 14 (d := dG "_law_pick" 30) rfl
  have F14 : Fun K "_law_pick" "_law_pick" (top 30) (He.ga K "_law_pick") d14 := fun_of U14
  have b14 : L2.Binds K d14 ["_law_stream", "_law_things"] [] := F14.binds fun _ _ _ _ _ _ us hl => match us, hl with | [_, _], _ => rfl
  have a14 : At K mg "_law_pick" (He.ga K "_law_pick") d14 ["_law_stream", "_law_things"] := ⟨gl _ (by decide +kernel), F14.kp, b14⟩
  obtain ⟨d15, U15⟩ := D.def_ 15 (d := dG "_law_same" 31) rfl
  have F15 : Fun K "_law_same" "_law_same" (top 31) (He.ga K "_law_same") d15 := fun_of U15
  have b15 : L2.Binds K d15 ["_law_found", "_law_due"] [] := F15.binds fun _ _ _ _ _ _ us hl => match us, hl with | [_, _], _ => rfl
  have a15 : At K mg "_law_same" (He.ga K "_law_same") d15 ["_law_found", "_law_due"] := ⟨gl _ (by decide +kernel), F15.kp, b15⟩
  obtain ⟨d16, U16⟩ := D.def_ 16 (d := dG "_law_fresh" 32) rfl
  have F16 : Fun K "_law_fresh" "_law_fresh" (top 32) (He.ga K "_law_fresh") d16 := fun_of U16
  have b16 : L2.Binds K d16 ["_law_stream", "_law_taken"] [] := F16.binds fun _ _ _ _ _ _ us hl => match us, hl with | [_, _], _ => rfl
  have a16 : At K mg "_law_fresh" (He.ga K "_law_fresh") d16 ["_law_stream", "_law_taken"] := ⟨gl _ (by decide +kernel), F16.kp, b16⟩
  obtain ⟨d17, U17⟩ := D.def_ 17 (d := dG "_law_pool" 33) rfl
  have F17 : Fun K "_law_pool" "_law_pool" (top 33) (He.ga K "_law_pool") d17 := fun_of U17
  have b17 : L2.Binds K d17 ["_law_stream", "_law_many"] [] := F17.binds fun _ _ _ _ _ _ us hl => match us, hl with | [_, _], _ => rfl
  have a17 : At K mg "_law_pool" (He.ga K "_law_pool") d17 ["_law_stream", "_law_many"] := ⟨gl _ (by decide +kernel), F17.kp, b17⟩
  obtain ⟨d18, U18⟩ := D.def_ 18 (d := dG "_law_path" 34) rfl
  have F18 : Fun K "_law_path" "_law_path" (top 34) (He.ga K "_law_path") d18 := fun_of U18
  have b18 : L2.Binds K d18 ["_law_stream", "_law_pool_here", "_law_most"] [] := F18.binds fun _ _ _ _ _ _ us hl => match us, hl with | [_, _, _], _ => rfl
  have a18 : At K mg "_law_path" (He.ga K "_law_path") d18 ["_law_stream", "_law_pool_here", "_law_most"] := ⟨gl _ (by decide +kernel), F18.kp, b18⟩
  obtain ⟨d19, U19⟩ := D.def_ 19 (d := dG "_law_beneath" 35) rfl
  have F19 : Fun K "_law_beneath" "_law_beneath" (top 35) (He.ga K "_law_beneath") d19 := fun_of U19
  have b19 : L2.Binds K d19 ["_law_path_here", "_law_other"] [] := F19.binds fun _ _ _ _ _ _ us hl => match us, hl with | [_, _], _ => rfl
  have a19 : At K mg "_law_beneath" (He.ga K "_law_beneath") d19 ["_law_path_here", "_law_other"] := ⟨gl _ (by decide +kernel), F19.kp, b19⟩
  obtain ⟨d20, U20⟩ := D.def_ 20 (d := dG "_law_has_room" 36) rfl
  have F20 : Fun K "_law_has_room" "_law_has_room" (top 36) (He.ga K "_law_has_room") d20 := fun_of U20
  have b20 : L2.Binds K d20 ["_law_files_here", "_law_path_here"] [] := F20.binds fun _ _ _ _ _ _ us hl => match us, hl with | [_, _], _ => rfl
  have a20 : At K mg "_law_has_room" (He.ga K "_law_has_room") d20 ["_law_files_here", "_law_path_here"] := ⟨gl _ (by decide +kernel), F20.kp, b20⟩
  obtain ⟨d21, U21⟩ := D.def_ 21 (d := dG "_law_text" 37) rfl
  have F21 : Fun K "_law_text" "_law_text" (top 37) (He.ga K "_law_text") d21 := fun_of U21
  have b21 : L2.Binds K d21 ["_law_stream"] [] := F21.binds fun _ _ _ _ _ _ us hl => match us, hl with | [_], _ => rfl
  have a21 : At K mg "_law_text" (He.ga K "_law_text") d21 ["_law_stream"] := ⟨gl _ (by decide +kernel), F21.kp, b21⟩
  obtain ⟨d22, U22⟩ := D.def_ 22 (d := dG "_law_files" 38) rfl
  have F22 : Fun K "_law_files" "_law_files" (top 38) (He.ga K "_law_files") d22 := fun_of U22
  have b22 : L2.Binds K d22 ["_law_stream", "_law_pool_here", "_law_most"] [] := F22.binds fun _ _ _ _ _ _ us hl => match us, hl with | [_, _, _], _ => rfl
  have a22 : At K mg "_law_files" (He.ga K "_law_files") d22 ["_law_stream", "_law_pool_here", "_law_most"] := ⟨gl _ (by decide +kernel), F22.kp, b22⟩
  obtain ⟨d23, U23⟩ := D.def_ 23 (d := dG "_law_world" 39) rfl
  have F23 : Fun K "_law_world" "_law_world" (top 39) (He.ga K "_law_world") d23 := fun_of U23
  have b23 : L2.Binds K d23 ["_law_stream", "_law_pool_here", "_law_most"] [] := F23.binds fun _ _ _ _ _ _ us hl => match us, hl with | [_, _, _], _ => rfl
  have a23 : At K mg "_law_world" (He.ga K "_law_world") d23 ["_law_stream", "_law_pool_here", "_law_most"] := ⟨gl _ (by decide +kernel), F23.kp, b23⟩
  obtain ⟨d24, U24⟩ := D.def_ 24 (d := dG "_law_made" 40) rfl
  have F24 : Fun K "_law_made" "_law_made" (top 40) (He.ga K "_law_made") d24 := fun_of U24
  have b24 : L2.Binds K d24 ["_law_w"] [] := F24.binds fun _ _ _ _ _ _ us hl => match us, hl with | [_], _ => rfl
  have a24 : At K mg "_law_made" (He.ga K "_law_made") d24 ["_law_w"] := ⟨gl _ (by decide +kernel), F24.kp, b24⟩
  obtain ⟨d25, U25⟩ := D.def_ 25 (d := dG "_law_names_in" 41) rfl
  have F25 : Fun K "_law_names_in" "_law_names_in" (top 41) (He.ga K "_law_names_in") d25 := fun_of U25
  have b25 : L2.Binds K d25 ["_law_files_here", "_law_folder"] [] := F25.binds fun _ _ _ _ _ _ us hl => match us, hl with | [_, _], _ => rfl
  have a25 : At K mg "_law_names_in" (He.ga K "_law_names_in") d25 ["_law_files_here", "_law_folder"] := ⟨gl _ (by decide +kernel), F25.kp, b25⟩
  obtain ⟨d26, U26⟩ := D.def_ 26 (d := dG "_law_shows" 42) rfl
  have F26 : Fun K "_law_shows" "_law_shows" (top 42) (He.ga K "_law_shows") d26 := fun_of U26
  have b26 : L2.Binds K d26 ["_law_w", "_law_look_here"] [] := F26.binds fun _ _ _ _ _ _ us hl => match us, hl with | [_, _], _ => rfl
  have a26 : At K mg "_law_shows" (He.ga K "_law_shows") d26 ["_law_w", "_law_look_here"] := ⟨gl _ (by decide +kernel), F26.kp, b26⟩
  obtain ⟨d27, U27⟩ := D.def_ 27 (d := dG "_law_look" 43) rfl
  have F27 : Fun K "_law_look" "_law_look" (top 43) (He.ga K "_law_look") d27 := fun_of U27
  have b27 : L2.Binds K d27 ["_law_stream", "_law_pool_here"] [] := F27.binds fun _ _ _ _ _ _ us hl => match us, hl with | [_, _], _ => rfl
  have a27 : At K mg "_law_look" (He.ga K "_law_look") d27 ["_law_stream", "_law_pool_here"] := ⟨gl _ (by decide +kernel), F27.kp, b27⟩
  obtain ⟨d28, U28⟩ := D.def_ 28 (d := dG "_law_odd_look" 44) rfl
  have F28 : Fun K "_law_odd_look" "_law_odd_look" (top 44) (He.ga K "_law_odd_look") d28 := fun_of U28
  have b28 : L2.Binds K d28 ["_law_stream", "_law_pool_here"] [] := F28.binds fun _ _ _ _ _ _ us hl => match us, hl with | [_, _], _ => rfl
  have a28 : At K mg "_law_odd_look" (He.ga K "_law_odd_look") d28 ["_law_stream", "_law_pool_here"] := ⟨gl _ (by decide +kernel), F28.kp, b28⟩
  obtain ⟨d29, U29⟩ := D.def_ 29 (d := dG "_law_end" 45) rfl
  have F29 : Fun K "_law_end" "_law_end" (top 45) (He.ga K "_law_end") d29 := fun_of U29
  have b29 : L2.Binds K d29 ["_law_world_here", "_law_thing"] [] := F29.binds fun _ _ _ _ _ _ us hl => match us, hl with | [_, _], _ => rfl
  have a29 : At K mg "_law_end" (He.ga K "_law_end") d29 ["_law_world_here", "_law_thing"] := ⟨gl _ (by decide +kernel), F29.kp, b29⟩
  obtain ⟨d30, U30⟩ := D.def_ 30 (d := dG "law" 46) rfl
  have F30 : Fun K "law" "law" (top 46) (He.ga K "law") d30 := fun_of U30
  obtain ⟨d31, U31⟩ := D.def_ 31 (d := dI "BadLook" "__init__" "BadLook.__init__" 6 0 []) rfl
  have F31 : Fun K "__init__" "BadLook.__init__" (inClass (top 6) 0) (He.ma K (He.ga K "BadLook") "__init__") d31 := fun_of U31
  have b31 : L2.Binds K d31 ["self", "look"] [] := F31.binds fun _ _ _ _ _ _ us hl => match us, hl with | [_, _], _ => rfl
  obtain ⟨d32, U32⟩ := D.def_ 32 (d := dI "World" "__init__" "World.__init__" 23 0 [.non, .str ""]) rfl
  obtain ⟨d33, U33⟩ := D.def_ 33 (d := dI "World" "answer" "World.answer" 23 3 []) rfl
  have F33 : Fun K "answer" "World.answer" (inClass (top 23) 3) (He.ma K (He.ga K "World") "answer") d33 := fun_of U33
  have b33 : L2.Binds K d33 ["self", "look"] [] := F33.binds fun _ _ _ _ _ _ us hl => match us, hl with | [_, _], _ => rfl
  obtain ⟨d34, U34⟩ := D.def_ 34 (d := dI "World" "__eq__" "World.__eq__" 23 7 []) rfl
  have F34 : Fun K "__eq__" "World.__eq__" (inClass (top 23) 7) (He.ma K (He.ga K "World") "__eq__") d34 := fun_of U34
  have b34 : L2.Binds K d34 ["self", "other"] [] := F34.binds fun _ _ _ _ _ _ us hl => match us, hl with | [_, _], _ => rfl
  have bL : ∀ (s : Shared) (u : Value), BindsTo s d30 ⟨[u], []⟩ [("_law_script", u)] := by
    obtain ⟨oc, od, kV, doc, pm, an, cdv, ct, osl, rfl, lk, hcd⟩ := F30.ex
    exact fun s u => .of_eq rfl
  have b32 : L2.Binds K d32 ["self", "files", "settings", "tool"] [] := by
    obtain ⟨ds, v, b⟩ := U32.binds1 (ps := ["self", "files", "settings", "tool"]) 4 2 (fun q => by cases q) rfl fun T kV doc pm an cdv ct us its hl hi => match us, hl, its, hi with | [_, _, _, _], _, [_, _], _ => ⟨_, rfl, rfl⟩
    cases v
    exact b
  refine ⟨d30, bL, fun base KB GB SM => ?_⟩
  have fq : ∀ x ∈ freeL, mg x = none := fr
  have T : TB mg := ⟨fr _ (by decide +kernel), fr _ (by decide +kernel), fr _ (by decide +kernel), fr _ (by decide +kernel), fr _ (by decide +kernel), fr _ (by decide +kernel), fr _ (by decide +kernel), fr _ (by decide +kernel), fr _ (by decide +kernel), fr _ (by decide +kernel), fr _ (by decide +kernel), fr _ (by decide +kernel)⟩
  have T0 : TPk mg := ⟨T, He.str_ok X G (co _ (List.mem_cons_self ..)), He.str_ok X G (co _ (List.mem_cons_of_mem _ (List.mem_cons_self ..))), He.str_ok X G (co _ (List.mem_cons_of_mem _ (List.mem_cons_of_mem _ (List.mem_cons_self ..)))), He.int_ok X G (co _ (List.mem_cons_of_mem _ (List.mem_cons_of_mem _ (List.mem_cons_of_mem _ (List.mem_cons_self ..)))))⟩
  have R0 : WCl K mg (He.ga K "World") := ⟨gl _ (by decide +kernel), He.cls_ok (co _ (List.mem_cons_of_mem _ (List.mem_cons_of_mem _ (List.mem_cons_of_mem _ (List.mem_cons_of_mem _ (List.mem_cons_self ..)))))), He.noat_ok (co _ (List.mem_cons_of_mem _ (List.mem_cons_of_mem _ (List.mem_cons_of_mem _ (List.mem_cons_of_mem _ (List.mem_cons_of_mem _ (List.mem_cons_self ..))))))), He.noat_ok (co _ (List.mem_cons_of_mem _ (List.mem_cons_of_mem _ (List.mem_cons_of_mem _ (List.mem_cons_of_mem _ (List.mem_cons_of_mem _ (List.mem_cons_of_mem _ (List.mem_cons_self ..)))))))), He.noat_ok (co _ (List.mem_cons_of_mem _ (List.mem_cons_of_mem _ (List.mem_cons_of_mem _ (List.mem_cons_of_mem _ (List.mem_cons_of_mem _ (List.mem_cons_of_mem _ (List.mem_cons_of_mem _ (List.mem_cons_self ..)))))))))⟩
  have mk0 : Mk K (He.ga K "World") (He.ma K (He.ga K "World") "__init__") := He.mkr_ok (co _ (List.mem_cons_of_mem _ (List.mem_cons_of_mem _ (List.mem_cons_of_mem _ (List.mem_cons_of_mem _ (List.mem_cons_of_mem _ (List.mem_cons_of_mem _ (List.mem_cons_of_mem _ (List.mem_cons_of_mem _ (List.mem_cons_self ..))))))))))
  have mAn := He.meth_ok (co _ (List.mem_cons_of_mem _ (List.mem_cons_of_mem _ (List.mem_cons_of_mem _ (List.mem_cons_of_mem _ (List.mem_cons_of_mem _ (List.mem_cons_of_mem _ (List.mem_cons_of_mem _ (List.mem_cons_of_mem _ (List.mem_cons_of_mem _ (List.mem_cons_self ..)))))))))))
  have mEq := He.meth_ok (co _ (List.mem_cons_of_mem _ (List.mem_cons_of_mem _ (List.mem_cons_of_mem _ (List.mem_cons_of_mem _ (List.mem_cons_of_mem _ (List.mem_cons_of_mem _ (List.mem_cons_of_mem _ (List.mem_cons_of_mem _ (List.mem_cons_of_mem _ (List.mem_cons_of_mem _ (List.mem_cons_self ..))))))))))))
  obtain ⟨y1, y⟩ := He.ba x1
  obtain ⟨y2, y⟩ := He.ba y
  obtain ⟨y3, y⟩ := He.ba y
  obtain ⟨y4, y⟩ := He.ba y
  obtain ⟨y5, y⟩ := He.ba y
  obtain ⟨y6, y7⟩ := He.ba y
  have I0 : WIs K (He.ga K "World") := ⟨of_decide_eq_true y1, of_decide_eq_true y2, of_decide_eq_true y3, of_decide_eq_true y4, of_decide_eq_true y7⟩
  have B0 : BCl K mg (He.ga K "BadLook") (He.ma K (He.ga K "BadLook") "__init__") := lookS_of x2 (gl _ (by decide +kernel))
  have GN := ok_isName (P := P) (w := w) (base := base) F0 T0
  have GNO := ok_isNameO (P := P) (w := w) (base := base) F0 T0
  have GP := ok_isPath (P := P) (w := w) (base := base) F1 T0 a0 GN
  have GPO := ok_isPathO (P := P) (w := w) (base := base) F1 T0 a0 GN
  have GPl := ok_isPlace (P := P) (w := w) (base := base) F2 T0 a1 GP
  have GPlO := ok_isPlaceO (P := P) (w := w) (base := base) F2 T0 a1 GPO
  have GB := ok_beg (P := P) (w := w) (base := base) F3 T0
  have GAb := ok_above (P := P) (w := w) (base := base) F4 T0
  have GRest := ok_rest (P := P) (w := w) (base := base) F5 T0 a3 GB
  have GR := ok_row (P := P) (w := w) (base := base) F6 T
  have GRO := ok_rowO (P := P) (w := w) (base := base) F6 T
  have GC := ok_canLook (P := P) (w := w) (base := base) F8 T0 a0 a1 a2 GN GP GPl
  have GCO := ok_canLookO (P := P) (w := w) (base := base) F8 T0 a0 a1 a2 GN GNO GPO GPlO
  have GAL := ok_asLook (P := P) (w := w) (base := base) F7 T a6 a8 GR GC
  have GALO := ok_asLookO (P := P) (w := w) (base := base) F7 T a6 a8 GR GRO GCO
  have GCkF := ok_ckF (P := P) (w := w) (base := base) F9 T0 a1 GP a4 GAb
  have GCkS := ok_ckS (P := P) (w := w) (base := base) F10 a0 GN
  have GEO := ok_entryOf (P := P) (w := w) (base := base) F12 T0
  have GLi := ok_listing (P := P) (w := w) (base := base) F11 T0 a3 GB a5 GRest a12 GEO
  have GD : FnOk P w K mg base CX0 1 (He.ga K "_law_draw") d13 ["_law_stream", "_law_many"] spDraw := ok_draw F13 ⟨fr _ (by decide +kernel)⟩
  have GPk := ok_pick (P := P) (w := w) (base := base) F14 ⟨T.int, T.len, T.range, T.list, a13.m, a13.k, a13.b⟩ GD
  have GSa := ok_same (P := P) (w := w) (base := base) F15 (fr _ (by decide +kernel)) SM
  have GFr := ok_fresh (P := P) (w := w) (base := base) F16 T a13 a14 GD GPk
  have GPo := ok_pool (P := P) (w := w) (base := base) F17 T a16 GFr
  have GPa := ok_path (P := P) (w := w) (base := base) F18 T a13 a14 GD GPk
  have GBe := ok_beneath (P := P) (w := w) (base := base) F19 T
  have GRo := ok_room (P := P) (w := w) (base := base) F20 T a19 GBe
  have GTe := ok_text (P := P) (w := w) (base := base) F21 a13 GD
  have GFi := ok_files (P := P) (w := w) (base := base) F22 T a13 GD a18 GPa a20 GRo a21 GTe
  have GWo := ok_world (P := P) (w := w) (base := base) F23 T a13 GD a22 GFi a21 GTe
  have GIn := ok_wini (P := P) (w := w) (base := base) (f := He.ma K (He.ga K "World") "__init__") U32 T R0 a9 GCkF a10 GCkS
  have GMa := ok_made (P := P) (w := w) (base := base) F24 (fr _ (by decide +kernel)) R0 mk0 b32 GIn
  have GNi := ok_nin (P := P) (w := w) (base := base) F25 T a19 GBe
  have GSh := ok_shows (P := P) (w := w) (base := base) F26 T a25 GNi
  have GLo := ok_look (P := P) (w := w) (base := base) F27 T a13 a14 a18 GD GPk GPa
  have GOd := ok_odd (P := P) (w := w) (base := base) F28 a14 GPk
  have GIB := ok_iniB (P := P) (w := w) (base := base) F31 B0
  have GAn := ok_wans (P := P) (w := w) (base := base) F33 T0 R0 a7 GAL a11 GLi
  have GAnX := ok_wansX (P := P) (w := w) (base := base) F33 T0 R0 a7 GALO a11 GLi B0 b31 GIB
  have GEq := ok_weq (P := P) (w := w) (base := base) F34 T R0 I0
  have GEn := ok_end (P := P) (w := w) (base := base) F29 T R0 mAn B0 b33 GAnX
  let fa : Str → Addr := fun m => if m = "answer" then He.ma K (He.ga K "World") "answer" else if m = "eq" then He.ma K (He.ga K "World") "__eq__" else if m = "draw" then He.ga K "_law_draw" else if m = "pool" then He.ga K "_law_pool" else if m = "path" then He.ga K "_law_path" else if m = "world" then He.ga K "_law_world" else if m = "made" then He.ga K "_law_made" else if m = "look" then He.ga K "_law_look" else if m = "shows" then He.ga K "_law_shows" else if m = "odd" then He.ga K "_law_odd_look" else if m = "end" then He.ga K "_law_end" else He.ga K "_law_same"
  let fdd : Str → FuncData := fun m => if m = "answer" then d33 else if m = "eq" then d34 else if m = "draw" then d13 else if m = "pool" then d17 else if m = "path" then d18 else if m = "world" then d23 else if m = "made" then d24 else if m = "look" then d27 else if m = "shows" then d26 else if m = "odd" then d28 else if m = "end" then d29 else d15
  have V0 : LV P w K mg base (He.ga K "World") fa fdd :=
    { T := T, mMax := fr _ (by decide +kernel), R := R0, mAn := mAn, mEq := mEq, ne := of_decide_eq_true y5, so := of_decide_eq_true y6, bAn := b33, GAn := GAn, bEq := b34, GEq := GEq, aD := a13, GD := GD, aPo := a17, GPo := GPo, aPa := a18, GPa := GPa, aWorld := a23, GWorld := GWo, aMade := a24, GMade := GMa,
      aLo := a27, GLo := GLo, aShows := a26, GShows := GSh, aOdd := a28, GOdd := GOd, aEn := a29, GEn := GEn, aSa := a15, GSa := GSa }
  exact ok_law F30 V0
end
end W

set_option maxHeartbeats 0
open PySem PySem.W PySem.Calls PyProof.Rows
theorem PySem.Challenge.cw_trueagain_k03_looks_shown_holds : PySem.Challenge.rw_trueagain_k03_looks_shown.Holds := by
  w_on; o_law
  refine HandSHeadRun.head_any (r := W.RL) (q := view W.RL.prog [46]) (H := W.hkL) (ob := W.obL) (M := 20000) (loose := W.looseL) (d := HandSHeadRun.topDef W.RL.prog 46) (kwd := []) W.obL_eq
    (by kernel_rfl) (fun s => by kernel_rfl) W.runL (by kernel_rfl) (by kernel_rfl) (by kernel_rfl) (by rfl) (by first | assumption | decide +kernel) (by decide +kernel) ⟨rfl, rfl, rfl, rfl, rfl, by decide +kernel⟩ ?hw ?hc
  case hw => w_witness2
  case hc =>
    refine EG.walkG (l := PySem.Challenge.rw_trueagain_k03_looks_shown) (n := 63) (k := 9) (x := "_law_script") rfl (by decide) (by kernel_rfl) ⟨rfl, by decide, by decide⟩ ?F
    intro w mg fa h Y GG hmg0
    obtain ⟨⟨K, KX, c⟩, sys⟩ := Y
    have hmg : mg ("law" : PySem.Str) = some (.ref fa) := by
      have e : (HandSHeadRun.topDef W.RL.prog 46).name = ("law" : PySem.Str) := by kernel_rfl
      rw [← e]
      exact hmg0
    obtain ⟨fd, hb, hF⟩ := W.whole (P := PySem.Challenge.rw_trueagain_k03_looks_shown.prog) (w := w) KX GG hmg c
    have no : ∀ p : PySem.Addr × PySem.Addr, p ∉ ([] : List (PySem.Addr × PySem.Addr)) := fun p hp => by cases hp
    exact ⟨K, [], fd, W.spLaw K, KX, fun p hp => absurd hp (no p), fun p hp => absurd hp (no p), fun p hp => absurd hp (no p), sys, hb, fun H a ns hl _ _ hS => ⟨a, ns, rfl, hl, hS, fun _ => rfl⟩, fun base b1 b2 _ b4 => hF base b1 b2 b4⟩
