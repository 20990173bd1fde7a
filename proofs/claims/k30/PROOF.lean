import PyProof.Rows.All
import Wide.All
import OpenK.AllK
import Wide.FinOn
import HandS.ForMost
import HandS.Wide
import HandS.Codes
import HandS.Conv
import HandS.Deep
import PySem.Challenge.RW_trueagain_k30_run_texts
import PyProof.ReprRoads
import HandS.Lambda
import HandS.EndTab
import HandS.Walk
import HandS.IsInst
import HandS.StrMore
import HandS.SetKeys
import HandS.Exc
import HandS.TryOnly
import HandS.WordsExc
import HandS.ExcInit
import HandS.ExcField
import HandS.ExcOwn
import HandS.Head0
import HandS.Head1
import HandS.Head2
import HandS.HeadEnd
import HandS.HeadHook1
import HandS.HeadHook2
import HandS.HeadHook3
import HandS.HeadHook4
import HandS.Defaults
import HandS.DictTup
import PyProof.DictMoreH
import HandS.Iter
import KE.GoesMore
import KE.GoesZip
import KE.KEqDict
import HandS.More
import HandS.Text
import HandS.OwnEq
import KE.KOpsOwn
import PyProof.InstNe
set_option Elab.async false
set_option linter.all false
set_option maxRecDepth 100000
set_option maxHeartbeats 3900000
namespace R3
open PySem PySem.Spec PyProof.Rows L2
open C8 (pss_cut tCut pe_gc)
def top (i : Nat) : Stmt := PySem.Challenge.pw_trueagain_k30_run_texts.main.body.getD i (.Pass ⟨0, 0, 0, 0⟩)
abbrev sDraw : Stmt := top 55
abbrev sPick : Stmt := top 56
abbrev sMixed : Stmt := top 57
abbrev sFresh : Stmt := top 59
abbrev sPool : Stmt := top 60
abbrev sPath : Stmt := top 61
abbrev sText : Stmt := top 64
/-! the stream: its list of what is left, the number that is being used up, the count of draws, the mixed number -/
def SV (H : Hp) (st l : Addr) (ns : List Int) (a c m : Int) : Prop := H st = some (.lst [.ref l, .int a, .int c, .int m]) ∧ H l = some (.lst (ns.map V.int))
theorem SV.ne {H : Hp} {st l : Addr} {ns : List Int} {a c m : Int} (S : SV H st l ns a c m) : st ≠ l := by
  refine ne_of S.1 S.2 fun z => ?_
  have z2 : [V.ref l, V.int a, V.int c, V.int m] = ns.map V.int := HO.lst.inj z
  cases ns with
  | nil => cases z2
  | cons n r =>
    rw [List.map_cons] at z2
    have := (List.cons.inj z2).1
    cases this
def Good (H : Hp) (st l : Addr) (c : Int) : Prop := ∃ (ns : List Int) (a m : Int), SV H st l ns a c m ∧ ns.length ≤ 63 ∧ 0 ≤ a ∧ 0 ≤ m ∧ m < 2147483647
structure Strm (H : Hp) (st l : Addr) (c : Nat) : Prop where
  ex : Good H st l (c : Int)
theorem Strm.ne {H : Hp} {st l : Addr} {c : Nat} (S : Strm H st l c) : st ≠ l := by
  obtain ⟨ns, a, m, h, _⟩ := S.ex
  exact h.ne
/-- all but the stream is as it was -/
def But (st l : Addr) (H H' : Hp) : Prop := ∀ b o, H b = some o → b ≠ st → b ≠ l → H' b = some o
theorem But.refl {st l : Addr} {H : Hp} : But st l H H := fun _ _ e _ _ => e
theorem But.st {st l : Addr} {H H' : Hp} {o : HO} (B : But st l H H') : But st l H (upd H' st o) := fun b u e h1 h2 => by
  rw [upd_ne h1]
  exact B b u e h1 h2
theorem But.li {st l : Addr} {H H' : Hp} {o : HO} (B : But st l H H') : But st l H (upd H' l o) := fun b u e h1 h2 => by
  rw [upd_ne h2]
  exact B b u e h1 h2
theorem But.new {st l p : Addr} {H H' : Hp} {o : HO} (B : But st l H H') (h : H' p = none) : But st l H (upd H' p o) := fun b u e h1 h2 => by
  have q := B b u e h1 h2
  rw [upd_ne (ne_of_none q h)]
  exact q
theorem SV.st {H : Hp} {st l : Addr} {ns : List Int} {a c m a' c' m' : Int} {xs : List V} (S : SV H st l ns a c m) (e : xs = [.ref l, .int a', .int c', .int m']) : SV (upd H st (.lst xs)) st l ns a' c' m' := by
  subst e
  refine ⟨upd_same, ?_⟩
  rw [upd_ne S.ne.symm]
  exact S.2
theorem SV.new {H : Hp} {st l p : Addr} {ns : List Int} {a c m : Int} {o : HO} (S : SV H st l ns a c m) (h : H p = none) : SV (upd H p o) st l ns a c m := by
  refine ⟨?_, ?_⟩
  · rw [upd_ne (ne_of_none S.1 h)]
    exact S.1
  · rw [upd_ne (ne_of_none S.2 h)]
    exact S.2
theorem SV.li {H : Hp} {st l : Addr} {ns ns' : List Int} {a c m : Int} {xs : List V} (S : SV H st l ns a c m) (e : xs = ns'.map V.int) : SV (upd H l (.lst xs)) st l ns' a c m := by
  subst e
  refine ⟨?_, upd_same⟩
  rw [upd_ne S.ne]
  exact S.1
def spDraw : Sp := fun vs H Q _ => ∃ (st l : Addr) (c : Nat) (many : Int), vs = [.ref st, .int many] ∧ Strm H st l c ∧ c ≤ 1000000 ∧ 0 < many ∧ many < 1000000 ∧
  ∀ (d : Int) (H' : Hp), 0 ≤ d → d < many → But st l H H' → Strm H' st l (c + 1) → Q (.int d) H'
structure TDraw (mg : Str → Option Value) : Prop where
  int : mg "int" = none
section
variable {P : Program} {w : World} {K : PySem.W.Frag} {mg : Str → Option Value} {base : Heap}
theorem dp_ints {H : Hp} : ∀ ns : List Int, DpAll K H (ns.map V.int) (ns.map PyData.int)
  | [] => .nil
  | n :: r => .cons (.int n) (dp_ints r)
theorem scD : FnScope ["_law_stream", "_law_many", "_law_digit", "_law_mixed_here"] ["_law_stream", "_law_many"] (defScope sDraw) := ⟨rfl, rfl, rfl, by decide +kernel, rfl, by decide +kernel, by decide +kernel⟩
theorem ok_draw {f : Addr} {fd : FuncData} (F : Fun K "_law_draw" "_law_draw" sDraw f fd) (T : TDraw mg) : FnOk P w K mg base CX0 1 f fd ["_law_stream", "_law_many"] spDraw := by
  refine F.ok scD (fun vs H Q E h => ?_) (fun cdv A outer s H vs Q E hr h => ?_)
  · obtain ⟨st, l, c, many, rfl, _⟩ := h
    rfl
  · obtain ⟨st, l, c, many, rfl, S, hc, hm0, hm1, k⟩ := h
    have hu := hr.units
    refine ⟨_, pss_cut (ps_asg (pe_op op_add (pe_ix ix_list (pv 0) pe_int (fun _ _ => rfl)) pe_int) (pg_sub (pv 0) pe_int set_list))
      (pss_cut (ps_if (PW.pt (pw_and (pt_cmpR op_eq (pe_ix ix_list (pv 0) pe_int (fun _ _ => rfl)) pe_int (nomark _)) (pw_and1 (pt_cmpR (op_neD hu) (pe_ix ix_list (pv 0) pe_int (fun _ _ => rfl)) (pe_lst pa_nil) (nomark _)))))
        (pss_cut (ps_asg (pe_bm PySem.F.plainAttrs_list PySem.F.slot_list_pop PySem.F.type_list_pop mt_popAt (pe_ix ix_list (pv 0) pe_int (fun _ _ => rfl)) (pa_cons pe_int pa_nil)) (pg_sub (pv 0) pe_int set_list))
          (pss_one (ps_if (pt_cmpR op_lt (pe_ix ix_list (pv 0) pe_int (fun _ _ => rfl)) (pe_op op_pow pe_int pe_int) (nomark _))
            (pss_cut (ps_asg (pe_op op_mod (pe_callTy call_int1 (by rfl) T.int (by decide +kernel) (pa_cons (pe_op op_add (pe_op op_add (pe_op op_mul (pe_ix ix_list (pv 0) pe_int (fun _ _ => rfl)) pe_int) (pe_ix ix_list (pv 0) pe_int (fun _ _ => rfl))) pe_int) pa_nil)) pe_int) (pg_sub (pv 0) pe_int set_list))
              (pss_one (ps_asg pe_int (pg_sub (pv 0) pe_int set_list)))) pss_nil)))
        pss_nil)
      (pss_cut (ps_if (pt_cmpR op_gt (pe_ix ix_list (pv 0) pe_int (fun _ _ => rfl)) pe_int (nomark _))
        (pss_cons (ps_set (i := 2) scD.nd rfl (Or.inl rfl) (pe_op op_mod (pe_callTy call_int1 (by rfl) T.int (by decide +kernel) (pa_cons (pe_ix ix_list (pv 0) pe_int (fun _ _ => rfl)) pa_nil)) (pv 1)))
          (pss_cons (ps_asg (pe_op op_fdivW (pe_ix ix_list (pv 0) pe_int (fun _ _ => rfl)) (pv 1)) (pg_sub (pv 0) pe_int set_list))
            (pss_one (ps_ret (pv 2))))) pss_nil)
      (pss_cons (ps_set (i := 3) scD.nd rfl (Or.inl rfl) (pe_op op_mod (pe_op op_pow (pe_op op_add (pe_op op_add (pe_ix ix_list (pv 0) pe_int (fun _ _ => rfl)) (pe_op op_mul pe_int (pe_ix ix_list (pv 0) pe_int (fun _ _ => rfl)))) pe_int) pe_int) pe_int))
        (pss_one (ps_ret (pe_op op_mod (pe_op op_mod (pe_op op_pow (pe_op op_add (pe_op op_add (pe_op op_mul (pv 3) pe_int)
            (pe_op op_mul (pe_op op_mul pe_int (pe_ix ix_list (pv 0) pe_int (fun _ _ => rfl))) (pe_ix ix_list (pv 0) pe_int (fun _ _ => rfl)))) pe_int) pe_int) pe_int) (pv 1))))))), ?_⟩
    obtain ⟨ns, a, m, hS, hns, ha, hm, hm2⟩ := S.ex
    -- stream[2] = stream[2] + 1
    refine ⟨fun σ H' => σ = [some (.ref st), some (.int many), none, none] ∧ But st l H H' ∧ SV H' st l ns a ((c + 1 : Nat) : Int) m,
      ⟨_, rfl, st, _, _, _, rfl, rfl, SqL.of hS.1, rfl, _, _, rfl, rfl, _, rfl, st, _, 2, 2, rfl, rfl, hS.1, rfl, rfl, But.refl.st, hS.st rfl⟩, ?_⟩
    rintro _ H1 ⟨rfl, B1, S1⟩
    -- if stream[1] == 0 and stream[0] != []: ..
    refine ⟨fun σ H' => σ = [some (.ref st), some (.int many), none, none] ∧ But st l H H' ∧ Good H' st l ((c + 1 : Nat) : Int),
      ⟨_, rfl, st, _, _, _, rfl, rfl, SqL.of S1.1, rfl, rfl, _, rfl, ?_⟩, ?_⟩
    · refine ite2 (fun ea => ?_) (fun _ => iteF ⟨rfl, B1, ns, a, m, S1, hns, ha, hm, hm2⟩)
      refine ⟨_, rfl, st, _, _, _, rfl, rfl, SqL.of S1.1, rfl, Nat.zero_le _, fun p hp => ?_⟩
      have S2 := S1.new (o := .lst []) hp
      have B2 := B1.new (o := .lst []) hp
      refine ⟨.list (ns.map .int), .list [], .lst (SqL.of S2.2) ?_, .lst (SqL.of upd_same) .nil, ?_, rfl, _, rfl, ?_⟩
      · exact dp_ints ns
      · exact PySem.W.shaped_ints ns
      · cases ns with
        | nil => exact iteF ⟨rfl, B2, [], a, m, S2, hns, ha, hm, hm2⟩
        | cons n r =>
          refine iteT ?_
          have hns' : r.length ≤ 63 := by
            rw [List.length_cons] at hns
            omega
          have e0 : seqIndex? 0 (((n :: r).map V.int).length) = some 0 := by
            rw [List.length_map, List.length_cons]
            simp [seqIndex?]
          -- stream[1] = stream[0].pop(0)
          refine ⟨fun σ H' => σ = [some (.ref st), some (.int many), none, none] ∧ But st l H H' ∧ SV H' st l r n ((c + 1 : Nat) : Int) m,
            ⟨_, rfl, st, _, _, _, rfl, rfl, SqL.of S2.1, rfl, .inl ⟨rfl, _, SqL.of S2.2⟩, l, _, 0, 0, _, rfl, rfl, S2.2, by decide, by decide, e0, rfl, _, rfl, st, _, 1, 1, rfl, rfl, (S2.li (ns' := r) rfl).1, rfl, rfl, B2.li.st, (S2.li (ns' := r) rfl).st rfl⟩, ?_⟩
          rintro _ H3 ⟨rfl, B3, S3⟩
          -- if stream[1] < 10 ** 18: ..
          refine ⟨_, rfl, st, _, _, _, rfl, rfl, SqL.of S3.1, rfl, _, _, rfl, rfl, ⟨by decide, by decide, by decide⟩, _, _, rfl, rfl, _, rfl, ?_⟩
          refine ite2 (fun lt => ?_) (fun ge => ?_)
          · refine ⟨fun σ H' => σ = [some (.ref st), some (.int many), none, none] ∧ But st l H H' ∧ ∃ m' : Int, SV H' st l r n ((c + 1 : Nat) : Int) m' ∧ 0 ≤ m' ∧ m' < 2147483647,
              ⟨_, rfl, st, _, _, _, rfl, rfl, SqL.of S3.1, rfl, _, _, rfl, rfl, .inr ⟨by decide, by decide⟩, _, rfl, st, _, _, _, rfl, rfl, SqL.of S3.1, rfl, _, _, rfl, rfl, _, _, rfl, rfl, .inl ⟨_, rfl, _, _, rfl, rfl, (by show (0 : Int) < 2147483647; decide),
                _, rfl, st, _, 3, 3, rfl, rfl, S3.1, rfl, rfl, B3.st, _, S3.st rfl, Int.emod_nonneg _ (by decide), Int.emod_lt_of_pos _ (by decide)⟩⟩, ?_⟩
            rintro _ H4 ⟨rfl, B4, m', S4, h1, h2⟩
            exact ⟨_, rfl, st, _, 1, 1, rfl, rfl, S4.1, rfl, rfl, B4.st, r, 0, m', S4.st rfl, hns', by decide, h1, h2⟩
          · have ge' : ¬ n < (10 : Int) ^ (18 : Int).toNat := fun z => ge (decide_eq_true z)
            have e : (10 : Int) ^ (18 : Int).toNat = 1000000000000000000 := by decide
            rw [e] at ge'
            exact ⟨rfl, B3, r, n, m, S3, hns', by omega, hm, hm2⟩
    · rintro _ H3 ⟨rfl, B3, ns3, a3, m3, S3, hns3, ha3, hm3, hm33⟩
      have ml : many.natAbs.log2 < 9000 := by
        have := PySem.Flt.log2_lt_of (k := 20) (by decide) (show many.natAbs < 2 ^ 20 by omega)
        omega
      -- if stream[1] > 0: ..
      refine ⟨fun σ H' => σ = [some (.ref st), some (.int many), none, none] ∧ But st l H H' ∧ Good H' st l ((c + 1 : Nat) : Int),
        ⟨_, rfl, st, _, _, _, rfl, rfl, SqL.of S3.1, rfl, _, _, rfl, rfl, _, rfl, ?_⟩, ?_⟩
      · refine ite2 (fun _ => ?_) (fun _ => ⟨rfl, B3, ns3, a3, m3, S3, hns3, ha3, hm3, hm33⟩)
        refine ⟨_, rfl, st, _, _, _, rfl, rfl, SqL.of S3.1, rfl, .inl ⟨_, rfl, _, rfl, _, _, rfl, rfl, hm0, ?_⟩⟩
        refine ⟨_, rfl, st, _, _, _, rfl, rfl, SqL.of S3.1, rfl, _, rfl, _, _, rfl, rfl, ⟨hm0, ml⟩, _, rfl, st, _, 1, 1, rfl, rfl, S3.1, rfl, _, rfl, ?_⟩
        exact k _ _ (Int.emod_nonneg _ (by omega)) (Int.emod_lt_of_pos _ hm0) B3.st ⟨ns3, a3 / many, m3, S3.st rfl, hns3, Int.ediv_nonneg ha3 (by omega), hm3, hm33⟩
      · rintro _ H4 ⟨rfl, B4, ns4, a4, m4, S4, hns4, ha4, hm4, hm44⟩
        refine ⟨_, rfl, st, _, _, _, rfl, rfl, SqL.of S4.1, rfl, _, rfl, st, _, _, _, rfl, rfl, SqL.of S4.1, rfl, _, _, rfl, rfl, .inl ⟨by decide, by decide⟩, _, _, rfl, rfl, _, _, rfl, rfl, _, _, rfl, rfl, ⟨by decide, by decide, by omega⟩, _, _, rfl, rfl, (by show (0 : Int) < 2147483629; decide), ?_⟩
        generalize hx : (m4 + 104729 * ((c + 1 : Nat) : Int) + 17) ^ (5 : Int).toNat % 2147483629 = x
        have x0 : 0 ≤ x := by
          rw [← hx]
          exact Int.emod_nonneg _ (by decide)
        have x1 : x < 2147483629 := by
          rw [← hx]
          exact Int.emod_lt_of_pos _ (by decide)
        have cc : 40503 * ((c + 1 : Nat) : Int) * ((c + 1 : Nat) : Int) ≤ 40503 * 1000001 * 1000001 := Int.mul_le_mul (by omega) (by omega) (by omega) (by decide)
        have c0 : 0 ≤ 40503 * ((c + 1 : Nat) : Int) * ((c + 1 : Nat) : Int) := Int.mul_nonneg (by omega) (by omega)
        refine ⟨_, rfl, _, _, rfl, rfl, .inr ⟨by decide, by decide⟩, _, rfl, st, _, _, _, rfl, rfl, SqL.of S4.1, rfl, _, _, rfl, rfl, .inl ⟨by decide, by decide⟩, _, rfl, st, _, _, _, rfl, rfl, SqL.of S4.1, rfl, _, _, rfl, rfl, .inr ⟨by omega, by omega⟩,
          _, _, rfl, rfl, _, _, rfl, rfl, _, _, rfl, rfl, ⟨by decide, by decide, by omega⟩, _, _, rfl, rfl, (by show (0 : Int) < 1000000007; decide), _, rfl, _, _, rfl, rfl, hm0, ?_⟩
        exact k _ _ (Int.emod_nonneg _ (by omega)) (Int.emod_lt_of_pos _ hm0) B4 ⟨ns4, a4, m4, S4, hns4, ha4, hm4, hm44⟩
end
theorem at_int {α : Type} {xs : List α} {d : Int} (d0 : 0 ≤ d) (d1 : d < xs.length) : ∃ (i : Nat) (x : α), xs[i]? = some x ∧ atI xs d = some x := by
  obtain ⟨n, rfl⟩ := Int.eq_ofNat_of_zero_le d0
  have hlt : n < xs.length := by omega
  exact ⟨n, xs[n], List.getElem?_eq_getElem hlt, atI_nat (List.getElem?_eq_getElem hlt)⟩
theorem But.trans {st l : Addr} {H H1 H2 : Hp} (a : But st l H H1) (b : But st l H1 H2) : But st l H H2 := fun c o h n1 n2 => b c o (a c o h n1 n2) n1 n2
theorem But.same {st l : Addr} {H H1 : Hp} (a : Same H H1) : But st l H H1 := fun c o h _ _ => a c o h
theorem Strm.up {H H' : Hp} {st l : Addr} {c : Nat} (S : Strm H st l c) (e : Same H H') : Strm H' st l c := by
  obtain ⟨ns, a, m, ⟨h1, h2⟩, r⟩ := S.ex
  exact ⟨ns, a, m, ⟨e _ _ h1, e _ _ h2⟩, r⟩
theorem same_new {H : Hp} {p : Addr} {o : HO} (h : H p = none) : Same H (upd H p o) := fun a u e => by
  rw [upd_ne (ne_of_none e h)]
  exact e
theorem Strm.ne_new {H : Hp} {st l p : Addr} {c : Nat} (S : Strm H st l c) (h : H p = none) : p ≠ st ∧ p ≠ l := by
  obtain ⟨ns, a, m, ⟨h1, h2⟩, r⟩ := S.ex
  exact ⟨(ne_of_none h1 h).symm, (ne_of_none h2 h).symm⟩
theorem But.put {st l p : Addr} {H H' : Hp} {o : HO} (a : But st l H H') (h : H p = none) : But st l H (upd H' p o) := fun c u e n1 n2 => by
  rw [upd_ne (ne_of_none e h)]
  exact a c u e n1 n2
theorem Strm.put {H : Hp} {st l p : Addr} {c : Nat} {o : HO} (S : Strm H st l c) (n : p ≠ st ∧ p ≠ l) : Strm (upd H p o) st l c := by
  obtain ⟨ns, a, m, ⟨h1, h2⟩, r⟩ := S.ex
  exact ⟨ns, a, m, ⟨by rw [upd_ne n.1.symm]; exact h1, by rw [upd_ne n.2.symm]; exact h2⟩, r⟩
def spPickL : Sp := fun vs H Q _ => ∃ (st l : Addr) (c : Nat) (p : Addr) (xs : List V), vs = [.ref st, .ref p] ∧ Strm H st l c ∧ c ≤ 1000000 ∧ H p = some (.lst xs) ∧ p ≠ st ∧ p ≠ l ∧ 0 < xs.length ∧ xs.length < 1000 ∧
  ∀ (i : Nat) (x : V) (H' : Hp), xs[i]? = some x → But st l H H' → Strm H' st l (c + 1) → Q x H'
def spPickS : Sp := fun vs H Q _ => ∃ (st l : Addr) (c : Nat) (z : Str), vs = [.ref st, .str z] ∧ Strm H st l c ∧ c ≤ 1000000 ∧ 0 < z.length ∧ z.length < 1000 ∧
  ∀ (ch : Nat) (H' : Hp), ch ∈ z.cps.toList → But st l H H' → Strm H' st l (c + 1) → Q (.str ⟨#[ch]⟩) H'
def spPick : Sp := fun vs H Q E => spPickL vs H Q E ∨ spPickS vs H Q E
/-- what the small defs lean on -/
structure TG1 (K : PySem.W.Frag) (mg : Str → Option Value) (fD : Addr) (fdD : FuncData) : Prop where
  int : mg "int" = none
  len : mg "len" = none
  range : mg "range" = none
  list : mg "list" = none
  mD : mg "_law_draw" = some (.ref fD)
  kD : PySem.W.keepIn K (.ref fD) = true
  bD : L2.Binds K fdD ["_law_stream", "_law_many"] []
section
variable {P : Program} {w : World} {K : PySem.W.Frag} {mg : Str → Option Value} {base : Heap} {fD : Addr} {fdD : FuncData}
theorem scP : FnScope ["_law_stream", "_law_things"] ["_law_stream", "_law_things"] (defScope sPick) := ⟨rfl, rfl, rfl, by decide +kernel, rfl, by decide +kernel, by decide +kernel⟩
theorem ok_pick {f : Addr} {fd : FuncData} (F : Fun K "_law_pick" "_law_pick" sPick f fd) (T : TG1 K mg fD fdD) (GD : FnOk P w K mg base CX0 1 fD fdD ["_law_stream", "_law_many"] spDraw) : FnOk P w K mg base CX0 2 f fd ["_law_stream", "_law_things"] spPick := by
  refine F.ok scP (fun vs H Q E h => ?_) (fun cdv A outer s H vs Q E hr h => ?_)
  · rcases h with ⟨st, l, c, p, xs, rfl, _⟩ | ⟨st, l, c, z, rfl, _⟩
    · rfl
    · rfl
  · rcases h with ⟨st, l, c, p, xs, rfl, S, hc, hp, n1, n2, h0, h1, k⟩ | ⟨st, l, c, z, rfl, S, hc, h0, h1, k⟩
    · refine ⟨_, pss_one (ps_ret (pe_ix ix_list (pv 1) (pe_call GD hr rfl T.mD T.kD T.bD .nil pass0 (pa_cons (pv 0) (pa_cons (pe_callB call_len_seq (by rfl) T.len PySem.boot_len (pa_cons (pv 1) pa_nil)) pa_nil))) (fun _ _ => rfl))), ?_⟩
      refine ⟨_, rfl, _, rfl, _, rfl, p, xs, rfl, .inl (SqL.of hp), st, l, c, _, rfl, S, hc, by omega, by omega, fun d H' d0 d1 B S' => ?_⟩
      have hp' := B _ _ hp n1 n2
      obtain ⟨i, x, hx, ha⟩ := at_int d0 d1
      exact ⟨p, xs, d, x, rfl, rfl, SqL.of hp', ha, k _ _ _ hx B S'⟩
    · refine ⟨_, pss_one (ps_ret (pe_ix ix_str (pv 1) (pe_call GD hr rfl T.mD T.kD T.bD .nil pass0 (pa_cons (pv 0) (pa_cons (pe_callB call_len_str (by rfl) T.len PySem.boot_len (pa_cons (pv 1) pa_nil)) pa_nil))) (fun _ _ => rfl))), ?_⟩
      have hzs : z.length ≤ sizeLine := Nat.le_of_lt (Nat.lt_of_lt_of_le h1 (by decide))
      refine ⟨_, rfl, _, rfl, _, rfl, z, rfl, hzs, st, l, c, _, rfl, S, hc, by omega, by omega, fun d H' d0 d1 B S' => ?_⟩
      have el : z.cps.toList.length = z.length := by simp [Str.length]
      obtain ⟨i, x, hx, ha⟩ := at_int (xs := z.cps.toList) d0 (by rw [el]; exact d1)
      exact ⟨z, d, x, rfl, rfl, hzs, ha, k _ _ (List.mem_of_getElem? hx) B S'⟩
end
end R3

set_option maxHeartbeats 3900000
/-! repr of data; defs that are called where no repr is under way. -/
namespace RP
open PySem PySem.Spec PyProof.Rows L2
/-- a key as data -/
def kD : Key → PyData
  | .inl i => .int i
  | .inr x => .str x
mutual
/-- what the value v is, read off the tracked heap -/
inductive Dq (K : PySem.W.Frag) (H : Hp) : V → PyData → Prop
  | non : Dq K H .non .none
  | bl (b : Bool) : Dq K H (.bl b) (.bool b)
  | int (i : Int) : Dq K H (.int i) (.int i)
  | str (x : Str) : Dq K H (.str x) (.str x)
  | lst {a : Addr} {xs : List V} {ds : List PyData} : H a = some (.lst xs) → DqAll K H xs ds → Dq K H (.ref a) (.list ds)
  | tup {a : Addr} {xs : List V} {ds : List PyData} : H a = some (.tup xs) → DqAll K H xs ds → Dq K H (.ref a) (.tuple ds)
  | dct {a : Addr} {kvs : List (Key × V)} {ds : List PyData} : H a = some (.dK kvs) → DqAll K H (kvs.map (·.2)) ds → Dq K H (.ref a) (.dict ((kvs.map fun p => kD p.1).zip ds))
inductive DqAll (K : PySem.W.Frag) (H : Hp) : List V → List PyData → Prop
  | nil : DqAll K H [] []
  | cons {v : V} {vs : List V} {d : PyData} {ds : List PyData} : Dq K H v d → DqAll K H vs ds → DqAll K H (v :: vs) (d :: ds)
end
mutual
theorem Dq.up {K : PySem.W.Frag} {H H' : Hp} (e : ∀ a o, H a = some o → H' a = some o) : ∀ {v : V} {d : PyData}, Dq K H v d → Dq K H' v d
  | _, _, .non => .non
  | _, _, .bl b => .bl b
  | _, _, .int i => .int i
  | _, _, .str x => .str x
  | _, _, .lst h t => .lst (e _ _ h) (DqAll.up e t)
  | _, _, .tup h t => .tup (e _ _ h) (DqAll.up e t)
  | _, _, .dct h t => .dct (e _ _ h) (DqAll.up e t)
theorem DqAll.up {K : PySem.W.Frag} {H H' : Hp} (e : ∀ a o, H a = some o → H' a = some o) : ∀ {vs : List V} {ds : List PyData}, DqAll K H vs ds → DqAll K H' vs ds
  | _, _, .nil => .nil
  | _, _, .cons h t => .cons (Dq.up e h) (DqAll.up e t)
end
theorem DqAll.length {K : PySem.W.Frag} {H : Hp} : ∀ {vs : List V} {ds : List PyData}, DqAll K H vs ds → vs.length = ds.length
  | _, _, .nil => rfl
  | _, _, .cons _ t => congrArg Nat.succ t.length
section
variable {X : Cx} {pins : List (Addr × Obj)} {σ : L2.St} {H : Hp} {s : Shared}
/-- sys.modules is no tracked object -/
theorem not_sys (I : Inv X pins σ H s) (SM : (X.base.get? sysModules).isSome = true) {a : Addr} {o : HO} (h : H a = some o) : a ≠ sysModules := fun z => by
  obtain ⟨u, hu⟩ := Option.isSome_iff_exists.mp SM
  have := (I.bs _ _ hu).2
  rw [← z, h] at this
  cases this
theorem keys_read {P : Program} {w : World} {h : Heap} : ∀ {es : List DictEntry} {kvs : List (Key × V)} {vs : List (Key × Value)}, Pairs (mixKind P w) es vs → KV kvs vs → ReadsAll h (es.map (·.key)) (kvs.map fun p => kD p.1) []
  | _, _, _, .nil, .nil => .nil
  | _, _, _, .cons (e := e) (kv := kv) k1 _ t, .cons r q => by
    have ih := keys_read (h := h) t q
    obtain ⟨e1, _⟩ := r
    rw [List.map_cons, List.map_cons, e1]
    have k1' : keyIs kv.1 e.key = true := k1
    rcases keyIs_shape k1' with ⟨i, t, hk, hv⟩ | ⟨x, t, hk, hv⟩
    · rw [hk, hv]
      exact .cons (.int i t) ih
    · rw [hk, hv]
      exact .cons (.str x t) ih
theorem vals_read {P : Program} {w : World} : ∀ {es : List DictEntry} {kvs : List (Key × V)} {vs : List (Key × Value)}, Pairs (mixKind P w) es vs → KV kvs vs → Vals (kvs.map (·.2)) (es.map (·.val))
  | _, _, _, .nil, .nil => .nil
  | _, _, _, .cons _ k2 t, .cons r q => by
    have ih := vals_read t q
    obtain ⟨_, e2⟩ := r
    rw [List.map_cons, List.map_cons, k2]
    exact .cons e2 ih
mutual
theorem Dq.reads (I : Inv X pins σ H s) (SM : (X.base.get? sysModules).isSome = true) : ∀ {v : V} {d : PyData} {u : Value}, Dq X.K H v d → RelV v u → ∃ as, Reads s.heap u d as ∧ sysModules ∉ as
  | _, _, _, .non, r => by
    cases r
    exact ⟨_, Reads.none, by simp⟩
  | _, _, _, .bl b, r => by
    cases r
    exact ⟨_, Reads.bool b, by simp⟩
  | _, _, _, .int i, r => by
    obtain ⟨t, rfl⟩ := r
    exact ⟨_, Reads.int i t, by simp⟩
  | _, _, _, .str x, r => by
    obtain ⟨t, rfl⟩ := r
    exact ⟨_, Reads.str x t, by simp⟩
  | _, _, _, .lst (a := a) h ha, r => by
    cases r
    obtain ⟨_, its, n, rv, ho⟩ := (show ObjOk X.prog X.w H s.heap a (.lst _) from I.hok a _ h)
    obtain ⟨as, hr, hn⟩ := DqAll.reads I SM ha rv
    exact ⟨_, Reads.list ho rfl rfl hr, by
      intro z
      rcases List.mem_cons.mp z with z | z
      · exact not_sys I SM h z.symm
      · exact hn z⟩
  | _, _, _, .tup (a := a) h ha, r => by
    cases r
    obtain ⟨_, its, rv, o, ho, hc, n, hd⟩ := (show ObjOk X.prog X.w H s.heap a (.tup _) from I.hok a _ h)
    obtain ⟨as, hr, hn⟩ := DqAll.reads I SM ha rv
    exact ⟨_, Reads.tuple ho hc hd hr, hn⟩
  | _, _, _, .dct (a := a) (kvs := kvs) (ds := ds) h ha, r => by
    cases r
    obtain ⟨_, _, vs, rel, o, es, ep, ho, ex, hd, _, pr, _⟩ := (show ObjOk X.prog X.w H s.heap a (.dK kvs) from I.hok a _ h)
    obtain ⟨bs, hr, hn⟩ := DqAll.reads I SM ha (vals_read pr rel)
    have le : (kvs.map fun p => kD p.1).length = ds.length := by
      have := ha.length
      rw [List.length_map] at this ⊢
      exact this
    refine ⟨_, Reads.dict ho ex.1 hd (as := []) (bs := bs) ?_ ?_, ?_⟩
    · rw [List.map_fst_zip (by omega)]
      exact keys_read pr rel
    · rw [List.map_snd_zip (by omega)]
      exact hr
    · intro z
      rcases List.mem_cons.mp z with z | z
      · exact not_sys I SM h z.symm
      · exact hn z
theorem DqAll.reads (I : Inv X pins σ H s) (SM : (X.base.get? sysModules).isSome = true) : ∀ {vs : List V} {ds : List PyData} {us : List Value}, DqAll X.K H vs ds → Vals vs us → ∃ as, ReadsAll s.heap us ds as ∧ sysModules ∉ as
  | _, _, _, .nil, r => by
    cases r
    exact ⟨_, ReadsAll.nil, by simp⟩
  | _, _, _, .cons h t, r => by
    cases r with
    | cons r1 r2 =>
      obtain ⟨as, q1, n1⟩ := Dq.reads I SM h r1
      obtain ⟨bs, q2, n2⟩ := DqAll.reads I SM t r2
      exact ⟨_, ReadsAll.cons q1 q2, by
        intro z
        rcases List.mem_append.mp z with z | z
        · exact n1 z
        · exact n2 z⟩
end
/-- repr(x) -/
def rRep (K : PySem.W.Frag) : List V → Hp → VK → Prop := fun xs H Q => ∃ (v : V) (d : PyData), xs = [v] ∧ Dq K H v d ∧ d.showable = true ∧ d.depth ≤ 20 ∧ d.shown.length ≤ sizeLine ∧ Q (.str d.shown) H
theorem call_repr (SM : (X.base.get? sysModules).isSome = true) (hg : X.A.guards = some []) (hu : X.A.units + 64 < cLine) : CallR X (.builtin "repr") (rRep X.K) := by
  intro pins s σ H xs us Q I r h
  obtain ⟨v, d, rfl, hd, sh, dp, sz, q⟩ := h
  cases r with
  | cons rx rr =>
    cases rr
    obtain ⟨as, hr, hn⟩ := hd.reads I SM rx
    have fin : ∀ h' u tk, (∀ b o, s.heap.get? b = some o → h'.get? b = some o) → EP X pins σ Q (.str d.shown u) { s with heap := h', toks := tk } := fun h' u tk k => ⟨.str d.shown, H, I.kept (t' := tk) k, ⟨u, rfl⟩, q⟩
    cases hd with
    | non =>
      cases rx
      exact PySem.P.repr_of_none (fin s.heap _ _ fun _ _ e => e)
    | bl b =>
      cases rx
      exact PySem.P.repr_of_bool (fin s.heap _ _ fun _ _ e => e)
    | int i =>
      obtain ⟨t, rfl⟩ := rx
      exact PySem.P.repr_of_int (of_decide_eq_true sh) (fin s.heap _ _ fun _ _ e => e)
    | str x =>
      obtain ⟨t, rfl⟩ := rx
      exact PySem.P.repr_of_str (fin s.heap _ _ fun _ _ e => e) sz
    | lst h1 h2 =>
      cases rx
      exact PySem.repr_of_reads' hr sh (fun _ => hn) hg (by omega) (fun _ _ e => e) fin sz
    | tup h1 h2 =>
      cases rx
      exact PySem.repr_of_reads' hr sh (fun _ => hn) hg (by omega) (fun _ _ e => e) fin sz
    | dct h1 h2 =>
      cases rx
      exact PySem.repr_of_reads' hr sh (fun _ => hn) hg (by omega) (fun _ _ e => e) fin sz
end
/-! ### defs that are called where no repr is under way -/
structure FnG (P : Program) (w : World) (K : PySem.W.Frag) (mg : Str → Option Value) (base : Heap) (CX : CXT) (k : Nat) (f : Addr) (fd : FuncData) (ps : List Str) (sp : Sp) : Prop where
  len : ∀ vs H Q E, sp vs H Q E → vs.length = ps.length
  run : ∀ (A : Around) (outer : List Env) (s : Shared) (H : Hp) (args : Args) (us : List Value) (vs : List V) (Q : VK) (E : XK), A.guards = some [] → Room k A → Env0 P w K mg base A outer s H → BindsTo s fd args (ps.zip us) → Vals vs us → sp vs H Q E →
    codeAny (model P w) A (.call (.ref f) args) (CR CX outer P w H s Q E) s
theorem FnG.of {P : Program} {w : World} {K : PySem.W.Frag} {mg : Str → Option Value} {base : Heap} {CX : CXT} {k : Nat} {f : Addr} {fd : FuncData} {ps : List Str} {sp : Sp} (F : FnOk P w K mg base CX k f fd ps sp) : FnG P w K mg base CX k f fd ps sp :=
  ⟨F.len, fun A outer s H args us vs Q E _ hr e0 hb rv q => F.run A outer s H args us vs Q E hr e0 hb rv q⟩
theorem okG {P : Program} {w : World} {K : PySem.W.Frag} {mg : Str → Option Value} {base : Heap} {x qual : Str} {st : Stmt} {f : Addr} {fd : FuncData} {N ps : List Str} {k : Nat} {sp : Sp} (F : Fun K x qual st f fd) (S : FnScope N ps (defScope st))
    (len : ∀ vs H Q E, sp vs H Q E → vs.length = ps.length)
    (body : ∀ (cdv : Value) (A : Around) (outer : List Env) (s : Shared) (H : Hp) (vs : List V) (Q : VK) (E : XK), A.guards = some [] → Room k (A.deeper (envOfC qual (defScope st) s.heap.objs.size f cdv)) → sp vs H Q E →
      ∃ t, PSs (cxOf CX0 P w K mg base N qual (defScope st) f cdv A outer s H E).nox (defBody st) t ∧ t { nx := fun _ H' => Q .non H', rt := Q } (start N vs) H) : FnG P w K mg base CX0 (k + 1) f fd ps sp := by
  obtain ⟨oc, od, kV, doc, pm, an, cdv, ct, osl, rfl, lk, hcd⟩ := F.ex
  refine ⟨len, fun A outer s H args us vs Q E hg hr e0 hb rv q => ?_⟩
  refine LamX.run_ofS lk hcd S hr e0 hb rv (len _ _ _ _ q) fun hr' => ?_
  obtain ⟨t, h1, h2⟩ := body cdv A outer s H vs Q E hg hr' q
  exact ⟨t, h1.nox, h2⟩
section
variable {X : Cx} {CX : CXT} {k : Nat} {f : Addr} {fd : FuncData} {ps : List Str} {sp : Sp} {E : XK} {x : Str} {p pos : Pos} {e : Expr} {es : List Expr} {t : TA}
theorem pe_callG (F : FnG X.prog X.w X.K X.mg X.base CX k f fd ps sp) (hG : X.A.guards = some []) (hr : Room k X.A) (hg : Gl X x) (hm : X.mg x = some (.ref f)) (hk : PySem.W.keepIn X.K (.ref f) = true) (hb : Binds X.K fd ps []) (hx : Passes CX X E)
    (ha : PA X (e :: es) t) (hdb : (x == ("__debug__" : Str)) = false := by decide) (he : starEach (e :: es) X.env = (false, eval e X.env) :: starEach es X.env := by rfl) (hpl : (backTo pos (starEach es X.env)).any (·.1) = false := by rfl) :
    PE X (.Call (.Name x p) (e :: es) [] pos) (tCall sp [] E t) := by
  refine ⟨fun pins s σ H Q I h => ?_⟩
  refine wpAny_Call_Name_kw (ld_glob I hg hm ?_ hdb)
  refine PySem.W.callWith_K (h₀ := X.base) I.ok.mod.kin hk (thn (ha.run pos pins s σ H _ I h) fun us s1 ⟨vs, H1, I1, r, q⟩ => ⟨I1.kIn, ?_⟩) he hpl
  have q : sp vs H1 Q E := by
    have z : sp (vs ++ []) H1 Q E := q
    rw [List.append_nil] at z
    exact z
  have hl : us.length = ps.length := r.length.symm.trans (F.len _ _ _ _ q)
  have hbt := hb s1 us I1.kIn (by rw [List.append_nil]; exact hl)
  rw [List.append_nil] at hbt
  refine wpAny_call (codeAny_mono (F.run X.A X.stack s1 H1 ⟨us, []⟩ us vs Q E hG hr I1.env0 hbt r q) fun r s' hq => ?_)
  cases r with
  | error e => exact hx pins σ H1 s1 e s' I1 hq
  | ok fl =>
    cases fl with
    | ret u => exact I1.after hq
    | next => exact False.elim hq
    | brk => exact False.elim hq
    | cont => exact False.elim hq
end
end RP

set_option maxHeartbeats 3900000
/-! The end of a law whose defs are called where no repr is under way; tables of code objects. -/
namespace EG
open PySem PySem.Spec PyProof.Rows L2 LamX RP
section
variable {P : Program} {w : World} {K : PySem.W.Frag} {tabs : List Addr} {a : Addr} {ob : Obj} {xs : List V}
/-- tracked at the start: the empty tables, and the script where the written part does not hold it -/
def track (K : PySem.W.Frag) (tabs : List Addr) (a : Addr) (ob : Obj) (xs : List V) : Hp := fun b =>
  if b ∈ tabs then some (.tbl #[]) else if b = a ∧ K.lookup a = none then some (.frz ob (.lst xs)) else none
theorem track_cases (b : Addr) : (b ∈ tabs ∧ track K tabs a ob xs b = some (.tbl #[])) ∨ (b ∉ tabs ∧ b = a ∧ K.lookup a = none ∧ track K tabs a ob xs b = some (.frz ob (.lst xs))) ∨
    (b ∉ tabs ∧ (b = a → K.lookup a ≠ none) ∧ track K tabs a ob xs b = none) := by
  unfold track
  by_cases h1 : b ∈ tabs
  · exact .inl ⟨h1, if_pos h1⟩
  · by_cases h2 : b = a ∧ K.lookup a = none
    · exact .inr (.inl ⟨h1, h2.1, h2.2, by rw [if_neg h1, if_pos h2]⟩)
    · exact .inr (.inr ⟨h1, fun e z => h2 ⟨e, z⟩, by rw [if_neg h1, if_neg h2]⟩)
end
theorem end_call {P : Program} {w : World} {K : PySem.W.Frag} {mg mb : Str → Option Value} {k : Nat} {fa a : Addr} {cs : List (Addr × Addr)} {fd : FuncData} {x : Str} {sp : Sp} {s : Shared} {us : List Value} {ns : List Int}
    (kin : K.In s.heap) (gn : s.heap.Ns mainGlobals mg) (bn : s.heap.Ns builtinsNs mb) (bb : ∀ y : Str, y ≠ "__name__" → mb y = bootBuiltins y) (nl : s.heap.NoLimit) (ng : s.gens = #[])
    (tE : ∀ p ∈ cs, s.heap.get? p.2 = some { cls := .none, data := .fields #[] }) (tK : ∀ p ∈ cs, K.lookup p.2 = none) (tC : ∀ p ∈ cs, PySem.W.CodeHd s.heap p.1 p.2)
    (sys : ∃ (o : Obj) (es : Array DictEntry) (n : Nat), s.heap.get? sysModules = some o ∧ o.data = .dict es n)
    (mod : ∃ (m : Addr) (o : Obj), mg "__builtins__" = some (.ref m) ∧ m ≠ builtinsNs ∧ s.heap.get? m = some o ∧ o.cls = .type "module" ∧ o.dict = some builtinsNs ∧ o.data = .plain)
    (ia : s.heap.get? a = some { cls := .type "list", data := .seq us.toArray }) (ii : IntsAre us ns) (il : ns.length ≤ sizeLine) (room : Room k callerA)
    (F : ∀ base : Heap, K.In base → base.Ns mainGlobals mg → (∀ p ∈ cs, TabB base mg p.1 p.2) → (base.get? sysModules).isSome = true → FnG P w K mg base CX0 k fa fd [x] sp) (hb : ∀ (t : Shared) (u : Value), BindsTo t fd ⟨[u], []⟩ [(x, u)])
    (hsp : ∀ H : Hp, (∀ p ∈ cs, H p.2 = some (.tbl #[])) → SqL K H a (ns.map V.int) → sp [.ref a] H (fun v _ => v = .bl true) fun _ _ _ => False) :
    codeAny (model P w) callerA (.call (.ref fa) ⟨[.ref a], []⟩) (fun r t => r = .ok (.ret (.bool true)) ∧ OldK s.heap t.heap ∧ t.os = s.os ∧ AllBare t.gens) s := by
  have rv := vals_ints ii
  have tE' : ∀ b ∈ cs.map (·.2), s.heap.get? b = some { cls := .none, data := .fields #[] } := fun b hb => by
    obtain ⟨p, hp, rfl⟩ := List.mem_map.mp hb
    exact tE p hp
  generalize hob : ({ cls := .type "list", data := .seq us.toArray } : Obj) = ob at ia
  have na : a ∉ cs.map (·.2) := fun z => by
    have q := (tE' a z).symm.trans ia
    rw [← hob] at q
    cases q
  generalize hH : track K (cs.map (·.2)) a ob (ns.map V.int) = H
  have tc := fun b => track_cases (K := K) (tabs := cs.map (·.2)) (a := a) (ob := ob) (xs := ns.map V.int) b
  rw [hH] at tc
  -- what the heap holds is as tracked
  have ok : HOk P w H s.heap := fun b o e => by
    rcases tc b with ⟨h1, h2⟩ | ⟨h1, h2, h3, h4⟩ | ⟨_, _, h4⟩
    · rw [h2] at e
      cases e
      exact tE' b h1
    · rw [h4] at e
      cases e
      subst h2
      exact ⟨ia, by rw [List.length_map]; exact il, us, _, rv, ia.trans (congrArg some hob.symm)⟩
    · rw [h4] at e
      cases e
  -- other objects are not tracked
  have free : ∀ {b : Addr} {o : Obj}, s.heap.get? b = some o → o ≠ ob → o.data ≠ .fields #[] → H b = none := fun {b o} e d1 d2 => by
    rcases tc b with ⟨h1, _⟩ | ⟨_, h2, _, _⟩ | ⟨_, _, h4⟩
    · rw [tE' b h1] at e
      cases e
      exact (d2 rfl).elim
    · rw [h2, ia] at e
      exact (d1 (Option.some.inj e).symm).elim
    · exact h4
  have down : ∀ {b : Addr} {o : Obj}, s.heap.get? b = some o → o ≠ ob → o.data ≠ .fields #[] → (hidT s.heap H).get? b = some o := fun e d1 d2 => hidT_get e (free e d1 d2)
  have dict : ∀ {b : Addr} {m : Str → Option Value}, s.heap.Ns b m → (hidT s.heap H).Ns b m := fun {b m} ⟨o, es, ep, e, d, r⟩ =>
    ⟨o, es, ep, down e (fun z => by rw [z, ← hob] at d; cases d) (fun z => by rw [d] at z; cases z), d, r⟩
  have kB : K.In (hidT s.heap H) := fun b o e => hidT_get (kin b o e) (by
    rcases tc b with ⟨h1, _⟩ | ⟨_, h2, h3, _⟩ | ⟨_, _, h4⟩
    · obtain ⟨p, hp, rfl⟩ := List.mem_map.mp h1
      rw [tK p hp] at e
      cases e
    · rw [h2, h3] at e
      cases e
    · exact h4)
  have tabB : ∀ p ∈ cs, TabB (hidT s.heap H) mg p.1 p.2 := fun p hp => by
    obtain ⟨m, o, m1, m2, m3, m4, m5, m6⟩ := mod
    have dm : m ≠ mainGlobals := fun z => by
      obtain ⟨o', es, ep, e, d, _⟩ := gn
      rw [z, e] at m3
      cases m3
      rw [d] at m6
      cases m6
    have dp : m ≠ p.2 := fun z => by
      rw [z, tE p hp] at m3
      cases m3
      cases m6
    obtain ⟨oc, vs, file, tf, fl, tg, inF, tx, tt, c1, c2, c3, c4, cr⟩ := tC p hp
    have cne : oc ≠ ob := fun z => by
      rw [z, ← hob] at c3
      cases c3
    have cnf : oc.data ≠ .fields #[] := fun z => by
      rw [c3] at z
      cases z
      simp at c4
    have mne : o ≠ ob := fun z => by
      rw [z, ← hob] at m6
      cases m6
    have mnf : o.data ≠ .fields #[] := fun z => by
      rw [m6] at z
      cases z
    refine ⟨⟨oc, vs, file, tf, fl, tg, inF, tx, tt, down c1 cne cnf, c2, c3, c4, cr⟩, ⟨m, o, m1, m2, dm, dp, down m3 mne mnf, m4, m5, m6⟩, fun z => ?_⟩
    obtain ⟨o', es, ep, e, d, _⟩ := gn
    rw [z, tE p hp] at e
    cases e
    cases d
  have sysB : ((hidT s.heap H).get? sysModules).isSome = true := by
    obtain ⟨o, es, n, h1, h2⟩ := sys
    have q := down h1 (fun z => by rw [z, ← hob] at h2; cases h2) (fun z => by rw [h2] at z; cases z)
    rw [q]
    rfl
  have e0 : Env0 P w K mg (hidT s.heap H) callerA [] s H :=
    ⟨rfl, ⟨kB, dict gn, ⟨mb, dict bn, bb⟩, let ⟨mc, l1, l2⟩ := nl; ⟨mc, dict l1, l2⟩⟩, fun b o e => of_hidT e, Nat.le_of_eq (hidT_size _ _), trivial, fun b z => absurd (show b ∈ ([] : List Addr) from z) (by simp), ok, .of_eq ng⟩
  have seq : SqL K H a (ns.map V.int) := by
    rcases tc a with ⟨h1, _⟩ | ⟨_, _, _, h4⟩ | ⟨_, h3, _⟩
    · exact (na h1).elim
    · exact .inl (.inr ⟨ob, h4⟩)
    · cases q : K.lookup a with
      | none => exact (h3 rfl q).elim
      | some o =>
        have z := kin a o q
        rw [ia] at z
        cases z
        rw [← hob] at q
        exact .inr ⟨_, us.toArray, _, q, rfl, rfl, rfl, by rw [List.size_toArray, ii.length]; exact il, by simpa using rv⟩
  have tabs : ∀ p ∈ cs, H p.2 = some (.tbl #[]) := fun p hp => by
    have hm : p.2 ∈ cs.map (·.2) := List.mem_map.mpr ⟨p, hp, rfl⟩
    rcases tc p.2 with ⟨_, h2⟩ | ⟨h1, _⟩ | ⟨h1, _⟩
    · exact h2
    · exact (h1 hm).elim
    · exact (h1 hm).elim
  refine codeAny_mono ((F _ kB (dict gn) tabB sysB).run callerA [] s H ⟨[.ref a], []⟩ [.ref a] [.ref a] _ _ rfl room e0 (hb s (.ref a)) (.cons rfl .nil) (hsp H tabs seq)) fun r t h => ?_
  cases r with
  | error e => exact (show False from h).elim
  | ok fl =>
    cases fl with
    | next => exact False.elim h
    | brk => exact False.elim h
    | cont => exact False.elim h
    | ret u =>
      obtain ⟨v, H', os, bare, un, ok', r', q⟩ := h
      have q' : v = .bl true := q
      subst q'
      obtain rfl : u = Value.bool true := r'
      have old : ∀ b o, b ∉ cs.map (·.2) → s.heap.get? b = some o → t.heap.get? b = some o := fun b o nb e => by
        rcases tc b with ⟨h1, _⟩ | ⟨_, h2, h3, h4⟩ | ⟨_, _, h4⟩
        · exact (nb h1).elim
        · have z := un.frzs b _ _ h4
          obtain ⟨e2, _⟩ := ok' b _ z
          rw [h2, ia] at e
          cases e
          exact e2
        · exact un.keep b o e h4 (fun z => absurd (show b ∈ ([] : List Addr) from z) (by simp)) (by simp)
      have more : ∀ p ∈ cs, ∃ m : Array Value, t.heap.get? p.2 = some { cls := .none, data := .fields m } := fun p hp => by
        obtain ⟨m, z⟩ := un.tbls p.2 #[] (tabs p hp)
        exact ⟨_, ok' p.2 _ z⟩
      refine ⟨rfl, ⟨fun b o e => ?_, fun b o e => ?_⟩, os, bare⟩
      · by_cases z : b ∈ cs.map (·.2)
        · obtain ⟨p, hp, rfl⟩ := List.mem_map.mp z
          obtain ⟨m, hm⟩ := more p hp
          rw [tE p hp] at e
          cases e
          exact .inr (.inl ⟨((tC p hp).tab (tE p hp)).isCodeTable, rfl, #[], m, rfl, by rw [Array.empty_append]; exact hm⟩)
        · exact .inl (old b o z e)
      · by_cases z : b ∈ cs.map (·.2)
        · obtain ⟨p, hp, rfl⟩ := List.mem_map.mp z
          obtain ⟨m, hm⟩ := more p hp
          exact ⟨_, hm⟩
        · exact ⟨o, old b o z e⟩
/-- a law: F gives the written part, the tables, the function object, the promise over every base -/
theorem walkG {l : PySem.W.OpenLaw} {n k : Nat} {q : Program} {loose : List Str} {XP : (Str → Option Value) → Heap → Prop} {YP : World → Heap → Prop} {d : DefRec} {x : Str}
    (hn : l.most = some n) (hn2 : n ≤ sizeLine) (hdf : d.params.defaults = []) (room : Room k callerA)
    (F : ∀ (w : World) (mg : Str → Option Value) (fa : Addr) (h : Heap), YP w h → h.Ns mainGlobals mg → mg d.name = some (.ref fa) →
      ∃ (K : PySem.W.Frag) (cs : List (Addr × Addr)) (fd : FuncData) (sp : Sp), K.In h ∧ (∀ p ∈ cs, h.get? p.2 = some { cls := .none, data := .fields #[] }) ∧ (∀ p ∈ cs, K.lookup p.2 = none) ∧ (∀ p ∈ cs, PySem.W.CodeHd h p.1 p.2) ∧ (∃ (o : Obj) (es : Array DictEntry) (n : Nat), h.get? sysModules = some o ∧ o.data = .dict es n) ∧
        (∀ (s : Shared) (u : Value), BindsTo s fd ⟨[u], []⟩ [(x, u)]) ∧
        (∀ (H : Hp) (a : Addr) (ns : List Int), ns.length ≤ n → (∀ z ∈ ns, Builtin.Int.intBits z ≤ 1048576) → (∀ p ∈ cs, H p.2 = some (.tbl #[])) → SqL K H a (ns.map V.int) → sp [.ref a] H (fun v _ => v = .bl true) fun _ _ _ => False) ∧
        ∀ base : Heap, K.In base → base.Ns mainGlobals mg → (∀ p ∈ cs, TabB base mg p.1 p.2) → (base.get? sysModules).isSome = true → FnG l.prog w K mg base CX0 k fa fd [x] sp) :
    PySem.W.WalkO q loose XP YP l.row.toRowW d [] (fun f vs => PySem.call f vs) := by
  refine Att.attach_callB hn hdf fun w s₀ s mg mb fa o pm cd doc a vs ns G Y ho hd hcd hmg hobj hints hlen hbits hg => ?_
  obtain ⟨K, cs, fd, sp, KX, h1, h2, h3, h4, hb, hsp, hF⟩ := F w mg fa _ Y G.T.g hmg
  exact end_call KX G.T.g G.T.b G.T.builtins G.T.nolimit hg h1 h2 h3 h4 G.T.bmain hobj hints (Nat.le_trans hlen hn2) room hF hb fun H => hsp H a ns hlen hbits
end EG

set_option maxHeartbeats 3900000
namespace CB
open PySem PySem.Spec PyProof.Rows L2
/-! comprehensions whose turns add to the heap alone: one rule for all walks -/
theorem same_mk {H : Hp} {p : Addr} {o : HO} (h : H p = none) : Same H (upd H p o) := fun a u e => by
  rw [upd_ne (ne_of_none e h)]
  exact e
theorem same_ch {H H' : Hp} {p : Addr} {o : HO} (a : Same H H') (h : H p = none) : Same H (upd H' p o) := fun c u e => by
  rw [upd_ne (ne_of_none e h)]
  exact a c u e
section
variable {J : It} {n : Nat} {G : Hp → Prop} {Y : Nat → Hp → V → Hp → Prop} {j : Nat} {te : TE} {σ : L2.St} {H1 : Hp} {D : Addr} {Qd : Hp → Prop}
theorem wipe1 (x : V) : wipe ((wipe σ [j]).set j (some x)) [j] = wipe σ [j] := by
  show ((σ.set j none).set j (some x)).set j none = σ.set j none
  simp
theorem lcW (w : Walk J n G Y) (ys : List V) (hn : ys.length = n) (hs : n < 1000000) (hD : H1 D = none) (hG : ∀ H', Same H1 H' → G H')
    (turn : ∀ (i : Nat) (x y : V) (H2 H3 : Hp), ys[i]? = some y → Same H1 H2 → Y i H2 x H3 → ∀ Q1 : VK, (∀ H4, Same H2 H4 → Q1 y H4) → te ((wipe σ [j]).set j (some x)) H3 Q1)
    (hd : ∀ H', Same H1 H' → H' D = some (.lst ys) → Qd H') :
    ∃ W : Nat → Nat → Hp → Prop, (∃ m, W 0 m (upd H1 D (.lst []))) ∧ ∀ i m H, W i m H →
      (J.stop i H ∧ Qd H) ∨ (J.go i H ∧ ∃ Nx : Hp → Prop, (∀ H', Nx H' → ∃ m', m' < m ∧ W (i + 1) m' H') ∧ ∀ x H', J.yld i H x H' → gName j x (wipe σ [j]) H' fun σ2 H2 => wipe σ2 [j] = wipe σ [j] ∧ tYes σ2 H2 fun b H3 =>
        if b = true then te σ2 H3 fun y H4 => ∃ acc, H4 D = some (.lst acc) ∧ acc.length < sizeLine ∧ Nx (upd H4 D (.lst (acc ++ [y]))) else Nx H3) := by
  subst hn
  refine lc_it w (fun i H' => Same H1 H' ∧ H' D = some (.lst (ys.take i))) ⟨same_mk hD, upd_same⟩ (fun i H' _ q => hG H' q.1) ?_ ?_
  · rintro i x H2 H3 hi ⟨s2, hd2⟩ y
    have hy : ys[i]? = some ys[i] := List.getElem?_eq_getElem hi
    refine ⟨wipe1 x, ?_⟩
    refine turn i x ys[i] H2 H3 hy s2 y _ fun H4 s4 => ⟨_, s4 _ _ hd2, ?_, same_ch (s2.trans s4) hD, ?_⟩
    · rw [List.length_take]
      exact Nat.lt_of_lt_of_le (show min i ys.length < 1000000 by omega) (by decide)
    · rw [upd_same, List.take_succ, hy]
      rfl
  · rintro H' ⟨s, h⟩
    rw [List.take_length] at h
    exact hd H' s h
end
section
variable {K : PySem.W.Frag} {α : Type} {j : Nat} {te : TE} {σ : L2.St} {H1 : Hp} {D a : Addr} {Qd : Hp → Prop}
theorem map_two {α : Type} {zs : List α} {u g : α → V} {i : Nat} {x y : V} (hx : (zs.map u)[i]? = some x) (hy : (zs.map g)[i]? = some y) : ∃ z ∈ zs, x = u z ∧ y = g z := by
  rw [List.getElem?_map] at hx hy
  match e : zs[i]? with
  | none =>
    rw [e] at hx
    cases hx
  | some z =>
    rw [e] at hx hy
    cases hx
    cases hy
    exact ⟨z, List.mem_of_getElem? e, rfl, rfl⟩
theorem lc_mapL (zs : List α) (u g : α → V) (hs : zs.length < 1000000) (hD : H1 D = none) (ha : SqL K H1 a (zs.map u))
    (turn : ∀ z ∈ zs, ∀ H2, Same H1 H2 → ∀ Q1 : VK, (∀ H4, Same H2 H4 → Q1 (g z) H4) → te ((wipe σ [j]).set j (some (u z))) H2 Q1) (hd : ∀ H', Same H1 H' → H' D = some (.lst (zs.map g)) → Qd H') :
    ∃ W : Nat → Nat → Hp → Prop, (∃ m, W 0 m (upd H1 D (.lst []))) ∧ ∀ i m H, W i m H →
      ((Itl K a).stop i H ∧ Qd H) ∨ ((Itl K a).go i H ∧ ∃ Nx : Hp → Prop, (∀ H', Nx H' → ∃ m', m' < m ∧ W (i + 1) m' H') ∧ ∀ x H', (Itl K a).yld i H x H' → gName j x (wipe σ [j]) H' fun σ2 H2 => wipe σ2 [j] = wipe σ [j] ∧ tYes σ2 H2 fun b H3 =>
        if b = true then te σ2 H3 fun y H4 => ∃ acc, H4 D = some (.lst acc) ∧ acc.length < sizeLine ∧ Nx (upd H4 D (.lst (acc ++ [y]))) else Nx H3) := by
  refine lcW (walk_list (K := K) (a := a) (xs := zs.map u)) (zs.map g) (by rw [List.length_map, List.length_map]) (by rw [List.length_map]; exact hs) hD (fun H' s => s.seq ha) ?_ hd
  rintro i x y H2 H3 hy s ⟨rfl, hx⟩ Q1 k
  obtain ⟨z, hz, rfl, rfl⟩ := map_two hx hy
  exact turn z hz _ s Q1 k
theorem sameT {H H' : Hp} {xs : List V} (e : Same H H') (h : SqT K H a xs) : SqT K H' a xs := by
  rcases h with (h | ⟨o, h⟩) | h
  · exact .inl (.inl (e _ _ h))
  · exact .inl (.inr ⟨o, e _ _ h⟩)
  · exact .inr h
theorem lc_mapT (zs : List α) (u g : α → V) (hs : zs.length < 1000000) (hD : H1 D = none) (ha : SqT K H1 a (zs.map u))
    (turn : ∀ z ∈ zs, ∀ H2, Same H1 H2 → ∀ Q1 : VK, (∀ H4, Same H2 H4 → Q1 (g z) H4) → te ((wipe σ [j]).set j (some (u z))) H2 Q1) (hd : ∀ H', Same H1 H' → H' D = some (.lst (zs.map g)) → Qd H') :
    ∃ W : Nat → Nat → Hp → Prop, (∃ m, W 0 m (upd H1 D (.lst []))) ∧ ∀ i m H, W i m H →
      ((Itt K a).stop i H ∧ Qd H) ∨ ((Itt K a).go i H ∧ ∃ Nx : Hp → Prop, (∀ H', Nx H' → ∃ m', m' < m ∧ W (i + 1) m' H') ∧ ∀ x H', (Itt K a).yld i H x H' → gName j x (wipe σ [j]) H' fun σ2 H2 => wipe σ2 [j] = wipe σ [j] ∧ tYes σ2 H2 fun b H3 =>
        if b = true then te σ2 H3 fun y H4 => ∃ acc, H4 D = some (.lst acc) ∧ acc.length < sizeLine ∧ Nx (upd H4 D (.lst (acc ++ [y]))) else Nx H3) := by
  refine lcW (walk_tup (K := K) (a := a) (xs := zs.map u)) (zs.map g) (by rw [List.length_map, List.length_map]) (by rw [List.length_map]; exact hs) hD (fun H' s => sameT s ha) ?_ hd
  rintro i x y H2 H3 hy s ⟨rfl, hx⟩ Q1 k
  obtain ⟨z, hz, rfl, rfl⟩ := map_two hx hy
  exact turn z hz _ s Q1 k
theorem lc_mapS (z : Str) (g : Nat → V) (hs : z.length < 1000000) (hD : H1 D = none)
    (turn : ∀ c ∈ z.cps.toList, ∀ H2, Same H1 H2 → ∀ Q1 : VK, (∀ H4, Same H2 H4 → Q1 (g c) H4) → te ((wipe σ [j]).set j (some (.str ⟨#[c]⟩))) H2 Q1) (hd : ∀ H', Same H1 H' → H' D = some (.lst (z.cps.toList.map g)) → Qd H') :
    ∃ W : Nat → Nat → Hp → Prop, (∃ m, W 0 m (upd H1 D (.lst []))) ∧ ∀ i m H, W i m H →
      ((Its z).stop i H ∧ Qd H) ∨ ((Its z).go i H ∧ ∃ Nx : Hp → Prop, (∀ H', Nx H' → ∃ m', m' < m ∧ W (i + 1) m' H') ∧ ∀ x H', (Its z).yld i H x H' → gName j x (wipe σ [j]) H' fun σ2 H2 => wipe σ2 [j] = wipe σ [j] ∧ tYes σ2 H2 fun b H3 =>
        if b = true then te σ2 H3 fun y H4 => ∃ acc, H4 D = some (.lst acc) ∧ acc.length < sizeLine ∧ Nx (upd H4 D (.lst (acc ++ [y]))) else Nx H3) := by
  refine lcW (walk_str (z := z)) (z.cps.toList.map g) (by rw [List.length_map, Array.length_toList]) hs hD (fun _ _ => trivial) ?_ hd
  rintro i x y H2 H3 hy s ⟨rfl, c, hc, rfl⟩ Q1 k
  rw [List.getElem?_map, Array.getElem?_toList, hc] at hy
  cases hy
  exact turn c (by rw [Array.mem_toList_iff]; exact Array.mem_of_getElem? hc) _ s Q1 k
/-- all and any over such a list -/
theorem all_of {H : Hp} {Q : VK} (zs : List α) (f : α → Bool) (h : H D = some (.lst (zs.map fun z => .bl (f z)))) (q : Q (.bl (zs.all f)) H) : rAll K [.ref D] H Q :=
  ⟨D, zs.map f, rfl, SqL.of (by rw [h, List.map_map]; rfl), by rw [List.all_map]; exact q⟩
theorem any_of {H : Hp} {Q : VK} (zs : List α) (f : α → Bool) (h : H D = some (.lst (zs.map fun z => .bl (f z)))) (q : Q (.bl (zs.any f)) H) : rAny K [.ref D] H Q :=
  ⟨D, zs.map f, rfl, SqL.of (by rw [h, List.map_map]; rfl), by rw [List.any_map]; exact q⟩
end
/-! methods of built-in types beneath a comprehension's binder: the written part given by hand -/
section
variable {X : Cx} {o e : Expr} {es : List Expr} {to : TE} {t : TA} {name : Str} {apos cpos : Pos} {T id : String} {r : V → List V → Hp → VK → Prop}
theorem pe_bmK (K0 : PySem.W.Frag) (hK : X.K = K0) (pa : PlainAttrs T) (slot : Slot T name id) (hty : typeOf (.builtin id) = pure (.type "method_descriptor")) (hm : MtR X id r) (ho : PE X o to) (ha : PA X (e :: es) t)
    (hb : attributeBase o name X.env (eval o X.env) = eval o X.env := by rfl)
    (hf : ((backTo cpos (starEach (e :: es) X.env)).all (fun x => !x.1) && (backToKw cpos (keywordEach [] X.env)).all (fun x => x.1.isSome) && decide ((e :: es).length + ([] : List Keyword).length + (if ([] : List Keyword).isEmpty then 0 else 1) < 30)) = true := by rfl)
    (hl : (apos.endLine == cpos.line) = true := by rfl) (hs : starEach (e :: es) X.env = (false, eval e X.env) :: starEach es X.env := by rfl) (hp : (backTo cpos (starEach es X.env)).any (·.1) = false := by rfl) :
    PE X (.Call (.Attribute o name apos) (e :: es) [] cpos) (tBM K0 T r to t) := by
  subst hK
  exact pe_bm pa slot hty hm ho ha hb hf hl hs hp
theorem pe_bm0K (K0 : PySem.W.Frag) (hK : X.K = K0) (pa : PlainAttrs T) (slot : Slot T name id) (hty : typeOf (.builtin id) = pure (.type "method_descriptor")) (hm : MtR X id r) (ho : PE X o to)
    (hb : attributeBase o name X.env (eval o X.env) = eval o X.env := by rfl) (hl : (apos.endLine == cpos.line) = true := by rfl) : PE X (.Call (.Attribute o name apos) [] [] cpos) (tBM0 K0 T r to) := by
  subst hK
  exact pe_bm0 pa slot hty hm ho hb hl
end
section
variable {X : Cx} {K0 : PySem.W.Frag}
theorem pg_tupK {es : List Expr} {k : Nat} {t : TGs} {n : Nat} {pos : Pos} (hK : X.K = K0) (hc : X.calm = true) (h : PGs X es t) (hn : (assignEach es X.env).length = n := by rfl) (hs : (assignEach es X.env).findIdx? (·.1) = none := by rfl) : PG X (.Tuple es k pos) (gTup K0 n t) := by
  subst hK
  exact pg_tup hc h hn hs
theorem ix_listK (hK : X.K = K0) : IxR X (rIxL K0) := by
  subst hK
  exact ix_list
theorem ix_tupK (hK : X.K = K0) : IxR X (rIxT K0) := by
  subst hK
  exact ix_tup
theorem in_seqK (hK : X.K = K0) : OpR X (compareOp .In) (rIn K0 false) := by
  subst hK
  exact op_in_seq
theorem notIn_seqK (hK : X.K = K0) : OpR X (compareOp .NotIn) (rIn K0 true) := by
  subst hK
  exact op_notIn_seq
theorem eqDK (hK : X.K = K0) (hu : X.A.units + 64 < cLine) : OpR X (compareOp .Eq) (rEqD K0) := by
  subst hK
  exact op_eqD hu
theorem neDK (hK : X.K = K0) (hu : X.A.units + 64 < cLine) : OpR X (compareOp .NotEq) (rNeD K0) := by
  subst hK
  exact op_neD hu
end
/-! a row: a tuple or a list -/
def RowAt (H : Hp) (v : V) (xs : List V) : Prop := ∃ a, v = .ref a ∧ (H a = some (.tup xs) ∨ H a = some (.lst xs))
theorem RowAt.up {H H' : Hp} {v : V} {xs : List V} (h : RowAt H v xs) (s : Same H H') : RowAt H' v xs := by
  obtain ⟨a, e, h | h⟩ := h
  · exact ⟨a, e, .inl (s _ _ h)⟩
  · exact ⟨a, e, .inr (s _ _ h)⟩
def rIxRow : R2 := fun x y H Q => ∃ xs i v, RowAt H x xs ∧ y = .int i ∧ atI xs i = some v ∧ Q v H
def rLenRow : List V → Hp → VK → Prop := fun vs H Q => ∃ x xs, vs = [x] ∧ RowAt H x xs ∧ Q (.int (xs.length : Int)) H
/-- isinstance(x, (list, tuple)) -/
def LT (H : Hp) (v : V) (b : Bool) : Prop := (b = true ∧ ∃ xs, RowAt H v xs) ∨ (b = false ∧ (v = .non ∨ (∃ z, v = .str z) ∨ (∃ i, v = .int i) ∨ ∃ c, v = .bl c))
def rLT : List V → Hp → VK → Prop := fun vs H Q => ∃ v tp b, vs = [v, .ref tp] ∧ H tp = some (.tup [.ty "list", .ty "tuple"]) ∧ LT H v b ∧ Q (.bl b) H
def rTupRow : List V → Hp → VK → Prop := fun vs H Q => ∃ v xs, vs = [v] ∧ RowAt H v xs ∧ ∀ a H', Same H H' → H' a = some (.tup xs) → Q (.ref a) H'
section
variable {X : Cx}
theorem ix_row : IxR X rIxRow := by
  intro value slice pins s σ H x y v u Q I rx ry h hs
  obtain ⟨xs, i, w, ⟨a, rfl, h1 | h1⟩, rfl, ha, q⟩ := h
  · exact ix_tup (X := X) value slice pins s σ H _ _ v u Q I rx ry ⟨a, xs, i, w, rfl, rfl, SqT.of h1, ha, q⟩ hs
  · exact ix_list (X := X) value slice pins s σ H _ _ v u Q I rx ry ⟨a, xs, i, w, rfl, rfl, SqL.of h1, ha, q⟩ hs
theorem call_len_row : CallR X (.builtin "len") rLenRow := by
  intro pins s σ H xs us Q I r h
  obtain ⟨x, ys, rfl, ⟨a, rfl, h1 | h1⟩, q⟩ := h
  · exact call_len_seq (X := X) pins s σ H _ us Q I r ⟨a, ys, rfl, .inr (SqT.of h1), q⟩
  · exact call_len_seq (X := X) pins s σ H _ us Q I r ⟨a, ys, rfl, .inl (SqL.of h1), q⟩
theorem kitLT {K : PySem.W.Frag} {n : String} {b c : Bool} (h1 : kitB n "list" = some b) (h2 : kitB n "tuple" = some c) : PySem.W.kitAny K (.type n) [.type "list", .type "tuple"] = some (b || c) :=
  kitAny_cons (kit_ty h1) (fun e => by
    subst e
    exact kitAny_cons (kit_ty h2) (fun e2 => by
      subst e2
      exact kitAny_nil) (fun e2 => by
      subst e2
      rfl)) (fun e => by
    subst e
    rfl)
theorem isi_LT : CallR X (.builtin "isinstance") rLT := by
  intro pins s σ H xs us Q I r h
  obtain ⟨v, tp, b, rfl, ht, hl, q⟩ := h
  have go : ∀ (n : String) (c : Bool), TyX X.K H v (.type n) → PySem.W.kitAny X.K (.type n) [.type "list", .type "tuple"] = some c → Q (.bl c) H → wpAny (model X.prog X.w) X.A (call (.builtin "isinstance") us) (EP X pins σ Q) X.xe s := fun n c t k q =>
    call_isiT (X := X) pins s σ H _ us Q I r ⟨v, tp, _, .type n, [.type "list", .type "tuple"], c, rfl, ht, .cons (.ty "list") (.cons (.ty "tuple") .nil), t, k, q⟩
  rcases hl with ⟨rfl, ys, a, rfl, h1 | h1⟩ | ⟨rfl, rfl | ⟨z, rfl⟩ | ⟨i, rfl⟩ | ⟨c, rfl⟩⟩
  · exact go "tuple" true (.base (.tup h1)) (kitLT (b := false) (c := true) (by decide +kernel) (by decide +kernel)) q
  · exact go "list" true (.base (.lst h1)) (kitLT (b := true) (c := false) (by decide +kernel) (by decide +kernel)) q
  · exact go "NoneType" false (.base .non) (kitLT (b := false) (c := false) (by decide +kernel) (by decide +kernel)) q
  · exact go "str" false (.base (.str z)) (kitLT (b := false) (c := false) (by decide +kernel) (by decide +kernel)) q
  · exact go "int" false (.base (.int i)) (kitLT (b := false) (c := false) (by decide +kernel) (by decide +kernel)) q
  · exact go "bool" false (.base (.bl c)) (kitLT (b := false) (c := false) (by decide +kernel) (by decide +kernel)) q
theorem call_tup_row : CallR X (.type "tuple") rTupRow := by
  intro pins s σ H xs us Q I r h
  obtain ⟨v, ys, rfl, ⟨a, rfl, h1 | h1⟩, q⟩ := h
  · exact call_tuple_of (X := X) pins s σ H _ us Q I r ⟨a, ys, rfl, .inr ⟨SqT.of h1, q a H (Same.refl H) h1⟩⟩
  · exact call_tuple_of (X := X) pins s σ H _ us Q I r ⟨a, ys, rfl, .inl ⟨SqL.of h1, fun l hl => q l _ (same_mk hl) upd_same⟩⟩
/-- a walk over a name that holds a tuple or a list -/
def iSeqV (K : PySem.W.Frag) (i : Nat) : TI := fun σ H R => ∃ a, σ[i]? = some (some (.ref a)) ∧ ((∃ xs, SqT K H a xs ∧ R (Itt K a) H) ∨ ∃ xs, SqL K H a xs ∧ R (Itl K a) H)
theorem pi_seqv {tg l : Expr} {i : Nat} (hl : PE X l (tVar i)) : PI X tg l (iSeqV X.K i) := by
  refine ⟨fun pins s σ H R I h => ?_⟩
  obtain ⟨a, ha, ⟨xs, q, r⟩ | ⟨xs, q, r⟩⟩ := h
  · exact (pi_tup hl).run pins s σ H R I ⟨_, ha, a, rfl, ⟨xs, q⟩, r⟩
  · exact (pi_list hl).run pins s σ H R I ⟨_, ha, a, rfl, ⟨xs, q⟩, r⟩
end
section
variable {K : PySem.W.Frag} {α : Type} {i j : Nat} {te : TE} {σ : L2.St} {H : Hp} {v : V} {Q : VK}
theorem lc_row (zs : List α) (u g : α → V) (hi : σ[i]? = some (some v)) (h : RowAt H v (zs.map u)) (hs : zs.length < 1000000)
    (turn : ∀ z ∈ zs, ∀ H2, Same H H2 → ∀ Q1 : VK, (∀ H4, Same H2 H4 → Q1 (g z) H4) → te ((wipe σ [j]).set j (some (u z))) H2 Q1) (hd : ∀ D H', Same H H' → H D = none → H' D = some (.lst (zs.map g)) → Q (.ref D) H') :
    tLc (iSeqV K i) (gName j) tYes te [j] σ H Q := by
  obtain ⟨a, rfl, h1 | h1⟩ := h
  · exact ⟨a, hi, .inl ⟨_, SqT.of h1, fun D hD => lc_mapT zs u g hs hD (SqT.of h1) turn fun H' s h2 => hd D H' s hD h2⟩⟩
  · exact ⟨a, hi, .inr ⟨_, SqL.of h1, fun D hD => lc_mapL zs u g hs hD (SqL.of h1) turn fun H' s h2 => hd D H' s hD h2⟩⟩
theorem all_row (zs : List α) (u : α → V) (f : α → Bool) (hi : σ[i]? = some (some v)) (h : RowAt H v (zs.map u)) (hs : zs.length < 1000000)
    (turn : ∀ z ∈ zs, ∀ H2, Same H H2 → ∀ Q1 : VK, (∀ H4, Same H2 H4 → Q1 (.bl (f z)) H4) → te ((wipe σ [j]).set j (some (u z))) H2 Q1) (hd : ∀ H', Same H H' → Q (.bl (zs.all f)) H') :
    tCB (rAll K) (tCons (tLc (iSeqV K i) (gName j) tYes te [j]) tNil) σ H Q := by
  show tLc (iSeqV K i) (gName j) tYes te [j] σ H fun v H1 => rAll K [v] H1 Q
  exact lc_row zs u (fun z => .bl (f z)) hi h hs turn fun D H' s _ hD => all_of zs f hD (hd H' s)
theorem any_row (zs : List α) (u : α → V) (f : α → Bool) (hi : σ[i]? = some (some v)) (h : RowAt H v (zs.map u)) (hs : zs.length < 1000000)
    (turn : ∀ z ∈ zs, ∀ H2, Same H H2 → ∀ Q1 : VK, (∀ H4, Same H2 H4 → Q1 (.bl (f z)) H4) → te ((wipe σ [j]).set j (some (u z))) H2 Q1) (hd : ∀ H', Same H H' → Q (.bl (zs.any f)) H') :
    tCB (rAny K) (tCons (tLc (iSeqV K i) (gName j) tYes te [j]) tNil) σ H Q := by
  show tLc (iSeqV K i) (gName j) tYes te [j] σ H fun v H1 => rAny K [v] H1 Q
  exact lc_row zs u (fun z => .bl (f z)) hi h hs turn fun D H' s _ hD => any_of zs f hD (hd H' s)
theorem set_row {y : Nat} {D0 : Ends} (zs : List α) (u g : α → V) (hi : σ[i]? = some (some v)) (h : RowAt H v (zs.map u)) (hs : zs.length < 1000000)
    (turn : ∀ z ∈ zs, ∀ H2, Same H H2 → ∀ Q1 : VK, (∀ H4, Same H2 H4 → Q1 (g z) H4) → te ((wipe σ [j]).set j (some (u z))) H2 Q1) (hd : ∀ D H', Same H H' → H D = none → H' D = some (.lst (zs.map g)) → D0.nx (σ.set y (some (.ref D))) H') :
    tAsg (tLc (iSeqV K i) (gName j) tYes te [j]) (gName y) D0 σ H := by
  show tLc (iSeqV K i) (gName j) tYes te [j] σ H fun x H1 => D0.nx (σ.set y (some x)) H1
  exact lc_row zs u g hi h hs turn hd
theorem iteY {c A B : Prop} [Decidable c] (h : c) (a : A) : if decide c = true then A else B := by
  rw [if_pos (decide_eq_true h)]
  exact a
theorem iteN {c A B : Prop} [Decidable c] (h : ¬ c) (b : B) : if decide c = true then A else B := by
  rw [if_neg (by rw [decide_eq_false h]; exact Bool.false_ne_true)]
  exact b
theorem cut_1 (xs : List V) : cutV xs (some 1) none = xs.drop 1 := by
  show (xs.drop (HT.sIx xs.length 0 (some ((1 : Nat) : Int)))).take (HT.sIx xs.length xs.length none - HT.sIx xs.length 0 (some ((1 : Nat) : Int))) = xs.drop 1
  rw [HT.sIx_nat, HT.sIx_none]
  by_cases h : 1 ≤ xs.length
  · rw [Nat.min_eq_left h, List.take_of_length_le (by rw [List.length_drop]; exact Nat.le_refl _)]
  · rw [List.drop_eq_nil_of_le (by omega), List.drop_eq_nil_of_le (by omega)]
    exact List.take_nil
end
/-! two names for each item: zip, enumerate -/
section
variable {J : It} {n : Nat} {G : Hp → Prop} {fx fy : Nat → Option V} {i j : Nat} {te : TE} {σ : L2.St} {H1 : Hp} {D : Addr} {Qd : Hp → Prop} {K : PySem.W.Frag}
theorem wipe2 (hij : i ≠ j) (x y : V) : wipe (((wipe σ [i, j]).set i (some x)).set j (some y)) [i, j] = wipe σ [i, j] := by
  show (((((σ.set j none).set i none).set i (some x)).set j (some y)).set j none).set i none = (σ.set j none).set i none
  rw [List.set_set, List.set_set, List.set_comm _ _ hij, List.set_set, List.set_set]
theorem lcW2 (w : Walk J n G (YPair fx fy)) (hij : i ≠ j) (ys : List V) (hn : ys.length = n) (hs : n < 1000000) (hD : H1 D = none) (hG : ∀ H', Same H1 H' → G H')
    (turn : ∀ (m : Nat) (x x' y : V) (H2 : Hp), ys[m]? = some y → fx m = some x → fy m = some x' → Same H1 H2 → ∀ Q1 : VK, (∀ H4, Same H2 H4 → Q1 y H4) → te (((wipe σ [i, j]).set i (some x)).set j (some x')) H2 Q1)
    (hd : ∀ H', Same H1 H' → H' D = some (.lst ys) → Qd H') :
    ∃ W : Nat → Nat → Hp → Prop, (∃ m, W 0 m (upd H1 D (.lst []))) ∧ ∀ k m H, W k m H →
      (J.stop k H ∧ Qd H) ∨ (J.go k H ∧ ∃ Nx : Hp → Prop, (∀ H', Nx H' → ∃ m', m' < m ∧ W (k + 1) m' H') ∧ ∀ x H', J.yld k H x H' → gTup K 2 (gCons (gName i) (gCons (gName j) gNil)) x (wipe σ [i, j]) H' fun σ2 H2 => wipe σ2 [i, j] = wipe σ [i, j] ∧ tYes σ2 H2 fun b H3 =>
        if b = true then te σ2 H3 fun y H4 => ∃ acc, H4 D = some (.lst acc) ∧ acc.length < sizeLine ∧ Nx (upd H4 D (.lst (acc ++ [y]))) else Nx H3) := by
  subst hn
  refine lc_it w (fun i H' => Same H1 H' ∧ H' D = some (.lst (ys.take i))) ⟨same_mk hD, upd_same⟩ (fun i H' _ q => hG H' q.1) ?_ ?_
  · rintro m x H2 H3 hi ⟨s2, hd2⟩ ⟨T, x1, x2, rfl, hT, rfl, e1, e2⟩
    have hy : ys[m]? = some ys[m] := List.getElem?_eq_getElem hi
    refine ⟨T, _, rfl, SqT.of upd_same, rfl, x1, _, rfl, x2, _, rfl, rfl, wipe2 hij x1 x2, ?_⟩
    have s3 : Same H2 (upd H2 T (.tup [x1, x2])) := same_mk hT
    refine turn m x1 x2 ys[m] _ hy e1 e2 (s2.trans s3) _ fun H4 s4 => ⟨_, s4 _ _ (s3 _ _ hd2), ?_, same_ch ((s2.trans s3).trans s4) hD, ?_⟩
    · rw [List.length_take]
      exact Nat.lt_of_lt_of_le (show min m ys.length < 1000000 by omega) (by decide)
    · rw [upd_same, List.take_succ, hy]
      rfl
  · rintro H' ⟨s, h⟩
    rw [List.take_length] at h
    exact hd H' s h
end
/-! values told by what is true of them, where only tuples count -/
section
variable {J : It} {n : Nat} {G : Hp → Prop} {Y : Nat → Hp → V → Hp → Prop} {j : Nat} {te : TE} {σ : L2.St} {H1 : Hp} {D : Addr} {Qd : Hp → Prop}
def TupS (H H' : Hp) : Prop := ∀ b xs, H b = some (.tup xs) → H' b = some (.tup xs)
theorem TupS.of {H H' : Hp} (s : Same H H') : TupS H H' := fun b xs h => s b _ h
theorem lcR (w : Walk J n G Y) (R : Nat → V → Hp → Prop) (mono : ∀ i y H H', TupS H H' → R i y H → R i y H') (hs : n < 1000000) (hD : H1 D = none) (hG : ∀ H', Same H1 H' → G H')
    (turn : ∀ (i : Nat) (x : V) (H2 H3 : Hp), i < n → Same H1 H2 → Y i H2 x H3 → ∀ Q1 : VK, (∀ y H4, Same H2 H4 → R i y H4 → Q1 y H4) → te ((wipe σ [j]).set j (some x)) H3 Q1)
    (hd : ∀ ys H', ys.length = n → Same H1 H' → H' D = some (.lst ys) → (∀ i y, ys[i]? = some y → R i y H') → Qd H') :
    ∃ W : Nat → Nat → Hp → Prop, (∃ m, W 0 m (upd H1 D (.lst []))) ∧ ∀ i m H, W i m H →
      (J.stop i H ∧ Qd H) ∨ (J.go i H ∧ ∃ Nx : Hp → Prop, (∀ H', Nx H' → ∃ m', m' < m ∧ W (i + 1) m' H') ∧ ∀ x H', J.yld i H x H' → gName j x (wipe σ [j]) H' fun σ2 H2 => wipe σ2 [j] = wipe σ [j] ∧ tYes σ2 H2 fun b H3 =>
        if b = true then te σ2 H3 fun y H4 => ∃ acc, H4 D = some (.lst acc) ∧ acc.length < sizeLine ∧ Nx (upd H4 D (.lst (acc ++ [y]))) else Nx H3) := by
  refine lc_it w (fun i H' => Same H1 H' ∧ ∃ ys, ys.length = i ∧ H' D = some (.lst ys) ∧ ∀ m y, ys[m]? = some y → R m y H') ⟨same_mk hD, [], rfl, upd_same, fun m y h => by cases h⟩ (fun i H' _ q => hG H' q.1) ?_ ?_
  · rintro i x H2 H3 hi ⟨s2, ys, hl, hd2, hr⟩ y
    refine ⟨wipe1 x, ?_⟩
    refine turn i x H2 H3 hi s2 y _ fun v H4 s4 r => ?_
    have hd4 := s4 _ _ hd2
    have up : TupS H4 (upd H4 D (.lst (ys ++ [v]))) := fun b xs h => by
      rw [upd_ne (ne_of h hd4 (by intro z; cases z))]
      exact h
    refine ⟨_, hd4, Nat.lt_of_lt_of_le (show ys.length < 1000000 by omega) (by decide), same_ch (s2.trans s4) hD, ys ++ [v], by rw [List.length_append, hl]; rfl, upd_same, fun m z hm => ?_⟩
    by_cases e : m < ys.length
    · rw [List.getElem?_append_left e] at hm
      exact mono _ _ _ _ up (mono _ _ _ _ (TupS.of s4) (hr m z hm))
    · rw [List.getElem?_append_right (by omega)] at hm
      have e2 : m = ys.length := by
        have := (List.getElem?_eq_some_iff.mp hm).1
        rw [List.length_singleton] at this
        omega
      subst e2
      rw [Nat.sub_self] at hm
      cases hm
      rw [hl]
      exact mono _ _ _ _ up r
  · rintro H' ⟨s, ys, hl, h, hr⟩
    exact hd ys H' hl s h hr
end
section
variable {K : PySem.W.Frag} {i j : Nat} {te : TE} {σ : L2.St} {H : Hp} {v : V} {Q : VK}
theorem lcR_row (xs : List V) (R : Nat → V → Hp → Prop) (mono : ∀ i y H H', TupS H H' → R i y H → R i y H') (hi : σ[i]? = some (some v)) (h : RowAt H v xs) (hs : xs.length < 1000000)
    (turn : ∀ (m : Nat) (x : V) (H2 : Hp), xs[m]? = some x → Same H H2 → ∀ Q1 : VK, (∀ y H4, Same H2 H4 → R m y H4 → Q1 y H4) → te ((wipe σ [j]).set j (some x)) H2 Q1)
    (hd : ∀ D ys H', ys.length = xs.length → Same H H' → H D = none → H' D = some (.lst ys) → (∀ i y, ys[i]? = some y → R i y H') → Q (.ref D) H') : tLc (iSeqV K i) (gName j) tYes te [j] σ H Q := by
  obtain ⟨a, rfl, h1 | h1⟩ := h
  · refine ⟨a, hi, .inl ⟨_, SqT.of h1, fun D hD => lcR (walk_tup (K := K) (a := a) (xs := xs)) R mono hs hD (fun H' s => sameT s (SqT.of h1)) ?_ fun ys H' l s h2 r => hd D ys H' l s hD h2 r⟩⟩
    rintro m x H2 H3 hm s ⟨rfl, hx⟩ Q1 k
    exact turn m x _ hx s Q1 k
  · refine ⟨a, hi, .inr ⟨_, SqL.of h1, fun D hD => lcR (walk_list (K := K) (a := a) (xs := xs)) R mono hs hD (fun H' s => s.seq (SqL.of h1)) ?_ fun ys H' l s h2 r => hd D ys H' l s hD h2 r⟩⟩
    rintro m x H2 H3 hm s ⟨rfl, hx⟩ Q1 k
    exact turn m x _ hx s Q1 k
theorem setR_row {y : Nat} {D0 : Ends} (xs : List V) (R : Nat → V → Hp → Prop) (mono : ∀ i y H H', TupS H H' → R i y H → R i y H') (hi : σ[i]? = some (some v)) (h : RowAt H v xs) (hs : xs.length < 1000000)
    (turn : ∀ (m : Nat) (x : V) (H2 : Hp), xs[m]? = some x → Same H H2 → ∀ Q1 : VK, (∀ y H4, Same H2 H4 → R m y H4 → Q1 y H4) → te ((wipe σ [j]).set j (some x)) H2 Q1)
    (hd : ∀ D ys H', ys.length = xs.length → Same H H' → H D = none → H' D = some (.lst ys) → (∀ i y, ys[i]? = some y → R i y H') → D0.nx (σ.set y (some (.ref D))) H') : tAsg (tLc (iSeqV K i) (gName j) tYes te [j]) (gName y) D0 σ H := by
  show tLc (iSeqV K i) (gName j) tYes te [j] σ H fun x H1 => D0.nx (σ.set y (some x)) H1
  exact lcR_row xs R mono hi h hs turn hd
end
end CB

set_option maxHeartbeats 3900000
/-! own errors of one field, whatever its name -/
namespace XW
open PySem PySem.Spec PyProof.Rows L2
open CB
/-- the error's class: its name in the module, its field, its address, that of its __init__ -/
structure ECl (K : PySem.W.Frag) (mg : Str → Option Value) (nm fl : Str) (C f : Addr) : Prop where
  mg : mg nm = some (.ref C)
  ox : OexC K C
  iC : PySem.W.findIn K (.ref C) "__init__" = some (some (.ref f))
  tI : PySem.W.typeIn K (.ref f) = some (.type "function")
  no : PySem.W.findIn K (.ref C) fl = some none
  xf : XfC K C
  te : PySem.W.exmOne K (.ref C) (.ref C) = some true
def spEIni (fl : Str) (C : Addr) : Sp := fun vs H Q _ => ∃ a x, vs = [.ref a, x] ∧ H a = some (exo a C none) ∧ ∀ dx, H dx = none → dx ≠ a → Q .non (upd (upd H dx (exd dx [(fl, x)])) a (exo a C (some dx)))
/-- what is wanted of the error -/
def EWant (H : Hp) (fl : Str) (C : Addr) (x : V) (E : XK) : Prop := ∀ d H', Same H H' → H d = none → H' d = some (.xd [(fl, x)]) → E (.ref C) (some d) H'
theorem EWant.up {H H' : Hp} {fl : Str} {C : Addr} {x : V} {E : XK} (h : EWant H fl C x E) (s : Same H H') : EWant H' fl C x E := fun d H2 s2 hd he => h d H2 (s.trans s2) (s.free hd) he
theorem del_no {H : Hp} {a b : Addr} (h : b ≠ a) : del H a b = H b := if_neg h
theorem eraise_at {H H1 : Hp} {fl : Str} {C a dx : Addr} {x : V} {E : XK} (s1 : Same H H1) (ha : H1 a = none) (hdx : upd H1 a (exo a C none) dx = none) (hne : dx ≠ a) (k : EWant H fl C x E) :
    ∃ (d : Addr) (fs : List (Str × V)), upd (upd (upd H1 a (exo a C none)) dx (exd dx [(fl, x)])) a (exo a C (some dx)) a = some (exo a C (some d)) ∧ upd (upd (upd H1 a (exo a C none)) dx (exd dx [(fl, x)])) a (exo a C (some dx)) d = some (exd d fs) ∧ H1 d = none ∧
      E (.ref C) (some d) (upd (del (upd (upd (upd H1 a (exo a C none)) dx (exd dx [(fl, x)])) a (exo a C (some dx))) a) d (.xd fs)) := by
  have hn : H1 dx = none := by
    rw [upd_ne hne] at hdx
    exact hdx
  refine ⟨dx, [(fl, x)], upd_same, by rw [upd_ne hne, upd_same], hn, k dx _ (fun b u hb => ?_) (s1.free hn) upd_same⟩
  have hb1 := s1 _ _ hb
  have n1 : b ≠ a := fun e => by rw [e, ha] at hb1; cases hb1
  have n2 : b ≠ dx := fun e => by rw [e, hn] at hb1; cases hb1
  rw [upd_ne n2, del_no n1, upd_ne n1, upd_ne n2, upd_ne n1]
  exact hb1
/-- things that are no texts -/
inductive NoText (H : Hp) : V → Prop
  | non : NoText H .non
  | int (i : Int) : NoText H (.int i)
  | bl (b : Bool) : NoText H (.bl b)
  | lst {a : Addr} {xs : List V} (h : H a = some (.lst xs)) : NoText H (.ref a)
  | tup {a : Addr} {xs : List V} (h : H a = some (.tup xs)) : NoText H (.ref a)
  | dct {a : Addr} {kvs : List (L2.Key × V)} (h : H a = some (.dK kvs)) : NoText H (.ref a)
theorem NoText.ty {K : PySem.W.Frag} {H : Hp} {v : V} (h : NoText H v) : ∃ t : String, TyX K H v (.type t) ∧ PySem.W.kitOne K (.type t) (.type "str") = some false := by
  cases h with
  | non => exact ⟨"NoneType", .base .non, kit_ty (by decide +kernel)⟩
  | int i => exact ⟨"int", .base (.int i), kit_ty (by decide +kernel)⟩
  | bl b => exact ⟨"bool", .base (.bl b), kit_ty (by decide +kernel)⟩
  | lst h => exact ⟨"list", .base (.lst h), kit_ty (by decide +kernel)⟩
  | tup h => exact ⟨"tuple", .base (.tup h), kit_ty (by decide +kernel)⟩
  | dct h => exact ⟨"dict", .base (.dK h), kit_ty (by decide +kernel)⟩
theorem NoText.up {H H' : Hp} {x : V} (h : NoText H x) (s : Same H H') : NoText H' x := by
  cases h with
  | non => exact .non
  | int i => exact .int i
  | bl b => exact .bl b
  | lst h => exact .lst (s _ _ h)
  | tup h => exact .tup (s _ _ h)
  | dct h => exact .dct (s _ _ h)
end XW

set_option maxHeartbeats 3900000
/-! an error of two fields -/
namespace XW
open PySem PySem.Spec PyProof.Rows L2 TL
open CB
structure ECl2 (K : PySem.W.Frag) (mg : Str → Option Value) (nm f1 f2 : Str) (C f : Addr) : Prop where
  mg : mg nm = some (.ref C)
  ox : OexC K C
  iC : PySem.W.findIn K (.ref C) "__init__" = some (some (.ref f))
  tI : PySem.W.typeIn K (.ref f) = some (.type "function")
  no1 : PySem.W.findIn K (.ref C) f1 = some none
  no2 : PySem.W.findIn K (.ref C) f2 = some none
  xf : XfC K C
  te : PySem.W.exmOne K (.ref C) (.ref C) = some true
def spEIni2 (f1 f2 : Str) (C : Addr) : Sp := fun vs H Q _ => ∃ a x y, vs = [.ref a, x, y] ∧ H a = some (exo a C none) ∧ ∀ dx, H dx = none → dx ≠ a → Q .non (upd (upd (upd H dx (exd dx [(f1, x)])) a (exo a C (some dx))) dx (exd dx [(f2, y), (f1, x)]))
def EWant2 (H : Hp) (f1 f2 : Str) (C : Addr) (x y : V) (E : XK) : Prop := ∀ d H', Same H H' → H d = none → H' d = some (.xd [(f2, y), (f1, x)]) → E (.ref C) (some d) H'
theorem EWant2.up {H H' : Hp} {f1 f2 : Str} {C : Addr} {x y : V} {E : XK} (h : EWant2 H f1 f2 C x y E) (s : Same H H') : EWant2 H' f1 f2 C x y E := fun d H2 s2 hd he => h d H2 (s.trans s2) (s.free hd) he
theorem eraise2_at {H H1 : Hp} {f1 f2 : Str} {C a dx : Addr} {x y : V} {E : XK} (s1 : Same H H1) (ha : H1 a = none) (hdx : upd H1 a (exo a C none) dx = none) (hne : dx ≠ a) (k : EWant2 H f1 f2 C x y E) :
    ∃ (d : Addr) (fs : List (Str × V)), upd (upd (upd (upd H1 a (exo a C none)) dx (exd dx [(f1, x)])) a (exo a C (some dx))) dx (exd dx [(f2, y), (f1, x)]) a = some (exo a C (some d)) ∧
      upd (upd (upd (upd H1 a (exo a C none)) dx (exd dx [(f1, x)])) a (exo a C (some dx))) dx (exd dx [(f2, y), (f1, x)]) d = some (exd d fs) ∧ H1 d = none ∧
      E (.ref C) (some d) (upd (del (upd (upd (upd (upd H1 a (exo a C none)) dx (exd dx [(f1, x)])) a (exo a C (some dx))) dx (exd dx [(f2, y), (f1, x)])) a) d (.xd fs)) := by
  have hn : H1 dx = none := by
    rw [upd_ne hne] at hdx
    exact hdx
  refine ⟨dx, [(f2, y), (f1, x)], by rw [upd_ne (Ne.symm hne), upd_same], upd_same, hn, k dx _ (fun b u hb => ?_) (s1.free hn) upd_same⟩
  have hb1 := s1 _ _ hb
  have n1 : b ≠ a := fun e => by rw [e, ha] at hb1; cases hb1
  have n2 : b ≠ dx := fun e => by rw [e, hn] at hb1; cases hb1
  rw [upd_ne n2, del_no n1, upd_ne n2, upd_ne n1, upd_ne n2, upd_ne n1]
  exact hb1
/-- where nothing is raised: the promise for those who let nothing out -/
theorem noX {P : Program} {w : World} {K : PySem.W.Frag} {mg : Str → Option Value} {base : Heap} {k : Nat} {f : Addr} {fd : FuncData} {ps : List Str} {sp : Sp} (F : FnOk P w K mg base (CX P w) k f fd ps sp) :
    FnOk P w K mg base CX0 k f fd ps (fun vs H Q _ => sp vs H Q fun _ _ _ => False) := by
  refine ⟨fun vs H Q E h => F.len vs H Q _ h, fun A outer s H args us vs Q E hr he hb hv h => codeAny_mono (F.run A outer s H args us vs Q _ hr he hb hv h) fun r t q => ?_⟩
  cases r with
  | ok fl => cases fl <;> exact q
  | error e =>
    obtain ⟨_, _, _, _, _, _, _, _, _, _, _, _, z⟩ := (show L2.CX P w outer H s (fun _ _ _ => False) e t from q)
    exact z.elim
end XW

set_option maxHeartbeats 0
/-! what a head asks of classes, tuples and errors -/
namespace HB
open PySem PySem.Spec PyProof.Rows L2 EG RP
def oexB (K : PySem.W.Frag) (C : Addr) : Bool := match K.lookup C with
  | some ⟨.type t, _, .cls cd, sl⟩ => decide (t = "type") && ((match cd.mro with
      | .ref C' :: bm => decide (C' = C) && PySem.HandSPX.refsVE bm
      | _ => false) && (cd.hasDict && (!cd.hasDel && (match sl.toList with
      | [_, _, _, _, some (.builtin n), _] => decide (n = "ValueError.__new__")
      | _ => false))))
  | _ => false
theorem oexB_ok {K : PySem.W.Frag} {C : Addr} (h : oexB K C = true) : ∃ nm q N bs bm sn sub ab col dd k0 k1 k2 k3 k5, K.lookup C = some (excClassObj nm q C N bs bm true sn sub ab col dd k0 k1 k2 k3 k5 "ValueError.__new__") ∧ PySem.HandSPX.refsVE bm = true := by
  unfold oexB at h
  split at h
  · rename_i t dd cd sl ho
    obtain ⟨h1, h⟩ := He.ba h
    obtain ⟨h2, h⟩ := He.ba h
    obtain ⟨h3, h⟩ := He.ba h
    obtain ⟨h4, h5⟩ := He.ba h
    split at h2
    · rename_i C' bm hm
      split at h5
      · rename_i k0 k1 k2 k3 n k5 hs
        obtain ⟨h6, h7⟩ := He.ba h2
        have e1 : t = "type" := of_decide_eq_true h1
        have e2 : C' = C := of_decide_eq_true h6
        have e3 : n = "ValueError.__new__" := of_decide_eq_true h5
        have e4 : sl = #[k0, k1, k2, k3, some (.builtin n), k5] := by
          have := congrArg List.toArray hs
          simpa using this
        obtain ⟨nm, bs, mro, ns, qn, hd, sn, sub, ab, col, del⟩ := cd
        dsimp only at hm h3 h4
        have e5 : del = false := by simpa using h4
        rw [e1, e4, hm, h3, e5, e2, e3] at ho
        exact ⟨nm, qn, ns, bs, bm, sn, sub, ab, col, dd, k0, k1, k2, k3, k5, ho, h7⟩
      · cases h5
    · cases h2
  · cases h
def eqV (a b : Option (Option Value)) : Bool := decide (a = b)
def eclB (K : PySem.W.Frag) (C : Addr) (fl : Str) : Bool := oexB K C && (eqV (PySem.W.findIn K (.ref C) "__setattr__") (some (some (.builtin "object.__setattr__"))) && (decide (PySem.W.subIn K (.ref C) (.type "BaseException") = some true) && (decide (PySem.W.typeIn K (.ref C) = some (.type "type")) &&
  (PySem.W.keepIn K (.ref C) && (eqV (PySem.W.findIn K (.ref C) "__init__") (some (some (.ref (He.ma K C "__init__")))) && (decide (PySem.W.typeIn K (.ref (He.ma K C "__init__")) = some (.type "function")) && (eqV (PySem.W.findIn K (.ref C) fl) (some none) &&
  (xfB K C && decide (PySem.W.exmOne K (.ref C) (.ref C) = some true)))))))))
theorem ecl_of {K : PySem.W.Frag} {C : Addr} {mg : Str → Option Value} {nm fl : Str} (h : eclB K C fl = true) (m : mg nm = some (.ref C)) : XW.ECl K mg nm fl C (He.ma K C "__init__") := by
  obtain ⟨h1, h⟩ := He.ba h
  obtain ⟨h2, h⟩ := He.ba h
  obtain ⟨h3, h⟩ := He.ba h
  obtain ⟨h4, h⟩ := He.ba h
  obtain ⟨h5, h⟩ := He.ba h
  obtain ⟨h6, h⟩ := He.ba h
  obtain ⟨h7, h⟩ := He.ba h
  obtain ⟨h8, h⟩ := He.ba h
  obtain ⟨h9, h10⟩ := He.ba h
  exact ⟨m, ⟨oexB_ok h1, of_decide_eq_true h2, of_decide_eq_true h3, of_decide_eq_true h4, h5⟩, of_decide_eq_true h6, of_decide_eq_true h7, of_decide_eq_true h8, xfB_ok h9, of_decide_eq_true h10⟩
theorem ecl2_of {K : PySem.W.Frag} {C : Addr} {mg : Str → Option Value} {nm f1 f2 : Str} (h : eclB K C f1 = true) (h2 : eqV (PySem.W.findIn K (.ref C) f2) (some none) = true) (m : mg nm = some (.ref C)) : XW.ECl2 K mg nm f1 f2 C (He.ma K C "__init__") := by
  have B := ecl_of (mg := mg) (nm := nm) h m
  exact ⟨B.mg, B.ox, B.iC, B.tI, B.no, of_decide_eq_true h2, B.xf, B.te⟩
def twoB (o : Option Obj) (x y : Str) : Bool := match o with
  | some ⟨.type t, _, .seq its _, _⟩ => decide (t = "tuple") && (match its.toList with
    | [.str a _, .str b _] => decide (a = x) && decide (b = y)
    | _ => false)
  | _ => false
theorem twoB_ok {K : PySem.W.Frag} {a : Addr} {x y : Str} (h : twoB (K.lookup a) x y = true) : ∀ H, SqT K H a [.str x, .str y] := by
  intro H
  unfold twoB at h
  split at h
  · rename_i t dd its n sl ho
    obtain ⟨h1, h2⟩ := He.ba h
    split at h2
    · rename_i p tp q tq hs
      obtain ⟨h3, h4⟩ := He.ba h2
      have e1 : t = "tuple" := of_decide_eq_true h1
      have e2 : p = x := of_decide_eq_true h3
      have e3 : q = y := of_decide_eq_true h4
      refine .inr ⟨_, its, n, ho, by rw [e1], rfl, ?_, ?_⟩
      · have : its.size = 2 := by
          have := congrArg List.length hs
          simpa using this
        rw [this]
        decide
      · rw [hs, e2, e3]
        exact .cons ⟨_, rfl⟩ (.cons ⟨_, rfl⟩ .nil)
    · cases h2
  · cases h
def textsB : List Value → List Str → Bool
  | [], [] => true
  | .str a _ :: vs, z :: zs => decide (a = z) && textsB vs zs
  | _, _ => false
theorem textsB_ok : ∀ {vs : List Value} {zs : List Str}, textsB vs zs = true → Vals (zs.map V.str) vs
  | [], [], _ => .nil
  | [], _ :: _, h => by cases h
  | .str a t :: vs, z :: zs, h => by
    obtain ⟨h1, h2⟩ := He.ba (show (decide (a = z) && textsB vs zs) = true from h)
    have e : a = z := of_decide_eq_true h1
    rw [e]
    exact .cons ⟨t, rfl⟩ (textsB_ok h2)
  | .str _ _ :: _, [], h => by cases h
def rowB (o : Option Obj) (zs : List Str) : Bool := match o with
  | some ⟨.type t, _, .seq its _, _⟩ => decide (t = "tuple") && textsB its.toList zs
  | _ => false
theorem rowB_ok {K : PySem.W.Frag} {a : Addr} {zs : List Str} (hz : zs.length ≤ sizeLine) (h : rowB (K.lookup a) zs = true) : ∀ H, SqT K H a (zs.map V.str) := by
  intro H
  unfold rowB at h
  split at h
  · rename_i t dd its n sl ho
    obtain ⟨h1, h2⟩ := He.ba h
    have e1 : t = "tuple" := of_decide_eq_true h1
    have rv := textsB_ok h2
    refine .inr ⟨_, its, n, ho, by rw [e1], rfl, ?_, rv⟩
    have e : its.size = zs.length := by
      have q := rv.length
      simpa using q.symm
    rw [e]
    exact hz
  · cases h
/-- a class of one's own -/
def clsB (K : PySem.W.Frag) (C : Addr) : Bool :=
  eqV (PySem.W.findIn K (.ref C) "__class__") (some (some (.builtin "object.__class__"))) && (decide (PySem.W.specialIn K (.builtin "object.__class__") "__get__" = some (some (.builtin "getset_descriptor.__get__"))) &&
  (decide (PySem.W.takesIn K (.builtin "object.__class__") = some true) && (decide (PySem.W.mroIn K C (.type "object") = some true) && (eqV (PySem.W.findIn K (.ref C) "__ne__") (some (some (.builtin "object.__ne__"))) &&
  (decide (PySem.W.subIn K (.ref C) (.type "object") = some true) && decide (PySem.W.kitOne K (.ref C) (.ref C) = some true))))))
structure ClsF (K : PySem.W.Frag) (C : Addr) : Prop where
  ha : PySem.W.findIn K (.ref C) "__class__" = some (some (.builtin "object.__class__"))
  hn : PySem.W.specialIn K (.builtin "object.__class__") "__get__" = some (some (.builtin "getset_descriptor.__get__"))
  ht : PySem.W.takesIn K (.builtin "object.__class__") = some true
  hm : PySem.W.mroIn K C (.type "object") = some true
  ne : PySem.W.findIn K (.ref C) "__ne__" = some (some (.builtin "object.__ne__"))
  so : PySem.W.subIn K (.ref C) (.type "object") = some true
  kC : PySem.W.kitOne K (.ref C) (.ref C) = some true
theorem clsB_ok {K : PySem.W.Frag} {C : Addr} (h : clsB K C = true) : ClsF K C := by
  obtain ⟨h1, h⟩ := He.ba h
  obtain ⟨h2, h⟩ := He.ba h
  obtain ⟨h3, h⟩ := He.ba h
  obtain ⟨h4, h⟩ := He.ba h
  obtain ⟨h5, h⟩ := He.ba h
  obtain ⟨h6, h7⟩ := He.ba h
  exact ⟨of_decide_eq_true h1, of_decide_eq_true h2, of_decide_eq_true h3, of_decide_eq_true h4, of_decide_eq_true h5, of_decide_eq_true h6, of_decide_eq_true h7⟩
/-- what its operators ask -/
def tyL : List String := ["NoneType", "int", "bool", "str", "list", "tuple"]
def firB (K : PySem.W.Frag) (C : Addr) : Bool := PySem.W.selfFirst K C && ((tyL.all fun t => decide (PySem.W.kitOne K (.type t) (.ref C) = some false) && PySem.W.notFirst K C (.type t)) && PySem.W.notFirst K C (.ref C))
structure FirF (K : PySem.W.Frag) (C : Addr) : Prop where
  sf : PySem.W.selfFirst K C = true
  kT : ∀ t ∈ (["NoneType", "int", "bool", "str", "list", "tuple"] : List String), PySem.W.kitOne K (.type t) (.ref C) = some false ∧ PySem.W.notFirst K C (.type t) = true
  nC : PySem.W.notFirst K C (.ref C) = true
theorem firB_ok {K : PySem.W.Frag} {C : Addr} (h : firB K C = true) : FirF K C := by
  obtain ⟨h1, h⟩ := He.ba h
  obtain ⟨h2, h3⟩ := He.ba h
  exact ⟨h1, fun t ht => by
    obtain ⟨a, b⟩ := He.ba (List.all_eq_true.mp h2 t ht)
    exact ⟨of_decide_eq_true a, b⟩, h3⟩
/-- no instance of the one class is one of the other -/
def notB (K : PySem.W.Frag) (C D : Addr) : Bool := decide (PySem.W.exmOne K (.ref C) (.ref D) = some false)
end HB

set_option maxHeartbeats 0
/-! what the top left, looked at level by level: each thing is unfolded once -/
namespace HF
open PySem PySem.Spec PyProof.Rows L2
/-- what the things of a level name -/
def under (g : Addr → Option Obj) (as : List Addr) : List Addr := as.flatMap fun a => match g a with
  | none => []
  | some o => He.refsD o
/-- the things that are new, each once -/
def fresh (old : List Addr) : List Addr → List Addr → List Addr
  | acc, [] => acc
  | acc, a :: r => if acc.any (Nat.beq a) || old.any (Nat.beq a) then fresh old acc r else fresh old (a :: acc) r
def levels (g : Addr → Option Obj) : Nat → List Addr → List Addr → List Addr
  | 0, old, top => old ++ top
  | n + 1, old, top => levels g n (old ++ top) (fresh (old ++ top) [] (under g top))
def reach (n : Nat) (g : Addr → Option Obj) : List Addr := levels g n [] [mainGlobals]
abbrev frag (n : Nat) (g : Addr → Option Obj) : PySem.W.Frag := He.frT g (reach n g)
def look (n : Nat) (fa : List He.Fa) (fn : List He.DefD) (tf : List He.Defn) (ex : PySem.W.Frag → Bool) (g : Addr → Option Obj) : He.AlX := (He.obsT fa fn [] (frag n g), ex (frag n g) && He.tabsB g tf (frag n g))
theorem look_says {n : Nat} {fa : List He.Fa} {fn : List He.DefD} {tf : List He.Defn} {ex : PySem.W.Frag → Bool} {w : World} {h : Heap} (e : look n fa fn tf ex h.get? = He.valX fn [] w) : He.SaysX fa fn [] tf ex w h (frag n h.get?) := by
  unfold look at e
  generalize hK : frag n h.get? = K at e ⊢
  have e1 : He.obsT fa fn [] K = He.valT fn [] w := congrArg Prod.fst e
  have e2 : (ex K && He.tabsB h.get? tf K) = true := congrArg Prod.snd e
  obtain ⟨x1, x2⟩ := He.ba e2
  have tab : ∀ p ∈ tf, PySem.W.codeHdIn K (He.cT K p).1 (He.cT K p).2 = true ∧ ∃ o, h.get? (He.cT K p).2 = some o ∧ He.emptyTab o = true := fun p hp => by
    obtain ⟨a, b⟩ := He.ba (List.all_eq_true.mp x2 p hp)
    refine ⟨a, ?_⟩
    cases q : h.get? (He.cT K p).2 with
    | some o =>
      rw [q] at b
      exact ⟨o, rfl, b⟩
    | none =>
      rw [q] at b
      cases b
  refine ⟨e1, x1, fun p hp => (tab p hp).1, fun p hp => ?_, fun p hp => ?_⟩
  · obtain ⟨_, o, q, z⟩ := tab p hp
    rw [← hK] at q ⊢
    exact He.frT_none q z
  · obtain ⟨_, o, q, z⟩ := tab p hp
    rw [q, He.emptyTab_eq z]
end HF

set_option maxHeartbeats 0
namespace R3
open PySem PySem.Spec PyProof.Rows L2 EG RP
def exB (K : PySem.W.Frag) : Bool := HB.eclB K (He.ga K "BadSight") "index" && (HB.eclB K (He.ga K "Apart") "first" && (HB.eqV (PySem.W.findIn K (.ref (He.ga K "Apart")) "second") (some none) && (HB.clsB K (He.ga K "Run") && (HB.firB K (He.ga K "Run") && (HB.twoB (K.lookup (He.ga K "TREE_LOOKS")) "read" "list")))))
def dG (x : Str) (i : Nat) : He.DefD := ⟨(x, none), x, x, defArgs (top i), defBody (top i), defScope (top i), [], []⟩
def dI (x m q : Str) (i j : Nat) (ds : List He.Dv) : He.DefD := ⟨(x, some m), m, q, defArgs (inClass (top i) j), defBody (inClass (top i) j), defScope (inClass (top i) j), ds, []⟩
def fnL : List He.DefD := ([dG "is_name" 11, dG "is_path" 12, dG "is_place" 13, dG "beginning" 14, dG "is_beneath" 15, dG "is_at_or_beneath" 16, dG "rest_in" 17, dG "is_row" 19, dG "as_look" 20, dG "can_look" 21, dG "can_show" 22, dG "is_listing" 23] : List He.DefD) ++ ([dG "is_entry" 24, dG "as_sight" 25, dG "follows_from" 28, dG "lost_by_file" 29, dG "lost_by_names" 30, dG "bar_each_other" 31, dG "denies_some" 32, dG "contraries" 33, dG "contrary_of_entry" 34, dG "first_apart" 35, dG "check_together" 37, dG "sights_of_run" 40] : List He.DefD) ++ ([dG "write_run" 45, dG "read_run" 46, dG "look_text" 47, dG "answer_text" 48, dG "sight_in" 49, dG "outcome_in" 50, dG "look_in" 51, dG "answers_in" 52, dG "is_between" 53, dG "_law_draw" 55, dG "_law_pick" 56, dG "_law_mixed" 57] : List He.DefD) ++ ([dG "_law_same" 58, dG "_law_fresh" 59, dG "_law_pool" 60, dG "_law_path" 61, dG "_law_beneath" 62, dG "_law_has_room" 63, dG "_law_text" 64, dG "_law_files" 65, dG "_law_world" 66, dG "_law_names_in" 67, dG "_law_shows" 68, dG "_law_look" 69] : List He.DefD) ++ ([dG "_law_looks" 70, dG "_law_saw" 71, dG "_law_true_sights" 72, dG "_law_answer_text" 73, dG "_law_run_text" 74, dG "law" 75, dI "BadSight" "__init__" "BadSight.__init__" 3 0 [], dI "Apart" "__init__" "Apart.__init__" 4 0 [], dI "Run" "__init__" "Run.__init__" 39 0 [], dI "Run" "__eq__" "Run.__eq__" 39 4 []] : List He.DefD)
def gloL : List Str := (["is_name", "is_path", "is_place", "beginning", "is_beneath", "is_at_or_beneath", "rest_in", "is_row", "as_look", "can_look", "can_show", "is_listing"] : List PySem.Str) ++ (["is_entry", "as_sight", "follows_from", "lost_by_file", "lost_by_names", "bar_each_other", "denies_some", "contraries", "contrary_of_entry", "first_apart", "check_together", "sights_of_run"] : List PySem.Str) ++ (["write_run", "read_run", "look_text", "answer_text", "sight_in", "outcome_in", "look_in", "answers_in", "is_between", "_law_draw", "_law_pick", "_law_mixed"] : List PySem.Str) ++ (["_law_same", "_law_fresh", "_law_pool", "_law_path", "_law_beneath", "_law_has_room", "_law_text", "_law_files", "_law_world", "_law_names_in", "_law_shows", "_law_look"] : List PySem.Str) ++ (["_law_looks", "_law_saw", "_law_true_sights", "_law_answer_text", "_law_run_text", "law", "BadSight", "Apart", "Run", "TREE_LOOKS"] : List PySem.Str)
def freeL : List Str := (["int", "len", "range", "list", "tuple", "any", "all", "sorted", "isinstance", "enumerate", "zip", "str"] : List Str) ++ (["repr", "min", "max", "dict", "set", "iter"] : List Str)
def conL : List He.Fa := ([.str "STROKE" "/", .str "ROOT" "", .str "LETTERS" "abcdefghijklmnopqrstuvwxyz", .int "LONGEST" 8, .mkr "Run", .meth "Run" "__eq__", .cls "Run", .noat "Run" "sights", .noat "Run" "outcome", .str "SIGN" " : ", .str "NOTHING" "-", .str "QUOTE" "\""] : List He.Fa)
def faL : List He.Fa := (gloL.map fun x => He.Fa.glo x) ++ ((freeL.map fun x => He.Fa.free x) ++ conL)
def tfL : List He.Defn := []
def isD (o : Option Obj) : Bool := match o with
  | some ⟨_, _, .dict _ _, _⟩ => true
  | _ => false
def hkL : PySem.W.Hook where
  α := He.AlX × Bool
  obs := fun s => (HF.look 4 faL fnL tfL exB s.heap.get?, isD (s.heap.get? sysModules))
  val := fun w => (He.valX fnL [] w, true)
  says := fun w h => (∃ K : PySem.W.Frag, K.In h ∧ He.SaysX faL fnL [] tfL exB w h K) ∧ ∃ (o : Obj) (es : Array DictEntry) (n : Nat), h.get? sysModules = some o ∧ o.data = .dict es n
  of := fun w s e => by
    refine ⟨⟨_, He.frT_in, HF.look_says (congrArg (fun z : He.AlX × Bool => z.1) e)⟩, ?_⟩
    have e2 : isD (s.heap.get? sysModules) = true := congrArg (fun z : He.AlX × Bool => z.2) e
    unfold isD at e2
    split at e2
    · rename_i c d es n sl ho
      exact ⟨_, es, n, ho, rfl⟩
    · cases e2
  keeps := fun w h h' ⟨a, o, es, n, h1, h2⟩ k => ⟨(He.hookX 5 faL fnL [] tfL exB).keeps w h h' a k, o, es, n, k _ _ h1, h2⟩
abbrev RL : PySem.W.OpenRow := PySem.W.OpenLaw.row PySem.Challenge.rw_trueagain_k30_run_texts
def obL (s : PySem.W.SharedT) : hkL.α := (HF.look 4 faL fnL tfL exB (HandSHeadRun.getT s), isD (HandSHeadRun.getT s sysModules))
theorem obL_eq (s : PySem.W.SharedT) : obL s = hkL.obs s.abs := by
  have e : HandSHeadRun.getT s = s.abs.heap.get? := funext (HandSHeadRun.getT_eq s)
  show (HF.look 4 faL fnL tfL exB (HandSHeadRun.getT s), isD (HandSHeadRun.getT s sysModules)) = _
  rw [e]
  rfl
def looseL : List PySem.Str := (["_wall", "AgainError", "BadSight", "Apart", "BadLine", "is_name", "is_path", "is_place", "beginning", "is_beneath", "is_at_or_beneath", "rest_in"] : List PySem.Str) ++ (["is_row", "as_look", "can_look", "can_show", "is_listing", "is_entry", "as_sight", "follows_from", "lost_by_file", "lost_by_names", "bar_each_other", "denies_some"] : List PySem.Str) ++ (["contraries", "contrary_of_entry", "first_apart", "check_together", "Run", "sights_of_run", "write_run", "read_run", "look_text", "answer_text", "sight_in", "outcome_in"] : List PySem.Str) ++ (["look_in", "answers_in", "is_between", "_law_draw", "_law_pick", "_law_mixed", "_law_same", "_law_fresh", "_law_pool", "_law_path", "_law_beneath", "_law_has_room"] : List PySem.Str) ++ (["_law_text", "_law_files", "_law_world", "_law_names_in", "_law_shows", "_law_look", "_law_looks", "_law_saw", "_law_true_sights", "_law_answer_text", "_law_run_text", "LETTERS"] : List PySem.Str) ++ (["LONGEST", "STROKE", "ROOT", "TREE_LOOKS", "SIGN", "NOTHING", "QUOTE"] : List PySem.Str)
theorem runL (w : World) : HandSHeadRun.RunEq RL (PySem.W.view RL.prog [75]) hkL obL 20000 looseL w := by
  intro os
  kernel_rfl
end R3

set_option maxHeartbeats 3900000
namespace R3
open PySem PySem.Spec PyProof.Rows L2 TL
open C8 (pss_cut tCut pe_gc)
/-! names, lists of texts -/
def IsNm (z : Str) : Prop := 1 ≤ z.length ∧ z.length ≤ 8 ∧ ∀ c ∈ tl z, 97 ≤ c ∧ c ≤ 122
instance (z : Str) : Decidable (IsNm z) := by unfold IsNm; infer_instance
abbrev letters : Str := "abcdefghijklmnopqrstuvwxyz"
theorem letter_at : ∀ i, i < 26 → (letters.cps.toList)[i]? = some (97 + i) := by decide +kernel
theorem letters_all : ∀ c ∈ letters.cps.toList, 97 ≤ c ∧ c ≤ 122 := by decide +kernel
theorem join_one : ∀ cs : List Nat, tl (Txt.join "" (cs.map fun c => (⟨#[c]⟩ : Str))) = cs
  | [] => by
    rw [join_eq]
    rfl
  | [c] => by
    rw [join_eq]
    rfl
  | c :: d :: r => by
    have ih := join_one (d :: r)
    rw [join_eq] at ih ⊢
    have e : Str.join "" ((c :: d :: r).map fun c => (⟨#[c]⟩ : Str)) = (⟨#[c]⟩ : Str) ++ "" ++ Str.join "" ((d :: r).map fun c => (⟨#[c]⟩ : Str)) := rfl
    rw [e, tl_append, tl_append, ih]
    rfl
theorem len_tl (z : Str) : z.length = (tl z).length := by simp [Str.length, tl]
theorem name_of_letters {cs : List Nat} (h1 : 1 ≤ cs.length) (h8 : cs.length ≤ 8) (h : ∀ c ∈ cs, 97 ≤ c ∧ c ≤ 122) : IsNm (Txt.join "" (cs.map fun c => (⟨#[c]⟩ : Str))) := by
  refine ⟨?_, ?_, ?_⟩
  · rw [len_tl, join_one]
    exact h1
  · rw [len_tl, join_one]
    exact h8
  · rw [join_one]
    exact h
/-- the spare names -/
def spare (i : Nat) : Str := "q" ++ (⟨#[97 + i / 26]⟩ : Str) ++ (⟨#[97 + i % 26]⟩ : Str)
theorem spare_tl (i : Nat) : tl (spare i) = [113, 97 + i / 26, 97 + i % 26] := by
  unfold spare
  rw [tl_append, tl_append]
  rfl
theorem spare_nm {i : Nat} (h : i < 676) : IsNm (spare i) := by
  refine ⟨?_, ?_, ?_⟩
  · rw [len_tl, spare_tl]
    exact Nat.succ_le_succ (Nat.zero_le 2)
  · rw [len_tl, spare_tl]
    exact Nat.le_of_ble_eq_true rfl
  · rw [spare_tl]
    intro c hc
    simp only [List.mem_cons, List.not_mem_nil, or_false] at hc
    omega
theorem spare_inj {i j : Nat} (h : spare i = spare j) : i = j := by
  have e := congrArg tl h
  rw [spare_tl, spare_tl] at e
  simp only [List.cons.injEq, and_true, true_and] at e
  omega
theorem pigeon {α : Type} [DecidableEq α] : ∀ (l m : List α), l.Nodup → (∀ x ∈ l, x ∈ m) → l.length ≤ m.length
  | [], _, _, _ => Nat.zero_le _
  | x :: r, m, nd, h => by
    have hx := h x List.mem_cons_self
    have nd2 := List.nodup_cons.mp nd
    have ih := pigeon r (m.erase x) nd2.2 fun y hy => (List.mem_erase_of_ne fun z => nd2.1 (by rw [← z]; exact hy)).mpr (h y (List.mem_cons_of_mem _ hy))
    rw [List.length_erase_of_mem hx] at ih
    have := List.length_pos_of_mem hx
    rw [List.length_cons]
    omega
theorem spares_many {taken : List Str} (h : ∀ i, i < 676 → spare i ∈ taken) : 100 ≤ taken.length := by
  have q := pigeon ((List.range 100).map spare) taken ?_ ?_
  · rw [List.length_map, List.length_range] at q
    exact q
  · exact List.Pairwise.map spare (fun a b h e => h (spare_inj e)) List.nodup_range
  · intro x hx
    obtain ⟨i, hi, rfl⟩ := List.mem_map.mp hx
    exact h i (by have := List.mem_range.mp hi; omega)
theorem inV_strs (z : Str) : ∀ zs : List Str, inV (.str z) (zs.map V.str) = decide (z ∈ zs)
  | [] => rfl
  | y :: r => by
    have ih := inV_strs z r
    show (eqV (.str y) (.str z) || inV (.str z) (r.map V.str)) = decide (z ∈ y :: r)
    rw [ih]
    show ((y == z) || decide (z ∈ r)) = decide (z ∈ y :: r)
    by_cases e : y = z
    · subst e
      simp
    · have e2 : z ≠ y := fun q => e q.symm
      simp [e, e2]
theorem flat_strs : ∀ zs : List Str, (zs.map V.str).all flatV = true
  | [] => rfl
  | _ :: r => flat_strs r
/-- a list of texts is none of the stream's lists -/
theorem strs_but {H H' : Hp} {st l p : Addr} {c : Nat} {z : Str} {zs : List V} (S : Strm H st l c) (B : But st l H H') (h : H p = some (.lst (.str z :: zs))) : H' p = some (.lst (.str z :: zs)) := by
  obtain ⟨ns, a, m, ⟨h1, h2⟩, _⟩ := S.ex
  refine B _ _ h (ne_of h h1 fun q => ?_) (ne_of h h2 fun q => ?_)
  · have := HO.lst.inj q
    have := (List.cons.inj this).1
    cases this
  · have e : V.str z :: zs = ns.map V.int := HO.lst.inj q
    cases ns with
    | nil => cases e
    | cons n r =>
      rw [List.map_cons] at e
      have := (List.cons.inj e).1
      cases this
end R3

set_option maxHeartbeats 3900000
namespace R3
open PySem PySem.Spec PyProof.Rows L2 TL
open C8 (pss_cut tCut pe_gc)
abbrev sLook : Stmt := top 69
abbrev sLooks : Stmt := top 70
theorem at_map {α β : Type} {f : α → β} {xs : List α} {d : Int} {x : α} (h : atI xs d = some x) : atI (xs.map f) d = some (f x) := by
  unfold atI at h ⊢
  rw [List.length_map]
  cases e : ixN xs.length d with
  | none =>
    rw [e] at h
    cases h
  | some j =>
    rw [e] at h
    have h2 : xs[j]? = some x := h
    show (xs.map f)[j]? = some (f x)
    rw [List.getElem?_map, h2]
    rfl
/-- a def as others call it -/
structure At (K : PySem.W.Frag) (mg : Str → Option Value) (x : Str) (f : Addr) (fd : FuncData) (ps : List Str) : Prop where
  m : mg x = some (.ref f)
  k : PySem.W.keepIn K (.ref f) = true
  b : L2.Binds K fd ps []
structure TB (mg : Str → Option Value) : Prop where
  int : mg "int" = none
  len : mg "len" = none
  range : mg "range" = none
  list : mg "list" = none
  tuple : mg "tuple" = none
  any : mg "any" = none
  all : mg "all" = none
  sorted : mg "sorted" = none
  isinstance : mg "isinstance" = none
  enumerate : mg "enumerate" = none
  zip : mg "zip" = none
  str : mg "str" = none
abbrev aD' (K : PySem.W.Frag) (mg : Str → Option Value) (f : Addr) (fd : FuncData) := At K mg "_law_draw" f fd ["_law_stream", "_law_many"]
def texts : List Str := ["", "x", "y", "x y", "no", "yes", "a/b", "-", "xa", "xb", "X"]
def spText : Sp := fun vs H Q _ => ∃ (st l : Addr) (c : Nat), vs = [.ref st] ∧ Strm H st l c ∧ c ≤ 1000000 ∧
  ∀ (z : Str) (H' : Hp), z ∈ texts → But st l H H' → Strm H' st l (c + 1) → Q (.str z) H'
/-- a list of names, where the stream is none of it -/
structure Pool (H : Hp) (st l p : Addr) (zs : List Str) : Prop where
  h : H p = some (.lst (zs.map V.str))
  n1 : p ≠ st
  n2 : p ≠ l
theorem Pool.but {H H' : Hp} {st l p : Addr} {zs : List Str} (h : Pool H st l p zs) (B : But st l H H') : Pool H' st l p zs := ⟨B _ _ h.h h.n1 h.n2, h.n1, h.n2⟩
def spPath : Sp := fun vs H Q _ => ∃ (st l p : Addr) (c : Nat) (zs : List Str) (most : Int), vs = [.ref st, .ref p, .int most] ∧ Strm H st l c ∧ c ≤ 900000 ∧ Pool H st l p zs ∧ 0 < zs.length ∧ zs.length < 1000 ∧ (∀ z ∈ zs, IsNm z) ∧ 0 < most ∧ most < 1000 ∧
  ∀ (ys : List Str) (H' : Hp) (c' : Nat), 1 ≤ ys.length → (ys.length : Int) ≤ most → (∀ y ∈ ys, y ∈ zs) → But st l H H' → Strm H' st l c' → c' ≤ c + 1 + most.toNat → Q (.str (Txt.join "/" ys)) H'
def spFresh : Sp := fun vs H Q _ => ∃ (st l p : Addr) (c : Nat) (zs : List Str), vs = [.ref st, .ref p] ∧ Strm H st l c ∧ c ≤ 900000 ∧ Pool H st l p zs ∧ zs.length < 100 ∧
  ∀ (z : Str) (H' : Hp) (c' : Nat), IsNm z → z ∉ zs → But st l H H' → Strm H' st l c' → c' ≤ c + 11 → Q (.str z) H'
section
variable {P : Program} {w : World} {K : PySem.W.Frag} {mg : Str → Option Value} {base : Heap} {fD fP fPa fFr : Addr} {fdD fdP fdPa fdFr : FuncData}
theorem scTe : FnScope ["_law_stream"] ["_law_stream"] (defScope sText) := ⟨rfl, rfl, rfl, by decide +kernel, rfl, by decide +kernel, by decide +kernel⟩
theorem ok_text {f : Addr} {fd : FuncData} (F : Fun K "_law_text" "_law_text" sText f fd) (aD : aD' K mg fD fdD) (GD : FnOk P w K mg base CX0 1 fD fdD ["_law_stream", "_law_many"] spDraw) : FnOk P w K mg base CX0 2 f fd ["_law_stream"] spText := by
  refine F.ok scTe (fun vs H Q E h => ?_) (fun cdv A outer s H vs Q E hr h => ?_)
  · obtain ⟨st, l, c, rfl, _⟩ := h
    rfl
  · obtain ⟨st, l, c, rfl, S, hc, k⟩ := h
    refine ⟨_, pss_one (ps_ret (pe_ix ix_list (pe_lst (pa_cons pe_str (pa_cons pe_str (pa_cons pe_str (pa_cons pe_str (pa_cons pe_str (pa_cons pe_str (pa_cons pe_str (pa_cons pe_str (pa_cons pe_str (pa_cons pe_str (pa_cons pe_str pa_nil)))))))))))) (pe_call GD (hr.mono (by decide)) rfl aD.m aD.k aD.b .nil pass0 (pa_cons (pv 0) (pa_cons pe_int pa_nil))) (fun _ _ => rfl))), ?_⟩
    refine ⟨by show 11 ≤ sizeLine; decide, fun p hp => ?_⟩
    have np := S.ne_new hp
    refine ⟨_, rfl, st, l, c, _, rfl, S.up (same_new hp), by omega, by decide, by decide, fun d H' d0 d1 B S' => ?_⟩
    have hp' := B _ _ upd_same np.1 np.2
    obtain ⟨i, x, hx, ha⟩ := at_int (xs := texts.map V.str) d0 (by exact d1)
    obtain ⟨z, hz, rfl⟩ := List.mem_map.mp (List.mem_of_getElem? hx)
    exact ⟨p, texts.map V.str, d, .str z, rfl, rfl, SqL.of hp', ha, k _ _ hz ((But.same (same_new hp)).trans B) S'⟩
theorem scPa : FnScope ["_law_stream", "_law_pool_here", "_law_most", "_law_k"] ["_law_stream", "_law_pool_here", "_law_most"] (defScope sPath) := ⟨rfl, rfl, rfl, by decide +kernel, rfl, by decide +kernel, by decide +kernel⟩
theorem names_len {ys : List Str} (h : ∀ y ∈ ys, y.length ≤ 8) : (ys.map (·.length)).sum ≤ ys.length * 8 := by
  induction ys with
  | nil => exact Nat.le_refl _
  | cons y r ih =>
    have := ih fun z hz => h z (List.mem_cons_of_mem _ hz)
    have := h y List.mem_cons_self
    simp only [List.map_cons, List.sum_cons, List.length_cons]
    omega
theorem ok_path {f : Addr} {fd : FuncData} (F : Fun K "_law_path" "_law_path" sPath f fd) (T : TB mg) (aD : aD' K mg fD fdD) (aP : At K mg "_law_pick" fP fdP ["_law_stream", "_law_things"]) (GD : FnOk P w K mg base CX0 1 fD fdD ["_law_stream", "_law_many"] spDraw)
    (GP : FnOk P w K mg base CX0 2 fP fdP ["_law_stream", "_law_things"] spPick) : FnOk P w K mg base CX0 3 f fd ["_law_stream", "_law_pool_here", "_law_most"] spPath := by
  refine F.ok scPa (fun vs H Q E h => ?_) (fun cdv A outer s H vs Q E hr h => ?_)
  · obtain ⟨st, l, p, c, zs, most, rfl, _⟩ := h
    rfl
  · obtain ⟨st, l, p, c, zs, most, rfl, S, hc, L, z0, z1, nm, m0, m1, k⟩ := h
    refine ⟨_, pss_one (ps_ret (pe_join pe_str (pe_lc (own := [("_law_k", 3)]) (g := gName 3) (tt := tYes) rfl scPa.nd (pi_range1 rfl T.range (pa_cons (pe_op op_add pe_int (pe_call GD (hr.mono (by decide)) rfl aD.m aD.k aD.b .nil pass0 (pa_cons (pv 0) (pa_cons (pv 2) pa_nil)))) pa_nil)) (blkOk_by (own := [("_law_k", 3)]) (N := ["_law_stream", "_law_pool_here", "_law_most", "_law_k"]) (sc := defScope sPath) (by decide +kernel)) (fun _ _ _ _ _ => (pg_name (i := 3) scPa.nd rfl (Or.inl rfl))) (fun _ _ _ _ _ => pts_nil) (fun _ _ _ _ _ => (pe_call GP (hr.mono (by decide)) rfl aP.m aP.k aP.b .nil pass0 (pa_cons (pv 0) (pa_cons (pv 1) pa_nil))))))), ?_⟩
    refine ⟨⟨_, rfl⟩, _, rfl, _, rfl, st, l, c, _, rfl, S, by omega, m0, by omega, fun d H1 d0 d1 B1 S1 => ?_⟩
    obtain ⟨n, hn⟩ : ∃ n : Nat, 1 + d = (n : Int) := ⟨(1 + d).toNat, by omega⟩
    refine ⟨_, _, rfl, rfl, 1 + d, rfl, by omega, by omega, fun D hD => ?_⟩
    rw [show (1 + d).toNat = n by omega]
    refine lc_range (lo := 0) (n := n) (fun i H' => But st l H1 H' ∧ Strm H' st l (c + 1 + i) ∧ ∃ ys : List Str, ys.length = i ∧ H' D = some (.lst (ys.map V.str)) ∧ ∀ y ∈ ys, y ∈ zs)
      ⟨But.same (same_new hD), S1.up (same_new hD), [], rfl, upd_same, by simp⟩ ?_ ?_
    · rintro i H' hi ⟨B', S', ys, hy, hD', hs⟩
      have nD := S1.ne_new hD
      have L' := L.but (B1.trans B')
      refine ⟨rfl, _, rfl, _, rfl, .inl ⟨st, l, c + 1 + i, p, zs.map V.str, rfl, S', by omega, L'.h, L'.n1, L'.n2, by rw [List.length_map]; exact z0, by rw [List.length_map]; exact z1, fun j x H'' hx B'' S'' => ?_⟩⟩
      obtain ⟨z, hz, rfl⟩ := List.mem_map.mp (List.mem_of_getElem? hx)
      refine ⟨_, B'' _ _ hD' nD.1 nD.2, ?_, (B'.trans B'').put hD, S''.put nD, ys ++ [z], ?_, ?_, fun y hy' => ?_⟩
      · rw [List.length_map, hy]
        exact Nat.lt_of_lt_of_le (show i < 1001 by omega) (by decide)
      · rw [List.length_append, hy]
        rfl
      · rw [upd_same, List.map_append]
        rfl
      · rcases List.mem_append.mp hy' with q | q
        · exact hs y q
        · rw [List.mem_singleton.mp q]
          exact hz
    · rintro H' ⟨B', S', ys, hy, hD', hs⟩
      refine ⟨_, D, ys, rfl, rfl, .inl (SqL.of hD'), ?_, k ys H' (c + 1 + n) (by omega) (by omega) hs (B1.trans B') S' (by omega)⟩
      have := names_len fun y q => (nm y (hs y q)).2.1
      have e : (("/" : Str).length) = 1 := by decide
      rw [e]
      omega
def fwords : List Str := ["read", "list", "setting", "tool", "end", "main", "none"]
theorem fwords_nm : ∀ z ∈ fwords, IsNm z := by decide +kernel
def nums : List Int := [1, 1, 1, 2, 3, 8]
theorem nums_ok : ∀ n ∈ nums, 1 ≤ n ∧ n ≤ 8 := by decide
theorem scFr : FnScope ["_law_stream", "_law_taken", "_law_letters", "_law_words", "_law_k", "_law_name", "_law_spare"] ["_law_stream", "_law_taken"] (defScope sFresh) := ⟨rfl, rfl, rfl, by decide +kernel, rfl, by decide +kernel, by decide +kernel⟩
theorem ok_fresh {f : Addr} {fd : FuncData} (F : Fun K "_law_fresh" "_law_fresh" sFresh f fd) (T : TB mg) (aD : aD' K mg fD fdD) (aP : At K mg "_law_pick" fP fdP ["_law_stream", "_law_things"]) (GD : FnOk P w K mg base CX0 1 fD fdD ["_law_stream", "_law_many"] spDraw)
    (GP : FnOk P w K mg base CX0 2 fP fdP ["_law_stream", "_law_things"] spPick) : FnOk P w K mg base CX0 3 f fd ["_law_stream", "_law_taken"] spFresh := by
  refine F.ok scFr (fun vs H Q E h => ?_) (fun cdv A outer s H vs Q E hr h => ?_)
  · obtain ⟨st, l, p, c, zs, rfl, _⟩ := h
    rfl
  · obtain ⟨st, l, p, c, zs, rfl, S, hc, L, z1, k⟩ := h
    refine ⟨_, pss_cut (ps_asg (pe_tup (pa_cons pe_str (pa_cons (pe_lst (pa_cons pe_str (pa_cons pe_str (pa_cons pe_str (pa_cons pe_str (pa_cons pe_str (pa_cons pe_str (pa_cons pe_str pa_nil)))))))) pa_nil))) (pg_tup rfl (pgs_cons (pg_name (i := 2) scFr.nd rfl (Or.inr rfl)) (pgs_cons (pg_name (i := 3) scFr.nd rfl (Or.inl rfl)) pgs_nil))))
        (pss_cut (ps_set (i := 5) scFr.nd rfl (Or.inl rfl) (pe_join pe_str (pe_lc (own := [("_law_k", 4)]) (g := gName 4) (tt := tYes) rfl scFr.nd (pi_range1 rfl T.range (pa_cons (pe_ix ix_list (pe_lst (pa_cons pe_int (pa_cons pe_int (pa_cons pe_int (pa_cons pe_int (pa_cons pe_int (pa_cons pe_int pa_nil))))))) (pe_call GD (hr.mono (by decide)) rfl aD.m aD.k aD.b .nil pass0 (pa_cons (pv 0) (pa_cons pe_int pa_nil))) (fun _ _ => rfl)) pa_nil)) (blkOk_by (own := [("_law_k", 4)]) (N := ["_law_stream", "_law_taken", "_law_letters", "_law_words", "_law_k", "_law_name", "_law_spare"]) (sc := defScope sFresh) (by decide +kernel)) (fun _ _ _ _ _ => (pg_name (i := 4) scFr.nd rfl (Or.inl rfl))) (fun _ _ _ _ _ => pts_nil) (fun _ _ _ _ _ => (pe_ix ix_str (pv 2) (pe_call GD (hr.mono (by decide)) rfl aD.m aD.k aD.b .nil pass0 (pa_cons (pv 0) (pa_cons pe_int pa_nil))) (fun _ _ => rfl))))))
        (pss_cut (ps_set (i := 5) scFr.nd rfl (Or.inl rfl) (pe_ifExp (pt_cmpR op_eq (pe_call GD (hr.mono (by decide)) rfl aD.m aD.k aD.b .nil pass0 (pa_cons (pv 0) (pa_cons pe_int pa_nil))) pe_int (nomark _)) (pe_call GP (hr.mono (by decide)) rfl aP.m aP.k aP.b .nil pass0 (pa_cons (pv 0) (pa_cons (pv 3) pa_nil))) (pv 5)))
        (pss_cut (ps_for PassesOwn.never rfl (pi_range1 rfl T.range (pa_cons (pe_op op_mul pe_int (pe_callTy call_int1 (by rfl) T.int (by decide +kernel) (pa_cons (pe_cmpR op_in_seq (pv 5) (pv 1) (by rfl)) pa_nil))) pa_nil)) (pg_name (i := 4) scFr.nd rfl (Or.inl rfl)) (pss_cut (ps_set (i := 6) scFr.nd rfl (Or.inl rfl) (pe_op op_add_str (pe_op op_add_str pe_str (pe_ix ix_str (pv 2) (pe_op op_fdiv (pv 4) pe_int) (fun _ _ => rfl))) (pe_ix ix_str (pv 2) (pe_op op_mod (pv 4) pe_int) (fun _ _ => rfl))))
        (pss_one (ps_if (pt_cmpR op_notIn_seq (pv 6) (pv 1) (by rfl)) (pss_one (ps_ret (pv 6))) (pss_nil)))))
        (pss_one (ps_ret (pv 5)))))), ?_⟩
    -- letters, words
    refine ⟨fun σ H' => ∃ q, σ = [some (.ref st), some (.ref p), some (.str letters), some (.ref q), none, none, none] ∧ But st l H H' ∧ Strm H' st l c ∧ Pool H' st l q fwords, ?_, ?_⟩
    · refine ⟨by show 7 ≤ sizeLine; decide, fun q hq => ⟨by show 2 ≤ sizeLine; decide, fun t ht => ?_⟩⟩
      have nq := S.ne_new hq
      have nt : q ≠ t := ne_of_none upd_same ht
      have s1 : Same H (upd (upd H q (.lst (fwords.map V.str))) t (.tup [.str letters, .ref q])) := (same_new hq).trans (same_new ht)
      exact ⟨t, _, rfl, SqT.of upd_same, rfl, _, _, rfl, _, _, rfl, rfl, q, rfl, But.same s1, S.up s1, ⟨by rw [upd_ne nt]; exact upd_same, nq.1, nq.2⟩⟩
    rintro _ H1 ⟨q, rfl, B1, S1, Lq⟩
    -- name = ''.join(..)
    refine ⟨fun σ H' => ∃ z x4 c', σ = [some (.ref st), some (.ref p), some (.str letters), some (.ref q), x4, some (.str z), none] ∧ IsNm z ∧ But st l H H' ∧ Strm H' st l c' ∧ c' ≤ c + 9 ∧ Pool H' st l q fwords, ?_, ?_⟩
    · refine ⟨⟨_, rfl⟩, by show 6 ≤ sizeLine; decide, fun u hu => ⟨_, rfl, st, l, c, _, rfl, S1.up (same_new hu), by omega, by decide, by decide, fun d H2 d0 d1 B2 S2 => ?_⟩⟩
      have nu := S1.ne_new hu
      have hu' := B2 _ _ upd_same nu.1 nu.2
      obtain ⟨i, x, hx, ha⟩ := at_int (xs := nums) d0 (by exact d1)
      obtain ⟨x0, x8⟩ := nums_ok x (List.mem_of_getElem? hx)
      obtain ⟨n, rfl⟩ := Int.eq_ofNat_of_zero_le (show 0 ≤ x by omega)
      have ha2 : atI (nums.map V.int) d = some (.int (n : Int)) := at_map ha
      refine ⟨u, _, d, _, rfl, rfl, SqL.of hu', ha2, (n : Int), rfl, by omega, by omega, fun D hD => ?_⟩
      have B02 : But st l H1 H2 := (But.same (same_new hu)).trans B2
      have nD := S2.ne_new hD
      refine lc_range (lo := 0) (n := n) (fun i H' => But st l H2 H' ∧ Strm H' st l (c + 1 + i) ∧ ∃ ys : List Nat, ys.length = i ∧ H' D = some (.lst ((ys.map fun c => (⟨#[c]⟩ : Str)).map V.str)) ∧ ∀ y ∈ ys, 97 ≤ y ∧ y ≤ 122)
        ⟨But.same (same_new hD), S2.up (same_new hD), [], rfl, upd_same, by simp⟩ ?_ ?_
      · rintro i H' hi ⟨B', S', ys, hy, hD', hs⟩
        refine ⟨rfl, _, rfl, _, rfl, st, l, c + 1 + i, _, rfl, S', by omega, by decide, by decide, fun e H'' e0 e1 B'' S'' => ?_⟩
        obtain ⟨j, y, hj, hat⟩ := at_int (xs := letters.cps.toList) e0 (by exact e1)
        refine ⟨letters, e, y, rfl, rfl, by decide, hat, _, B'' _ _ hD' nD.1 nD.2, ?_, (B'.trans B'').put hD, S''.put nD, ys ++ [y], ?_, ?_, fun v hv => ?_⟩
        · rw [List.length_map, List.length_map, hy]
          exact Nat.lt_of_lt_of_le (show i < 1001 by omega) (by decide)
        · rw [List.length_append, hy]
          rfl
        · rw [upd_same, List.map_append, List.map_append]
          rfl
        · rcases List.mem_append.mp hv with g | g
          · exact hs v g
          · rw [List.mem_singleton.mp g]
            exact letters_all y (List.mem_of_getElem? hj)
      · rintro H' ⟨B', S', ys, hy, hD', hs⟩
        refine ⟨_, D, ys.map fun c => ⟨#[c]⟩, rfl, rfl, .inl (SqL.of hD'), ?_, _, none, c + 1 + n, rfl, name_of_letters (by omega) (by omega) hs, B1.trans (B02.trans B'), S', by omega, (Lq.but B02).but B'⟩
        have := names_len (ys := ys.map fun c => (⟨#[c]⟩ : Str)) fun y q => by
          obtain ⟨c, _, rfl⟩ := List.mem_map.mp q
          exact (by decide : 1 ≤ 8)
        have e : (("" : Str).length) = 0 := by decide
        rw [e]
        rw [List.length_map] at this ⊢
        omega
    rintro _ H2 ⟨z, x4, c2, rfl, nz, B2, S2, hc2, Lq2⟩
    -- name = pick(words) if draw(9) == 0 else name
    refine ⟨fun σ H' => ∃ z x4 c', σ = [some (.ref st), some (.ref p), some (.str letters), some (.ref q), x4, some (.str z), none] ∧ IsNm z ∧ But st l H H' ∧ Strm H' st l c' ∧ c' ≤ c + 11, ?_, ?_⟩
    · refine ⟨_, rfl, st, l, c2, _, rfl, S2, by omega, by decide, by decide, fun d H3 d0 d1 B3 S3 => ⟨rfl, _, rfl, ?_⟩⟩
      refine ite2 (fun _ => ?_) (fun _ => ?_)
      · have Lq3 := Lq2.but B3
        refine ⟨_, rfl, _, rfl, .inl ⟨st, l, c2 + 1, q, _, rfl, S3, by omega, Lq3.h, Lq3.n1, Lq3.n2, by decide, by decide, fun j x H4 hx B4 S4 => ?_⟩⟩
        obtain ⟨y, hy, rfl⟩ := List.mem_map.mp (List.mem_of_getElem? hx)
        exact ⟨y, x4, c2 + 1 + 1, rfl, fwords_nm y hy, (B2.trans B3).trans B4, S4, by omega⟩
      · exact ⟨_, rfl, z, x4, c2 + 1, rfl, nz, B2.trans B3, S3, by omega⟩
    rintro _ H3 ⟨z, x4, c3, rfl, nz, B3, S3, hc3⟩
    have L3 := L.but B3
    -- the spare names
    refine ⟨fun σ H' => ∃ x4 x6, σ = [some (.ref st), some (.ref p), some (.str letters), some (.ref q), x4, some (.str z), x6] ∧ H' = H3 ∧ z ∉ zs, ?_, ?_⟩
    · refine ⟨_, rfl, _, rfl, p, _, rfl, .inl (SqL.of L3.h), rfl, flat_strs zs, .inr ⟨_, rfl, _, _, rfl, rfl, .inl ⟨by decide, by decide⟩, ?_⟩⟩
      have fz : (if false = true then !inV (.str z) (zs.map V.str) else inV (.str z) (zs.map V.str)) = decide (z ∈ zs) := inV_strs z zs
      rw [fz]
      by_cases hz : z ∈ zs
      · rw [decide_eq_true hz]
        refine ⟨676, rfl, by decide, by decide, for_range (lo := 0) (n := 676) (fun i σ H' => ∃ x4 x6, σ = [some (.ref st), some (.ref p), some (.str letters), some (.ref q), x4, some (.str z), x6] ∧ H' = H3 ∧ ∀ j, j < i → spare j ∈ zs)
          ⟨x4, none, rfl, rfl, fun j hj => absurd hj (Nat.not_lt_zero j)⟩ ?_ ?_⟩
        · rintro i _ H4 hi ⟨y4, y6, rfl, rfl, hs⟩
          have q1 : (0 + (i : Int)) / 26 = ((i / 26 : Nat) : Int) := by omega
          have q2 : (0 + (i : Int)) % 26 = ((i % 26 : Nat) : Int) := by omega
          refine ⟨fun σ H' => σ = [some (.ref st), some (.ref p), some (.str letters), some (.ref q), some (.int (0 + i)), some (.str z), some (.str (spare i))] ∧ H' = H4, ?_, ?_⟩
          · refine ⟨_, rfl, _, rfl, _, _, rfl, rfl, ⟨by decide, by decide⟩, letters, _, 97 + i / 26, rfl, rfl, by decide, ?_, _, _, rfl, rfl, (show 2 ≤ sizeLine by decide), _, rfl, _, rfl, _, _, rfl, rfl, (by show (0 : Int) < 26; decide), letters, _, 97 + i % 26, rfl, rfl, by decide, ?_, _, _, rfl, rfl, (show 3 ≤ sizeLine by decide), rfl, rfl⟩
            · rw [q1]
              exact atI_nat (letter_at _ (by omega))
            · rw [q2]
              exact atI_nat (letter_at _ (by omega))
          rintro _ _ ⟨rfl, rfl⟩
          refine ⟨_, rfl, _, rfl, p, _, rfl, .inl (SqL.of L3.h), rfl, flat_strs zs, ?_⟩
          have fs : (if true = true then !inV (.str (spare i)) (zs.map V.str) else inV (.str (spare i)) (zs.map V.str)) = !decide (spare i ∈ zs) := congrArg (! ·) (inV_strs (spare i) zs)
          rw [fs]
          by_cases hsp : spare i ∈ zs
          · rw [decide_eq_true hsp]
            refine ⟨_, rfl, iteF ⟨_, _, rfl, rfl, fun j hj => ?_⟩⟩
            rcases Nat.lt_succ_iff_lt_or_eq.mp hj with g | g
            · exact hs j g
            · rw [g]
              exact hsp
          · rw [decide_eq_false hsp]
            exact ⟨_, rfl, iteT ⟨_, rfl, k _ _ c3 (spare_nm hi) hsp B3 S3 hc3⟩⟩
        · rintro _ _ ⟨y4, y6, rfl, rfl, hs⟩
          have := spares_many hs
          omega
      · rw [decide_eq_false hz]
        refine ⟨0, rfl, by decide, by decide, for_range (lo := 0) (n := 0) (fun i σ H' => ∃ x4 x6, σ = [some (.ref st), some (.ref p), some (.str letters), some (.ref q), x4, some (.str z), x6] ∧ H' = H3) ⟨x4, none, rfl, rfl⟩ (fun i _ _ hi => absurd hi (Nat.not_lt_zero i)) ?_⟩
        rintro _ _ ⟨y4, y6, rfl, rfl⟩
        exact ⟨y4, y6, rfl, rfl, hz⟩
    rintro _ _ ⟨x4, x6, rfl, rfl, nin⟩
    exact ⟨_, rfl, k z _ c3 nz nin B3 S3 hc3⟩
end
end R3

set_option maxHeartbeats 3900000
namespace R3
open PySem PySem.Spec PyProof.Rows L2 TL
open C8 (pss_cut tCut pe_gc)
def spPool : Sp := fun vs H Q _ => ∃ (st l : Addr) (c : Nat) (many : Int), vs = [.ref st, .int many] ∧ Strm H st l c ∧ c ≤ 800000 ∧ 0 ≤ many ∧ many ≤ 50 ∧
  ∀ (p : Addr) (zs : List Str) (H' : Hp) (c' : Nat), (zs.length : Int) = many → zs.Nodup → (∀ z ∈ zs, IsNm z) → H p = none → Pool H' st l p zs → But st l H H' → Strm H' st l c' → c' ≤ c + 11 * many.toNat → Q (.ref p) H'
/-- a look: a file's, a folder's (no name: the root), a setting's, the tool's -/
inductive Lk
  | rd (p : List Str)
  | ls (p : List Str)
  | se (n : Str)
  | tl
deriving DecidableEq
abbrev js (p : List Str) : Str := Txt.join "/" p
def lkV : Lk → List V
  | .rd p => [.str "read", .str (js p)]
  | .ls p => [.str "list", .str (js p)]
  | .se n => [.str "setting", .str n]
  | .tl => [.str "tool"]
/-- a look over some names, with at most so many on a way -/
def LkOn (zs : List Str) (m : Nat) : Lk → Prop
  | .rd p => p ≠ [] ∧ p.length ≤ m ∧ ∀ y ∈ p, y ∈ zs
  | .ls p => p.length ≤ m ∧ ∀ y ∈ p, y ∈ zs
  | .se n => n ∈ zs
  | .tl => True
def spLook : Sp := fun vs H Q _ => ∃ (st l p : Addr) (c : Nat) (zs : List Str), vs = [.ref st, .ref p] ∧ Strm H st l c ∧ c ≤ 800000 ∧ Pool H st l p zs ∧ 0 < zs.length ∧ zs.length < 1000 ∧ (∀ z ∈ zs, IsNm z) ∧
  ∀ (t : Addr) (k : Lk) (H' : Hp) (c' : Nat), LkOn zs 3 k → H t = none → H' t = some (.tup (lkV k)) → But st l H H' → Strm H' st l c' → c' ≤ c + 6 → Q (.ref t) H'
section
variable {P : Program} {w : World} {K : PySem.W.Frag} {mg : Str → Option Value} {base : Heap} {fD fP fPa fFr : Addr} {fdD fdP fdPa fdFr : FuncData}
theorem scPo : FnScope ["_law_stream", "_law_many", "_law_found", "_law_k"] ["_law_stream", "_law_many"] (defScope sPool) := ⟨rfl, rfl, rfl, by decide +kernel, rfl, by decide +kernel, by decide +kernel⟩
theorem But.none {st l p : Addr} {H H' : Hp} (B : But st l H H') (h : H' p = Option.none) (n : p ≠ st ∧ p ≠ l) : H p = Option.none := by
  cases e : H p with
  | none => rfl
  | some o =>
    rw [B p o e n.1 n.2] at h
    cases h
theorem ok_pool {f : Addr} {fd : FuncData} (F : Fun K "_law_pool" "_law_pool" sPool f fd) (T : TB mg) (aFr : At K mg "_law_fresh" fFr fdFr ["_law_stream", "_law_taken"]) (GFr : FnOk P w K mg base CX0 3 fFr fdFr ["_law_stream", "_law_taken"] spFresh) : FnOk P w K mg base CX0 4 f fd ["_law_stream", "_law_many"] spPool := by
  refine F.ok scPo (fun vs H Q E h => ?_) (fun cdv A outer s H vs Q E hr h => ?_)
  · obtain ⟨st, l, c, many, rfl, _⟩ := h
    rfl
  · obtain ⟨st, l, c, many, rfl, S, hc, m0, m1, k⟩ := h
    obtain ⟨n, rfl⟩ := Int.eq_ofNat_of_zero_le m0
    refine ⟨_, pss_cut (ps_set (i := 2) scPo.nd rfl (Or.inl rfl) (pe_lst pa_nil))
        (pss_cut (ps_for PassesOwn.never rfl (pi_range1 rfl T.range (pa_cons (pv 1) pa_nil)) (pg_name (i := 3) scPo.nd rfl (Or.inl rfl)) (pss_one (ps_expr (pe_bm PySem.F.plainAttrs_list PySem.F.slot_list_append PySem.F.type_list_append mt_append (pv 2) (pa_cons (pe_call GFr (hr.mono (by decide)) rfl aFr.m aFr.k aFr.b .nil pass0 (pa_cons (pv 0) (pa_cons (pv 2) pa_nil))) pa_nil)))))
        (pss_one (ps_ret (pv 2)))), ?_⟩
    refine ⟨fun σ H' => ∃ p, σ = [some (.ref st), some (.int n), some (.ref p), none] ∧ H p = none ∧ H' = upd H p (.lst []), ⟨Nat.zero_le _, fun p hp => ⟨p, rfl, hp, rfl⟩⟩, ?_⟩
    rintro _ _ ⟨p, rfl, hp, rfl⟩
    have np := S.ne_new hp
    refine ⟨fun σ H' => ∃ x3 zs, σ = [some (.ref st), some (.int n), some (.ref p), x3] ∧ zs.length = n ∧ zs.Nodup ∧ (∀ z ∈ zs, IsNm z) ∧ Pool H' st l p zs ∧ But st l H H' ∧ ∃ c', Strm H' st l c' ∧ c' ≤ c + 11 * n, ?_, ?_⟩
    · refine ⟨_, rfl, n, rfl, by omega, by omega, for_range (lo := 0) (n := n) (fun i σ H' => ∃ x3 zs, σ = [some (.ref st), some (.int n), some (.ref p), x3] ∧ zs.length = i ∧ zs.Nodup ∧ (∀ z ∈ zs, IsNm z) ∧ Pool H' st l p zs ∧ But st l H H' ∧ ∃ c', Strm H' st l c' ∧ c' ≤ c + 11 * i)
        ⟨none, [], rfl, rfl, List.nodup_nil, by simp, ⟨upd_same, np.1, np.2⟩, But.same (same_new hp), c, S.up (same_new hp), by omega⟩ ?_ fun _ _ h => h⟩
      rintro i _ H1 hi ⟨x3, zs, rfl, hz, nd, nm, L, B, c1, S1, hc1⟩
      refine ⟨_, rfl, .inl ⟨rfl, _, SqL.of L.h⟩, _, rfl, _, rfl, st, l, p, c1, zs, rfl, S1, by omega, L, by omega, fun z H2 c2 nz nin B2 S2 hc2 => ?_⟩
      have L2 := L.but B2
      refine ⟨p, _, _, rfl, rfl, L2.h, ?_, _, zs ++ [z], rfl, by rw [List.length_append, hz]; rfl, List.nodup_append.mpr ⟨nd, List.nodup_cons.mpr ⟨by simp, List.nodup_nil⟩, ?_⟩, ?_, ⟨?_, L2.n1, L2.n2⟩, (B.trans B2).put hp, c2, S2.put np, by omega⟩
      · rw [List.length_map, hz]
        exact Nat.lt_of_lt_of_le (show i < 1001 by omega) (by decide)
      · intro a ha b hb e
        rw [e, List.mem_singleton.mp hb] at ha
        exact nin ha
      · intro y hy
        rcases List.mem_append.mp hy with q | q
        · exact nm y q
        · rw [List.mem_singleton.mp q]
          exact nz
      · rw [upd_same, List.map_append]
        rfl
    rintro _ H2 ⟨x3, zs, rfl, hz, nd, nm, L, B, c', S', hc'⟩
    exact ⟨_, rfl, k p zs H2 c' (by omega) nd nm hp L B S' (by omega)⟩
theorem scLo : FnScope ["_law_stream", "_law_pool_here", "_law_way"] ["_law_stream", "_law_pool_here"] (defScope sLook) := ⟨rfl, rfl, rfl, by decide +kernel, rfl, by decide +kernel, by decide +kernel⟩
theorem ok_look {f : Addr} {fd : FuncData} (F : Fun K "_law_look" "_law_look" sLook f fd) (T : TB mg) (aD : aD' K mg fD fdD) (aP : At K mg "_law_pick" fP fdP ["_law_stream", "_law_things"]) (aPa : At K mg "_law_path" fPa fdPa ["_law_stream", "_law_pool_here", "_law_most"]) (GD : FnOk P w K mg base CX0 1 fD fdD ["_law_stream", "_law_many"] spDraw)
    (GP : FnOk P w K mg base CX0 2 fP fdP ["_law_stream", "_law_things"] spPick) (GPa : FnOk P w K mg base CX0 3 fPa fdPa ["_law_stream", "_law_pool_here", "_law_most"] spPath) : FnOk P w K mg base CX0 4 f fd ["_law_stream", "_law_pool_here"] spLook := by
  refine F.ok scLo (fun vs H Q E h => ?_) (fun cdv A outer s H vs Q E hr h => ?_)
  · obtain ⟨st, l, p, c, zs, rfl, _⟩ := h
    rfl
  · obtain ⟨st, l, p, c, zs, rfl, S, hc, L, z0, z1, nm, k⟩ := h
    refine ⟨_, pss_cut (ps_set (i := 2) scLo.nd rfl (Or.inl rfl) (pe_call GD (hr.mono (by decide)) rfl aD.m aD.k aD.b .nil pass0 (pa_cons (pv 0) (pa_cons pe_int pa_nil))))
        (pss_cons (ps_if (pt_cmpR op_lt (pv 2) pe_int (nomark _)) (pss_one (ps_ret (pe_tup (pa_cons pe_str (pa_cons (pe_call GPa (hr.mono (by decide)) rfl aPa.m aPa.k aPa.b .nil pass0 (pa_cons (pv 0) (pa_cons (pv 1) (pa_cons pe_int pa_nil)))) pa_nil))))) (pss_nil))
        (pss_cons (ps_if (pt_cmpR op_lt (pv 2) pe_int (nomark _)) (pss_one (ps_ret (pe_tup (pa_cons pe_str (pa_cons (pe_ifExp (pt_cmpR op_eq (pe_call GD (hr.mono (by decide)) rfl aD.m aD.k aD.b .nil pass0 (pa_cons (pv 0) (pa_cons pe_int pa_nil))) pe_int (nomark _)) pe_str (pe_call GPa (hr.mono (by decide)) rfl aPa.m aPa.k aPa.b .nil pass0 (pa_cons (pv 0) (pa_cons (pv 1) (pa_cons pe_int pa_nil))))) pa_nil))))) (pss_nil))
        (pss_one (ps_ret (pe_ifExp (pt_cmpR op_eq (pv 2) pe_int (nomark _)) (pe_tup (pa_cons pe_str (pa_cons (pe_call GP (hr.mono (by decide)) rfl aP.m aP.k aP.b .nil pass0 (pa_cons (pv 0) (pa_cons (pv 1) pa_nil))) pa_nil))) (pe_tup (pa_cons pe_str pa_nil))))))), ?_⟩
    refine ⟨fun σ H' => ∃ d : Int, σ = [some (.ref st), some (.ref p), some (.int d)] ∧ But st l H H' ∧ Strm H' st l (c + 1), ⟨_, rfl, st, l, c, _, rfl, S, by omega, by decide, by decide, fun d H' d0 d1 B S' => ⟨d, rfl, B, S'⟩⟩, ?_⟩
    rintro _ H1 ⟨d, rfl, B1, S1⟩
    have L1 := L.but B1
    have fin : ∀ (k' : Lk) (H2 : Hp) (c2 : Nat) (t : Addr), LkOn zs 3 k' → But st l H1 H2 → Strm H2 st l c2 → c2 ≤ c + 6 → H2 t = none → Q (.ref t) (upd H2 t (.tup (lkV k'))) := fun k' H2 c2 t o B2 S2 hc2 ht =>
      k t k' _ c2 o (But.none (B1.trans B2) ht (S2.ne_new ht)) upd_same ((B1.trans B2).put (But.none (B1.trans B2) ht (S2.ne_new ht))) (S2.up (same_new ht)) hc2
    refine ⟨_, rfl, _, _, rfl, rfl, _, rfl, ite2 (fun _ => ?_) (fun _ => ?_)⟩
    · refine ⟨_, rfl, _, rfl, st, l, p, c + 1, zs, 3, rfl, S1, by omega, L1, z0, z1, nm, by decide, by decide, fun ys H2 c2 y1 y2 hy B2 S2 hc2 => ⟨by show 2 ≤ sizeLine; decide, fun t ht => ?_⟩⟩
      exact fin (.rd ys) H2 c2 t ⟨by rintro rfl; exact absurd y1 (by decide), by omega, hy⟩ B2 S2 (by omega) ht
    refine ⟨_, rfl, _, _, rfl, rfl, _, rfl, ite2 (fun _ => ?_) (fun _ => ?_)⟩
    · refine ⟨_, rfl, st, l, c + 1, _, rfl, S1, by omega, by decide, by decide, fun e H2 e0 e1 B2 S2 => ⟨rfl, _, rfl, ite2 (fun _ => ?_) (fun _ => ?_)⟩⟩
      · exact ⟨by show 2 ≤ sizeLine; decide, fun t ht => fin (.ls []) H2 _ t ⟨Nat.zero_le _, by simp⟩ B2 S2 (by omega) ht⟩
      · refine ⟨_, rfl, _, rfl, st, l, p, c + 1 + 1, zs, 2, rfl, S2, by omega, L1.but B2, z0, z1, nm, by decide, by decide, fun ys H3 c3 y1 y2 hy B3 S3 hc3 => ⟨by show 2 ≤ sizeLine; decide, fun t ht => ?_⟩⟩
        exact fin (.ls ys) H3 c3 t ⟨by omega, hy⟩ (B2.trans B3) S3 (by omega) ht
    refine ⟨_, rfl, rfl, _, rfl, ite2 (fun _ => ?_) (fun _ => ?_)⟩
    · refine ⟨_, rfl, _, rfl, .inl ⟨st, l, c + 1, p, _, rfl, S1, by omega, L1.h, L1.n1, L1.n2, by rw [List.length_map]; exact z0, by rw [List.length_map]; exact z1, fun i x H2 hx B2 S2 => ⟨by show 2 ≤ sizeLine; decide, fun t ht => ?_⟩⟩⟩
      obtain ⟨z, hz, rfl⟩ := List.mem_map.mp (List.mem_of_getElem? hx)
      exact fin (.se z) H2 _ t hz B2 S2 (by omega) ht
    · exact ⟨by show 1 ≤ sizeLine; decide, fun t ht => fin .tl H1 _ t trivial (fun _ _ e _ _ => e) S1 (by omega) ht⟩
end
end R3

set_option maxHeartbeats 3900000
namespace R3
open PySem PySem.Spec PyProof.Rows L2 TL
/-! paths as lists of names, against texts -/
theorem tl_sl : tl ("/" : Str) = [47] := by decide +kernel
def Nms (p : List Str) : Prop := ∀ y ∈ p, IsNm y
instance (p : List Str) : Decidable (Nms p) := by unfold Nms; infer_instance
abbrev jl (p : List Str) : List Nat := joinL [47] (p.map tl)
theorem tl_js (p : List Str) : tl (js p) = jl p := by
  show tl (Txt.join "/" p) = jl p
  rw [join_eq, tl_join, tl_sl]
theorem nm_free {y : Str} (h : IsNm y) : 47 ∉ tl y := fun m => by
  have := h.2.2 47 m
  omega
theorem nm_ne {y : Str} (h : IsNm y) : tl y ≠ [] := fun e => by
  have h1 := h.1
  rw [len_tl, e] at h1
  exact absurd h1 (by decide)
theorem Nms.tail {y : Str} {p : List Str} (h : Nms (y :: p)) : Nms p := fun z hz => h z (List.mem_cons_of_mem _ hz)
theorem Nms.app {p q : List Str} (hp : Nms p) (hq : Nms q) : Nms (p ++ q) := fun z hz => (List.mem_append.mp hz).elim (hp z) (hq z)
theorem Nms.left {p q : List Str} (h : Nms (p ++ q)) : Nms p := fun z hz => h z (List.mem_append_left _ hz)
theorem Nms.right {p q : List Str} (h : Nms (p ++ q)) : Nms q := fun z hz => h z (List.mem_append_right _ hz)
theorem jl_app : ∀ {q r : List Str}, q ≠ [] → r ≠ [] → jl (q ++ r) = jl q ++ 47 :: jl r
  | [], _, h, _ => absurd rfl h
  | [y], [], _, h => absurd rfl h
  | [y], z :: r, _, _ => rfl
  | y :: z :: q, r, _, hr => by
    have ih := jl_app (q := z :: q) (r := r) (by simp) hr
    show tl y ++ ([47] ++ jl (z :: q ++ r)) = (tl y ++ ([47] ++ jl (z :: q))) ++ 47 :: jl r
    rw [ih]
    simp
theorem jl_ne {p : List Str} (hp : Nms p) (h : p ≠ []) : jl p ≠ [] := by
  match p, h with
  | y :: r, _ =>
    intro e
    have hy := nm_ne (hp y List.mem_cons_self)
    cases r with
    | nil => exact hy e
    | cons z r =>
      have e2 : tl y ++ ([47] ++ jl (z :: r)) = [] := e
      exact hy (List.append_eq_nil_iff.mp e2).1
theorem split_js {p : List Str} (hp : Nms p) (h : p ≠ []) : Txt.split (js p) "/" = p :=
  split_join (s := 47) (S := []) tl_sl (by decide +kernel) h fun y hy => nm_free (hp y hy)
theorem js_nil : js [] = "" := rfl
theorem js_one (y : Str) : js [y] = y := ext_tl (by rw [tl_js]; rfl)
theorem js_ne {p : List Str} (hp : Nms p) (h : p ≠ []) : js p ≠ "" := fun e => by
  have e2 := congrArg tl e
  rw [tl_js] at e2
  exact jl_ne hp h e2
theorem js_inj {p q : List Str} (hp : Nms p) (hq : Nms q) (e : js p = js q) : p = q := by
  by_cases h1 : p = []
  · by_cases h2 : q = []
    · rw [h1, h2]
    · rw [h1] at e
      exact absurd e.symm (js_ne hq h2)
  · by_cases h2 : q = []
    · rw [h2] at e
      exact absurd e (js_ne hp h1)
    · rw [← split_js hp h1, e, split_js hq h2]
theorem js_eq {p q : List Str} (hp : Nms p) (hq : Nms q) : decide (js p = js q) = decide (p = q) := by
  by_cases h : p = q
  · rw [h]
    simp
  · rw [decide_eq_false h, decide_eq_false fun e => h (js_inj hp hq e)]
/-- strictly beneath -/
def ben (p q : List Str) : Bool := q.isPrefixOf p && decide (q.length < p.length)
theorem ben_iff {p q : List Str} : ben p q = true ↔ ∃ r, r ≠ [] ∧ p = q ++ r := by
  unfold ben
  rw [Bool.and_eq_true, List.isPrefixOf_iff_prefix, decide_eq_true_iff]
  constructor
  · rintro ⟨⟨r, rfl⟩, h⟩
    refine ⟨r, ?_, rfl⟩
    rintro rfl
    simp at h
  · rintro ⟨r, hr, rfl⟩
    refine ⟨⟨r, rfl⟩, ?_⟩
    have := List.length_pos_iff.mpr hr
    rw [List.length_append]
    omega
theorem spl_ne (S : List Nat) : ∀ (k : Nat) (acc l : List Nat), spl S k acc l ≠ []
  | k, acc, [] => by
    rw [spl_nil]
    simp
  | 0, acc, c :: r => by
    unfold spl
    by_cases h : pre S (c :: r) = true
    · rw [if_pos h]
      simp
    · rw [if_neg h]
      exact spl_ne S 0 _ r
  | k + 1, acc, _ :: r => spl_ne S k acc r
theorem spl_pre : ∀ {q : List Str} {t : List Nat}, q ≠ [] → Nms q → spl [47] 0 [] (jl q ++ 47 :: t) = q.map tl ++ spl [47] 0 [] t
  | [], _, h, _ => absurd rfl h
  | [y], t, _, hq => by
    have e := spl_part1 (s := 47) (S := []) (acc := []) (p := tl y) (rest := t) (nm_free (hq y List.mem_cons_self))
    exact e
  | y :: z :: r, t, _, hq => by
    have e := spl_part1 (s := 47) (S := []) (acc := []) (p := tl y) (rest := jl (z :: r) ++ 47 :: t) (nm_free (hq y List.mem_cons_self))
    have ih := spl_pre (q := z :: r) (t := t) (by simp) hq.tail
    have e2 : jl (y :: z :: r) ++ 47 :: t = tl y ++ ([47] ++ (jl (z :: r) ++ 47 :: t)) := by
      show tl y ++ ([47] ++ jl (z :: r)) ++ 47 :: t = _
      simp
    rw [e2]
    refine e.trans ?_
    rw [ih]
    rfl
theorem spl_js {p : List Str} (hp : Nms p) (h : p ≠ []) : spl [47] 0 [] (jl p) = p.map tl :=
  spl_join (s := 47) (S := []) (by simpa using h) fun z hz => by
    obtain ⟨y, hy, rfl⟩ := List.mem_map.mp hz
    exact nm_free (hp y hy)
theorem under {p q : List Str} (hp : Nms p) (hq : Nms q) (h : q ≠ []) : (jl q ++ [47]) <+: jl p ↔ ben p q = true := by
  rw [ben_iff]
  constructor
  · rintro ⟨t, e⟩
    have e1 : jl p = jl q ++ 47 :: t := by
      rw [← e]
      simp
    have hp0 : p ≠ [] := by
      rintro rfl
      have : ([] : List Nat) = jl q ++ 47 :: t := e1
      simp at this
    have e2 := spl_js hp hp0
    rw [e1, spl_pre h hq] at e2
    have e3 : (p.take q.length).map tl = q.map tl := by
      rw [List.map_take, ← e2]
      rw [show q.length = (q.map tl).length by rw [List.length_map], List.take_left']
      rfl
    have e4 := map_tl_inj e3
    refine ⟨p.drop q.length, ?_, ?_⟩
    · intro z
      have z2 : p.length ≤ q.length := List.drop_eq_nil_iff.mp z
      have z3 := congrArg List.length e2
      rw [List.length_append, List.length_map, List.length_map] at z3
      have z4 := List.length_pos_iff.mpr (spl_ne [47] 0 [] t)
      omega
    · conv => lhs; rw [← List.take_append_drop q.length p]
      rw [e4]
  · rintro ⟨r, hr, rfl⟩
    rw [jl_app h hr]
    exact ⟨jl r, by simp⟩
theorem sw_pre (x y : Str) : Txt.startswith x y = (tl y).isPrefixOf (tl x) := by
  show (decide (0 + y.length ≤ x.length) && Builtin.Str.subAt x y 0) = _
  rw [PySem.StrLaws.subAt_eq]
  apply Bool.eq_iff_iff.mpr
  rw [Bool.and_eq_true, List.isPrefixOf_iff_prefix, decide_eq_true_iff, List.drop_zero, beq_iff_eq, List.prefix_iff_eq_take]
  constructor
  · rintro ⟨_, h⟩
    rw [len_tl] at h
    exact h.symm
  · intro h
    refine ⟨?_, by rw [len_tl]; exact h.symm⟩
    have := congrArg List.length h
    rw [List.length_take] at this
    rw [len_tl, len_tl]
    omega
theorem sw_js {p q : List Str} (hp : Nms p) (hq : Nms q) (h : q ≠ []) : Txt.startswith (js p) (js q ++ "/") = ben p q := by
  rw [sw_pre, tl_append, tl_js, tl_js, tl_sl]
  apply Bool.eq_iff_iff.mpr
  rw [List.isPrefixOf_iff_prefix]
  exact under hp hq h
/-! slices -/
theorem tl_cutS (z : Str) (lo hi : Option Int) : tl (cutS z lo hi) = ((tl z).drop (HT.sIx z.length 0 lo)).take (HT.sIx z.length z.length hi - HT.sIx z.length 0 lo) := rfl
end R3

set_option maxHeartbeats 3900000
namespace R3
open PySem PySem.Spec PyProof.Rows L2 TL
theorem cut_from (z : Str) (n : Nat) : tl (cutS z (some (n : Int)) none) = (tl z).drop n := by
  rw [tl_cutS, HT.sIx_nat, HT.sIx_none, len_tl]
  rw [List.take_of_length_le (by rw [List.length_drop]; exact Nat.le_refl _)]
  by_cases h : n ≤ (tl z).length
  · rw [Nat.min_eq_left h]
  · rw [Nat.min_eq_right (by omega), List.drop_eq_nil_of_le (Nat.le_refl _), List.drop_eq_nil_of_le (by omega)]
theorem cut_to (z : Str) (n : Nat) : tl (cutS z none (some (n : Int))) = (tl z).take n := by
  rw [tl_cutS, HT.sIx_nat, HT.sIx_none, List.drop_zero, Nat.sub_zero, len_tl]
  by_cases h : n ≤ (tl z).length
  · rw [Nat.min_eq_left h]
  · rw [Nat.min_eq_right (by omega), List.take_of_length_le (Nat.le_refl _), List.take_of_length_le (by omega)]
theorem cut_last (z : Str) : tl (cutS z (some (-1)) none) = (tl z).drop ((tl z).length - 1) := by
  rw [tl_cutS, HT.sIx_none, len_tl]
  have e : HT.sIx (tl z).length 0 (some (-1)) = (tl z).length - 1 := by
    show (if (-1 : Int) < 0 then ((-1 : Int) + ((tl z).length : Int)).toNat else min (-1 : Int).toNat (tl z).length) = _
    rw [if_pos (by decide)]
    omega
  rw [e]
  rw [List.take_of_length_le (by rw [List.length_drop]; exact Nat.le_refl _)]
/-- what all beneath begins with -/
def bg (p : List Str) : Str := if p = [] then "" else js p ++ "/"
theorem bg_str (p : List Str) (hp : Nms p) : (if decide (js p = "") = true then ("" : Str) else js p ++ "/") = bg p := by
  unfold bg
  by_cases h : p = []
  · rw [if_pos h, h]
    rfl
  · rw [if_neg h, decide_eq_false (js_ne hp h)]
    rfl
theorem sw_bg {p q : List Str} (hp : Nms p) (hq : Nms q) : (decide (p ≠ q) && Txt.startswith (js p) (bg q)) = ben p q := by
  unfold bg
  by_cases h : q = []
  · rw [if_pos h, h, sw_pre]
    have e : tl ("" : Str) = [] := rfl
    rw [e]
    unfold ben
    cases p with
    | nil => rfl
    | cons y r => simp
  · rw [if_neg h, sw_js hp hq h]
    by_cases e : p = q
    · rw [e]
      simp [ben]
    · rw [decide_eq_true e, Bool.true_and]
theorem jl_drop {q r : List Str} (hq : q ≠ []) (hr : r ≠ []) : (jl (q ++ r)).drop ((jl q).length + 1) = jl r := by
  rw [jl_app hq hr]
  rw [show jl q ++ 47 :: jl r = (jl q ++ [47]) ++ jl r by simp]
  rw [show (jl q).length + 1 = (jl q ++ [47]).length by simp, List.drop_left']
  rfl
theorem bg_len (q : List Str) : (bg q).length = if q = [] then 0 else (jl q).length + 1 := by
  unfold bg
  by_cases h : q = []
  · rw [if_pos h, if_pos h]
    rfl
  · rw [if_neg h, if_neg h, len_tl, tl_append, tl_js, tl_sl]
    simp
theorem rest_bg (q : List Str) {r : List Str} (hr : r ≠ []) : cutS (js (q ++ r)) (some ((bg q).length : Int)) none = js r := by
  refine ext_tl ?_
  rw [cut_from, tl_js, tl_js, bg_len]
  by_cases h : q = []
  · rw [if_pos h, h]
    rfl
  · rw [if_neg h, jl_drop h hr]
theorem head_bg {p q : List Str} (hp : Nms p) (hq : Nms q) (h : q ≠ []) : decide (cutS (js p) none (some (((js q).length + 1 : Nat) : Int)) = js q ++ "/") = ben p q := by
  have e9 : (jl q ++ [47]).length = (jl q).length + 1 := by simp
  have e : (cutS (js p) none (some (((js q).length + 1 : Nat) : Int)) = js q ++ "/") ↔ (jl q ++ [47]) <+: jl p := by
    rw [List.prefix_iff_eq_take]
    constructor
    · intro z
      have z2 := congrArg tl z
      rw [cut_to, tl_append, tl_js, tl_js, tl_sl, len_tl, tl_js] at z2
      rw [e9]
      exact z2.symm
    · intro z
      refine ext_tl ?_
      rw [cut_to, tl_append, tl_js, tl_js, tl_sl, len_tl, tl_js]
      rw [e9] at z
      exact z.symm
  rw [decide_eq_decide.mpr e]
  apply Bool.eq_iff_iff.mpr
  rw [decide_eq_true_iff]
  exact under hp hq h
theorem js_cons (y : Str) {r : List Str} (h : r ≠ []) : js (y :: r) = y ++ "/" ++ js r := by
  refine ext_tl ?_
  rw [tl_js, tl_append, tl_append, tl_js, tl_sl]
  show jl ([y] ++ r) = _
  rw [jl_app (by simp) h]
  show tl y ++ 47 :: jl r = _
  simp
theorem js_app {q r : List Str} (hq : q ≠ []) (hr : r ≠ []) : js (q ++ r) = js q ++ "/" ++ js r := by
  refine ext_tl ?_
  rw [tl_js, tl_append, tl_append, tl_js, tl_js, tl_sl, jl_app hq hr]
  simp
theorem bg_app (q : List Str) {r : List Str} (hr : r ≠ []) : bg q ++ js r = js (q ++ r) := by
  unfold bg
  by_cases h : q = []
  · rw [if_pos h, h]
    exact ext_tl (by rw [tl_append]; rfl)
  · rw [if_neg h, js_app h hr]
theorem part_js {y : Str} {r : List Str} (hy : IsNm y) : Txt.partition (js (y :: r)) "/" = if r = [] then (y, ("" : Str), ("" : Str)) else (y, ("/" : Str), js r) := by
  by_cases h : r = []
  · rw [if_pos h, h, js_one]
    exact partition_none tl_sl (nm_free hy)
  · rw [if_neg h, js_cons y h]
    exact partition_app tl_sl (nm_free hy)
/-! entries -/
def ent (n : Str) (b : Bool) : Str := if b = true then n ++ "/" else n
theorem tl_ent (n : Str) (b : Bool) : tl (ent n b) = tl n ++ if b = true then [47] else [] := by
  unfold ent
  cases b
  · simp
  · rw [if_pos rfl, tl_append, tl_sl, if_pos rfl]
theorem ent_inj {n m : Str} {b c : Bool} (hn : IsNm n) (hm : IsNm m) (e : ent n b = ent m c) : n = m ∧ b = c := by
  have h := congrArg tl e
  rw [tl_ent, tl_ent] at h
  cases b <;> cases c
  · simp only [Bool.false_eq_true, if_false, List.append_nil] at h
    exact ⟨ext_tl h, rfl⟩
  · simp only [Bool.false_eq_true, if_false, List.append_nil, if_true] at h
    exact absurd (by rw [h]; simp) (nm_free hn)
  · simp only [Bool.false_eq_true, if_false, List.append_nil, if_true] at h
    exact absurd (by rw [← h]; simp) (nm_free hm)
  · simp only [if_true] at h
    exact ⟨ext_tl (List.append_cancel_right h), rfl⟩
theorem ent_eq {n m : Str} {b c : Bool} (hn : IsNm n) (hm : IsNm m) : decide (ent n b = ent m c) = decide ((n, b) = (m, c)) := by
  by_cases e : ent n b = ent m c
  · obtain ⟨e1, e2⟩ := ent_inj hn hm e
    subst e1
    subst e2
    simp
  · rw [decide_eq_false e, decide_eq_false]
    intro z
    cases z
    exact e rfl
theorem ew (x y : Str) : Txt.endswith x y = (decide ((tl y).length ≤ (tl x).length) && decide ((tl x).drop ((tl x).length - (tl y).length) = tl y)) := by
  show (decide (0 + y.length ≤ x.length) && Builtin.Str.subAt x y (x.length - y.length)) = _
  rw [PySem.StrLaws.subAt_eq, len_tl, len_tl, Nat.zero_add]
  by_cases h : (tl y).length ≤ (tl x).length
  · rw [decide_eq_true h, Bool.true_and, Bool.true_and]
    have e : (((tl x).drop ((tl x).length - (tl y).length)).take (tl y).length) = (tl x).drop ((tl x).length - (tl y).length) := List.take_of_length_le (by rw [List.length_drop]; omega)
    have e5 : (((tl x).drop ((tl x).length - (tl y).length)).take (tl y).length == tl y) = ((tl x).drop ((tl x).length - (tl y).length) == tl y) := by rw [e]
    refine e5.trans ?_
    apply Bool.eq_iff_iff.mpr
    rw [beq_iff_eq, decide_eq_true_iff]
  · rw [decide_eq_false h]
    rfl
theorem last_drop (u : List Nat) (c : Nat) : (u ++ [c]).drop ((u ++ [c]).length - 1) = [c] := by
  rw [show (u ++ [c]).length - 1 = u.length by simp, List.drop_left']
  rfl
theorem last_free {u : List Nat} (h : 47 ∉ u) : u.drop (u.length - 1) ≠ [47] := fun e => h (by
  have : 47 ∈ u.drop (u.length - 1) := by
    rw [e]
    simp
  exact List.mem_of_mem_drop this)
theorem ew_ent {n : Str} (hn : IsNm n) (b : Bool) : Txt.endswith (ent n b) "/" = b := by
  rw [ew, tl_sl, tl_ent]
  cases b
  · simp only [Bool.false_eq_true, if_false, List.append_nil]
    rw [decide_eq_false (p := (tl n).drop ((tl n).length - [47].length) = [47]) (last_free (nm_free hn)), Bool.and_false]
  · simp only [if_true]
    rw [decide_eq_true (by simp), Bool.true_and]
    exact decide_eq_true (last_drop _ _)
theorem cut_ent {n : Str} (hn : IsNm n) (b : Bool) : decide (cutS (ent n b) (some (-1)) none = "/") = b := by
  cases b
  · refine decide_eq_false fun e => ?_
    have e2 := congrArg tl e
    rw [cut_last, tl_ent, tl_sl] at e2
    simp only [Bool.false_eq_true, if_false, List.append_nil] at e2
    exact last_free (nm_free hn) e2
  · refine decide_eq_true (ext_tl ?_)
    rw [cut_last, tl_ent, tl_sl]
    simp only [if_true]
    exact last_drop _ _
theorem tl_sub (x : Str) (i j : Nat) : tl (Builtin.Str.strSub x i j) = ((tl x).drop i).take (j - i) := tl_strSub x i j
theorem rms {x y : Str} (h : Txt.endswith x y = true) : tl (Txt.removesuffix x y) = (tl x).take ((tl x).length - (tl y).length) := by
  have h2 : (decide (y.length ≤ x.length) && Builtin.Str.subAt x y (x.length - y.length)) = true := by
    rw [← h]
    show _ = (decide (0 + y.length ≤ x.length) && Builtin.Str.subAt x y (x.length - y.length))
    rw [Nat.zero_add]
  show tl (Txt.affix x (if (decide (y.length ≤ x.length) && Builtin.Str.subAt x y (x.length - y.length)) = true then some (0, x.length - y.length) else none)) = _
  rw [if_pos h2]
  show tl (if x.length - y.length - 0 == x.length then x else Builtin.Str.strSub x 0 (x.length - y.length)) = _
  rw [len_tl, len_tl]
  by_cases e : ((tl x).length - (tl y).length - 0 == (tl x).length) = true
  · rw [if_pos e]
    rw [beq_iff_eq] at e
    rw [List.take_of_length_le (by omega)]
  · rw [if_neg e, tl_sub, List.drop_zero]
    rfl
theorem rms_no {x y : Str} (h : Txt.endswith x y = false) : Txt.removesuffix x y = x := by
  have h2 : (decide (y.length ≤ x.length) && Builtin.Str.subAt x y (x.length - y.length)) = false := by
    rw [← h]
    show _ = (decide (0 + y.length ≤ x.length) && Builtin.Str.subAt x y (x.length - y.length))
    rw [Nat.zero_add]
  show Txt.affix x (if (decide (y.length ≤ x.length) && Builtin.Str.subAt x y (x.length - y.length)) = true then some (0, x.length - y.length) else none) = _
  rw [if_neg (by rw [h2]; simp)]
  rfl
theorem rms_ent {n : Str} (hn : IsNm n) (b : Bool) : Txt.removesuffix (ent n b) "/" = n := by
  cases b
  · exact rms_no (ew_ent hn false)
  · refine ext_tl ?_
    rw [rms (ew_ent hn true), tl_ent, tl_sl]
    simp
/-! strip -/
theorem tw_free {u r : List Nat} (h0 : u.head? ≠ some 47) (h : u ≠ []) : (u ++ r).takeWhile (fun c => c == 47) = [] := by
  match u, h with
  | c :: u, _ =>
    rw [List.cons_append, List.takeWhile_cons_of_neg]
    intro z
    exact h0 (by rw [List.head?_cons, beq_iff_eq.mp z])
theorem tw_rep (k : Nat) (r : List Nat) (h : r.head? ≠ some 47) : (List.replicate k 47 ++ r).takeWhile (fun c => c == 47) = List.replicate k 47 := by
  induction k with
  | zero =>
    rw [List.replicate_zero, List.nil_append]
    by_cases e : r = []
    · rw [e]
      rfl
    · have := tw_free (r := []) h e
      rw [List.append_nil] at this
      exact this
  | succ k ih => rw [List.replicate_succ, List.cons_append, List.takeWhile_cons_of_pos rfl, ih]
theorem strip_core {x : Str} {u : List Nat} {k : Nat} (h0 : u.head? ≠ some 47) (h1 : u.getLast? ≠ some 47) (hx : tl x = u ++ List.replicate k 47) : tl (Txt.stripChars x "/") = u := by
  have g : (("/" : Str).cps.contains : Nat → Bool) = fun c => c == 47 := by
    funext c
    have e : ("/" : Str).cps = #[47] := by decide +kernel
    rw [e]
    apply Bool.eq_iff_iff.mpr
    rw [Array.contains_iff_mem, beq_iff_eq]
    simp
  show tl (Txt.stripBy ("/" : Str).cps.contains true true x) = u
  rw [stripBy_eq, tl_sub, g]
  show ((tl x).drop ((tl x).takeWhile fun c => c == 47).length).take ((x.length - (((tl x).drop ((tl x).takeWhile fun c => c == 47).length).reverse.takeWhile fun c => c == 47).length) - ((tl x).takeWhile fun c => c == 47).length) = u
  rw [len_tl, hx]
  by_cases e : u = []
  · rw [e, List.nil_append]
    have t := tw_rep k [] (by simp)
    rw [List.append_nil] at t
    rw [t, List.length_replicate, List.drop_eq_nil_of_le (by rw [List.length_replicate]; exact Nat.le_refl _)]
    exact List.take_nil
  · rw [tw_free h0 e]
    show ((u ++ List.replicate k 47).drop 0).take (((u ++ List.replicate k 47).length - (((u ++ List.replicate k 47).drop 0).reverse.takeWhile fun c => c == 47).length) - 0) = u
    rw [List.drop_zero, List.reverse_append, List.reverse_replicate, tw_rep k u.reverse (by rw [List.head?_reverse]; exact h1), List.length_replicate, List.length_append, List.length_replicate, Nat.add_sub_cancel, Nat.sub_zero, List.take_left']
    rfl
theorem jl_head : ∀ {p : List Str}, Nms p → (jl p).head? ≠ some 47
  | [], _ => by intro q; cases q
  | y :: r, h => by
    have hy := h y List.mem_cons_self
    have e : ∃ t, jl (y :: r) = tl y ++ t := by
      cases r with
      | nil => exact ⟨[], (List.append_nil _).symm⟩
      | cons z r => exact ⟨_, rfl⟩
    obtain ⟨t, e⟩ := e
    rw [e]
    intro q
    match h2 : tl y with
    | [] => exact nm_ne hy h2
    | c :: u =>
      rw [h2, List.cons_append, List.head?_cons] at q
      refine nm_free hy ?_
      rw [h2, Option.some.inj q]
      exact List.mem_cons_self
theorem jl_last : ∀ {p : List Str}, Nms p → (jl p).getLast? ≠ some 47
  | [], _ => by intro q; cases q
  | [y], h => fun q => nm_free (h y List.mem_cons_self) (List.mem_of_getLast? q)
  | y :: z :: r, h => by
    have ih := jl_last (p := z :: r) h.tail
    show (tl y ++ ([47] ++ jl (z :: r))).getLast? ≠ some 47
    rw [List.getLast?_append, List.getLast?_append]
    intro q
    match e : (jl (z :: r)).getLast? with
    | none => exact jl_ne h.tail (by simp) (List.getLast?_eq_none_iff.mp e)
    | some c =>
      rw [e] at q
      exact ih (by rw [e]; exact q)
theorem strip_ent {n : Str} (hn : IsNm n) (b : Bool) : Txt.stripChars (ent n b) "/" = n := by
  refine ext_tl (strip_core (k := if b = true then 1 else 0) ?_ ?_ ?_)
  · have := jl_head (p := [n]) (by simpa [Nms] using hn)
    exact this
  · have := jl_last (p := [n]) (by simpa [Nms] using hn)
    exact this
  · rw [tl_ent]
    cases b <;> rfl
/-- a front: a path with a stroke behind it, or nothing -/
theorem strip_front {q p : List Str} (hq : Nms q) (hp : Nms p) : Txt.stripChars (bg q ++ js p) "/" = js (q ++ p) := by
  by_cases h : p = []
  · subst h
    rw [List.append_nil]
    refine ext_tl ?_
    rw [tl_js]
    refine strip_core (k := if q = [] then 0 else 1) (jl_head hq) (jl_last hq) ?_
    unfold bg
    by_cases e : q = []
    · rw [if_pos e, if_pos e, e]
      rfl
    · rw [if_neg e, if_neg e, tl_append, tl_append, tl_js, tl_sl]
      show jl q ++ [47] ++ [] = jl q ++ [47]
      rw [List.append_nil]
  · rw [bg_app q h]
    refine ext_tl ?_
    rw [tl_js]
    refine strip_core (k := 0) (jl_head (hq.app hp)) (jl_last (hq.app hp)) ?_
    rw [tl_js]
    simp
end R3

set_option maxHeartbeats 3900000
namespace R3
open PySem PySem.Spec PyProof.Rows L2 TL
open C8 (pss_cut tCut pe_gc)
open CB
abbrev sIsName : Stmt := top 11
abbrev sIsPath : Stmt := top 12
abbrev sIsPlace : Stmt := top 13
abbrev sBeg : Stmt := top 14
abbrev sBen : Stmt := top 15
abbrev sAt : Stmt := top 16
abbrev sRest : Stmt := top 17
def Sh (z : Str) : Prop := z.length ≤ 1000
theorem Sh.line {z : Str} (h : Sh z) : z.length ≤ sizeLine := Nat.le_trans h (by decide)
theorem js_len : ∀ {p : List Str}, Nms p → (js p).length ≤ 9 * p.length
  | [], _ => Nat.le_of_eq rfl
  | [y], h => by
    rw [js_one]
    have := (h y List.mem_cons_self).2.1
    show y.length ≤ 9
    omega
  | y :: z :: r, h => by
    have ih := js_len (p := z :: r) h.tail
    have := (h y List.mem_cons_self).2.1
    rw [js_cons y (by simp), len_tl, tl_append, tl_append, List.length_append, List.length_append, tl_sl, ← len_tl, ← len_tl]
    show y.length + 1 + (js (z :: r)).length ≤ _
    rw [List.length_cons (a := y)]
    omega
theorem js_sh {p : List Str} (h : Nms p) (hl : p.length ≤ 100) : Sh (js p) := by
  have := js_len h
  unfold Sh
  omega
theorem nm_sh {y : Str} (h : IsNm y) : Sh y := by
  have := h.2.1
  unfold Sh
  omega
/-- the package's constants and what it reads of the built-in names -/
structure TPk (mg : Str → Option Value) : Prop where
  b : TB mg
  STROKE : ∃ t, mg "STROKE" = some (.str "/" t)
  ROOT : ∃ t, mg "ROOT" = some (.str "" t)
  LETTERS : ∃ t, mg "LETTERS" = some (.str letters t)
  LONGEST : ∃ t, mg "LONGEST" = some (.int 8 t)
def spS1 (C : Str → Prop) (g : Str → V) : Sp := fun vs H Q _ => ∃ z, vs = [.str z] ∧ C z ∧ ∀ H', Same H H' → Q (g z) H'
def spS2 (C : Str → Str → Prop) (g : Str → Str → V) : Sp := fun vs H Q _ => ∃ x y, vs = [.str x, .str y] ∧ C x y ∧ ∀ H', Same H H' → Q (g x y) H'
def begS (z : Str) : Str := if decide (z = "") = true then "" else z ++ "/"
theorem begS_js {p : List Str} (h : Nms p) : begS (js p) = bg p := bg_str p h
def benS (x y : Str) : Bool := (!decide (x = y)) && Txt.startswith x (begS y)
theorem benS_js {p q : List Str} (hp : Nms p) (hq : Nms q) : benS (js p) (js q) = ben p q := by
  unfold benS
  rw [begS_js hq, js_eq hp hq, ← sw_bg hp hq]
  by_cases e : p = q <;> simp [e]
abbrev spIsName : Sp := spS1 Sh fun z => .bl (decide (IsNm z))
def spIsPath : Sp := fun vs H Q _ => ∃ p, vs = [.str (js p)] ∧ Nms p ∧ p.length ≤ 100 ∧ ∀ H', Same H H' → Q (.bl (decide (p ≠ []))) H'
def spIsPlace : Sp := fun vs H Q _ => ∃ p, vs = [.str (js p)] ∧ Nms p ∧ p.length ≤ 100 ∧ ∀ H', Same H H' → Q (.bl true) H'
abbrev spBeg : Sp := spS1 Sh fun z => .str (begS z)
abbrev spBen : Sp := spS2 (fun x y => Sh x ∧ Sh y) fun x y => .bl (benS x y)
abbrev spAt : Sp := spS2 (fun x y => Sh x ∧ Sh y) fun x y => .bl (decide (x = y) || benS x y)
abbrev spRest : Sp := spS2 (fun x y => Sh x ∧ Sh y) fun x y => .str (cutS x (some ((begS y).length : Int)) none)
theorem isNm_eq (z : Str) : decide (IsNm z) = (decide (1 ≤ z.length) && decide (z.length ≤ 8) && (tl z).all fun c => decide (c ∈ letters.cps.toList)) := by
  apply Bool.eq_iff_iff.mpr
  rw [decide_eq_true_iff, Bool.and_eq_true, Bool.and_eq_true, decide_eq_true_iff, decide_eq_true_iff, List.all_eq_true]
  constructor
  · rintro ⟨h1, h2, h3⟩
    refine ⟨⟨h1, h2⟩, fun c hc => decide_eq_true ?_⟩
    obtain ⟨a, b⟩ := h3 c hc
    have := letter_at (c - 97) (by omega)
    rw [show 97 + (c - 97) = c by omega] at this
    exact List.mem_of_getElem? this
  · rintro ⟨⟨h1, h2⟩, h3⟩
    exact ⟨h1, h2, fun c hc => letters_all c (of_decide_eq_true (h3 c hc))⟩
section
variable {P : Program} {w : World} {K : PySem.W.Frag} {mg : Str → Option Value} {base : Heap}
theorem scIsName : FnScope ["thing", "letter"] ["thing"] (defScope sIsName) := ⟨rfl, rfl, rfl, by decide +kernel, rfl, by decide +kernel, by decide +kernel⟩
theorem ok_isName {f : Addr} {fd : FuncData} (F : Fun K "is_name" "is_name" sIsName f fd) (T0 : TPk mg) : FnOk P w K mg base CX0 1 f fd ["thing"] spIsName := by
  have T := T0.b
  obtain ⟨t1, mLETTERS⟩ := T0.LETTERS
  obtain ⟨t2, mLONGEST⟩ := T0.LONGEST
  refine F.ok scIsName (fun vs H Q E h => ?_) (fun cdv A outer s H vs Q E hr h => ?_)
  · obtain ⟨z, rfl, _⟩ := h
    rfl
  · obtain ⟨z, rfl, hz, k⟩ := h
    refine ⟨_, pss_cons (ps_if (PW.pt (pw_or (pt_not (pt_val (pe_callB call_isi (by rfl) T.isinstance (by decide +kernel) (pa_cons (pv 0) (pa_cons (pe_bltn (v := .ty "str") (by rfl) T.str (by decide +kernel) rfl) pa_nil))))) (pw_or1 (pt_not (pt_chain op_le op_le pe_int (pe_callB call_len_str (by rfl) T.len PySem.boot_len (pa_cons (pv 0) pa_nil)) (pe_glob (v := .int 8) rfl mLONGEST ⟨_, rfl⟩)))))) (pss_one (ps_ret pe_bl)) (pss_nil))
        (pss_one (ps_ret (pe_callB (cr_all rfl) (by rfl) T.all boot_all (pa_cons (pe_lc (own := [("letter", 1)]) (g := gName 1) (tt := tYes) rfl scIsName.nd (pi_str (pv 0)) (blkOk_by (own := [("letter", 1)]) (N := ["thing", "letter"]) (sc := defScope sIsName) (by decide +kernel)) (fun _ _ _ _ _ => (pg_name (i := 1) scIsName.nd rfl (Or.inl rfl))) (fun _ _ _ _ _ => pts_nil) (fun _ _ _ _ _ => (pe_cmpR op_in_sign (pv 1) (pe_glob (v := .str letters) rfl mLETTERS ⟨_, rfl⟩) (by rfl)))) pa_nil)))), ?_⟩
    refine ⟨_, rfl, _, _, .type "str", .type "str", true, rfl, .ty "str", .base (.str _), kit_ty (by decide +kernel), _, rfl, iteF ⟨_, rfl, _, rfl, hz.line, _, _, rfl, rfl, _, rfl, ?_⟩⟩
    have k : ∀ H', Same H H' → Q (.bl (decide (IsNm z))) H' := k
    rw [isNm_eq] at k
    by_cases h1 : 1 ≤ z.length
    · rw [decide_eq_true (show (1 : Int) ≤ (z.length : Int) by omega)]
      rw [decide_eq_true h1, Bool.true_and] at k
      refine iteT ⟨_, _, rfl, rfl, _, rfl, ?_⟩
      by_cases h8 : z.length ≤ 8
      · rw [decide_eq_true (show ((z.length : Nat) : Int) ≤ (8 : Int) by omega)]
        rw [decide_eq_true h8, Bool.true_and] at k
        refine iteF ⟨_, rfl, z, rfl, fun D hD => ?_⟩
        refine lc_mapS z (fun c => .bl (decide (c ∈ letters.cps.toList))) (by omega) hD ?_ ?_
        · intro c hc H2 s2 Q1 k1
          exact ⟨_, rfl, c, letters, rfl, rfl, k1 H2 (Same.refl H2)⟩
        · intro H' s' hD'
          exact all_of _ _ hD' (k H' s')
      · rw [decide_eq_false (show ¬ ((z.length : Nat) : Int) ≤ (8 : Int) by omega)]
        rw [decide_eq_false h8, Bool.false_and] at k
        exact iteT (k H (Same.refl H))
    · rw [decide_eq_false (show ¬ (1 : Int) ≤ (z.length : Int) by omega)]
      rw [decide_eq_false h1, Bool.false_and, Bool.false_and] at k
      exact iteF ⟨_, rfl, iteT (k H (Same.refl H))⟩
theorem scIsPath : FnScope ["thing", "part"] ["thing"] (defScope sIsPath) := ⟨rfl, rfl, rfl, by decide +kernel, rfl, by decide +kernel, by decide +kernel⟩
theorem ok_isPath {f fN : Addr} {fd fdN : FuncData} (F : Fun K "is_path" "is_path" sIsPath f fd) (T0 : TPk mg) (aIsName : At K mg "is_name" fN fdN ["thing"]) (GIsName : FnOk P w K mg base CX0 1 fN fdN ["thing"] spIsName) : FnOk P w K mg base CX0 2 f fd ["thing"] spIsPath := by
  have T := T0.b
  obtain ⟨t1, mSTROKE⟩ := T0.STROKE
  refine F.ok scIsPath (fun vs H Q E h => ?_) (fun cdv A outer s H vs Q E hr h => ?_)
  · obtain ⟨z, rfl, _⟩ := h
    rfl
  · obtain ⟨p, rfl, hp, hl, k⟩ := h
    refine ⟨_, pss_one (ps_ret (pe_and (pe_callB call_isi (by rfl) T.isinstance (by decide +kernel) (pa_cons (pv 0) (pa_cons (pe_bltn (v := .ty "str") (by rfl) T.str (by decide +kernel) rfl) pa_nil))) (pe_one (pe_callB (cr_all rfl) (by rfl) T.all boot_all (pa_cons (pe_lc (own := [("part", 1)]) (g := gName 1) (tt := tYes) rfl scIsPath.nd (pi_list (pe_bm PySem.F.plainAttrs_str PySem.F.slot_str_split PySem.F.type_str_split mt_split (pv 0) (pa_cons (pe_glob (v := .str "/") rfl mSTROKE ⟨_, rfl⟩) pa_nil))) (blkOk_by (own := [("part", 1)]) (N := ["thing", "part"]) (sc := defScope sIsPath) (by decide +kernel)) (fun _ _ _ _ _ => (pg_name (i := 1) scIsPath.nd rfl (Or.inl rfl))) (fun _ _ _ _ _ => pts_nil) (fun _ _ _ _ _ => (pe_call GIsName (hr.mono (by decide)) rfl aIsName.m aIsName.k aIsName.b .nil pass0 (pa_cons (pv 1) pa_nil)))) pa_nil))))), ?_⟩
    have hs := js_sh hp hl
    obtain ⟨ys, e1, e2, e3⟩ : ∃ ys, Txt.split (js p) "/" = ys ∧ (∀ y ∈ ys, Sh y) ∧ (ys.length < 1000000 ∧ ys.all (fun y => decide (IsNm y)) = decide (p ≠ [])) := by
      by_cases h : p = []
      · subst h
        refine ⟨[""], by decide +kernel, ?_, by decide, by decide +kernel⟩
        intro y hy
        rw [List.mem_singleton.mp hy]
        exact Nat.zero_le _
      · refine ⟨p, split_js hp h, fun y hy => nm_sh (hp y hy), by omega, ?_⟩
        rw [decide_eq_true h, List.all_eq_true]
        exact fun y hy => decide_eq_true (hp y hy)
    refine ⟨_, rfl, _, _, .type "str", .type "str", true, rfl, .ty "str", .base (.str _), kit_ty (by decide +kernel), true, rfl, iteT ⟨_, rfl, rfl, js p, "/", rfl, rfl, rfl, ?_, fun l hl' => ⟨l, rfl, ⟨_, SqL.of upd_same⟩, fun D hD => ?_⟩⟩⟩
    · have := hs
      unfold Sh at this
      exact Nat.le_trans (show (js p).length + 2 ≤ 1002 by omega) (by decide)
    · rw [e1] at hD ⊢
      have s1 : Same H (upd H l (.lst (ys.map V.str))) := same_mk hl'
      refine lc_mapL ys V.str (fun y => .bl (decide (IsNm y))) e3.1 hD (SqL.of upd_same) ?_ ?_
      · intro y hy H2 s2 Q1 k1
        exact ⟨_, rfl, y, rfl, e2 y hy, k1⟩
      · intro H' s' hD'
        refine all_of _ _ hD' ?_
        rw [e3.2]
        exact k H' (s1.trans s')
theorem scIsPlace : FnScope ["thing"] ["thing"] (defScope sIsPlace) := ⟨rfl, rfl, rfl, by decide +kernel, rfl, by decide +kernel, by decide +kernel⟩
theorem ok_isPlace {f fN : Addr} {fd fdN : FuncData} (F : Fun K "is_place" "is_place" sIsPlace f fd) (T0 : TPk mg) (aIsPath : At K mg "is_path" fN fdN ["thing"]) (GIsPath : FnOk P w K mg base CX0 2 fN fdN ["thing"] spIsPath) : FnOk P w K mg base CX0 3 f fd ["thing"] spIsPlace := by
  have T := T0.b
  obtain ⟨t1, mROOT⟩ := T0.ROOT
  refine F.ok scIsPlace (fun vs H Q E h => ?_) (fun cdv A outer s H vs Q E hr h => ?_)
  · obtain ⟨z, rfl, _⟩ := h
    rfl
  · obtain ⟨p, rfl, hp, hl, k⟩ := h
    refine ⟨_, pss_one (ps_ret (pe_or (pe_call GIsPath (hr.mono (by decide)) rfl aIsPath.m aIsPath.k aIsPath.b .nil pass0 (pa_cons (pv 0) pa_nil)) (pe_one (pe_and (pe_callB call_isi (by rfl) T.isinstance (by decide +kernel) (pa_cons (pv 0) (pa_cons (pe_bltn (v := .ty "str") (by rfl) T.str (by decide +kernel) rfl) pa_nil))) (pe_one (pe_cmpR op_eq (pv 0) (pe_glob (v := .str "") rfl mROOT ⟨_, rfl⟩) (nomark _))))))), ?_⟩
    refine ⟨_, rfl, p, rfl, hp, hl, fun H1 s1 => ⟨_, rfl, ?_⟩⟩
    by_cases h : p = []
    · rw [decide_eq_false (not_not_intro h)]
      subst h
      exact iteF ⟨_, rfl, _, _, .type "str", .type "str", true, rfl, .ty "str", .base (.str _), kit_ty (by decide +kernel), _, rfl, iteT ⟨_, rfl, rfl, k H1 s1⟩⟩
    · rw [decide_eq_true h]
      exact iteT (k H1 s1)
theorem scBeg : FnScope ["place"] ["place"] (defScope sBeg) := ⟨rfl, rfl, rfl, by decide +kernel, rfl, by decide +kernel, by decide +kernel⟩
theorem ok_beg {f : Addr} {fd : FuncData} (F : Fun K "beginning" "beginning" sBeg f fd) (T0 : TPk mg) : FnOk P w K mg base CX0 1 f fd ["place"] spBeg := by
  obtain ⟨t1, mROOT⟩ := T0.ROOT
  obtain ⟨t2, mSTROKE⟩ := T0.STROKE
  refine F.ok scBeg (fun vs H Q E h => ?_) (fun cdv A outer s H vs Q E hr h => ?_)
  · obtain ⟨z, rfl, _⟩ := h
    rfl
  · obtain ⟨z, rfl, hz, k⟩ := h
    refine ⟨_, pss_one (ps_ret (pe_ifExp (pt_cmpR op_eq (pv 0) (pe_glob (v := .str "") rfl mROOT ⟨_, rfl⟩) (nomark _)) (pe_glob (v := .str "") rfl mROOT ⟨_, rfl⟩) (pe_op op_add_str (pv 0) (pe_glob (v := .str "/") rfl mSTROKE ⟨_, rfl⟩)))), ?_⟩
    refine ⟨_, rfl, rfl, _, rfl, ?_⟩
    have k : ∀ H', Same H H' → Q (.str (begS z)) H' := k
    unfold begS at k
    by_cases h : z = ""
    · subst h
      exact iteT (k H (Same.refl H))
    · rw [decide_eq_false (show ¬ V.str z = V.str "" from fun q => h (V.str.inj q))]
      rw [decide_eq_false h] at k
      refine iteF ⟨_, rfl, _, _, rfl, rfl, ?_, k H (Same.refl H)⟩
      have := hz
      unfold Sh at this
      exact Nat.le_trans (show z.length + 1 ≤ 1001 by omega) (by decide)
theorem begS_sh {z : Str} (h : Sh z) : (begS z).length ≤ sizeLine := by
  have := h
  unfold Sh at this
  refine Nat.le_trans (show (begS z).length ≤ 1001 from ?_) (by decide)
  unfold begS
  by_cases e : z = ""
  · rw [if_pos (decide_eq_true e)]
    exact Nat.zero_le _
  · rw [if_neg (by rw [decide_eq_false e]; simp), len_tl, tl_append, List.length_append, tl_sl, ← len_tl]
    show z.length + 1 ≤ 1001
    omega
theorem scBen : FnScope ["path", "place"] ["path", "place"] (defScope sBen) := ⟨rfl, rfl, rfl, by decide +kernel, rfl, by decide +kernel, by decide +kernel⟩
theorem ok_ben {f fN : Addr} {fd fdN : FuncData} (F : Fun K "is_beneath" "is_beneath" sBen f fd) (aBeg : At K mg "beginning" fN fdN ["place"]) (GBeg : FnOk P w K mg base CX0 1 fN fdN ["place"] spBeg) : FnOk P w K mg base CX0 2 f fd ["path", "place"] spBen := by
  refine F.ok scBen (fun vs H Q E h => ?_) (fun cdv A outer s H vs Q E hr h => ?_)
  · obtain ⟨x, y, rfl, _⟩ := h
    rfl
  · obtain ⟨x, y, rfl, ⟨hx, hy⟩, k⟩ := h
    refine ⟨_, pss_one (ps_ret (pe_and (pe_cmpR op_ne (pv 0) (pv 1) (nomark _)) (pe_one (pe_bm PySem.F.plainAttrs_str PySem.F.slot_str_startswith PySem.F.type_str_startswith mt_startswith (pv 0) (pa_cons (pe_call GBeg (hr.mono (by decide)) rfl aBeg.m aBeg.k aBeg.b .nil pass0 (pa_cons (pv 1) pa_nil)) pa_nil))))), ?_⟩
    have k : ∀ H', Same H H' → Q (.bl ((!decide (x = y)) && Txt.startswith x (begS y))) H' := k
    refine ⟨_, rfl, _, rfl, rfl, _, rfl, ?_⟩
    by_cases h : x = y
    · rw [decide_eq_true (show V.str x = V.str y by rw [h])]
      rw [decide_eq_true h] at k
      exact iteF (k H (Same.refl H))
    · rw [decide_eq_false (show ¬ V.str x = V.str y from fun q => h (V.str.inj q))]
      rw [decide_eq_false h] at k
      exact iteT ⟨_, rfl, rfl, _, rfl, y, rfl, hy, fun H1 s1 => ⟨x, begS y, rfl, rfl, k H1 s1⟩⟩
theorem scAt : FnScope ["path", "place"] ["path", "place"] (defScope sAt) := ⟨rfl, rfl, rfl, by decide +kernel, rfl, by decide +kernel, by decide +kernel⟩
theorem ok_at {f fN : Addr} {fd fdN : FuncData} (F : Fun K "is_at_or_beneath" "is_at_or_beneath" sAt f fd) (aBen : At K mg "is_beneath" fN fdN ["path", "place"]) (GBen : FnOk P w K mg base CX0 2 fN fdN ["path", "place"] spBen) : FnOk P w K mg base CX0 3 f fd ["path", "place"] spAt := by
  refine F.ok scAt (fun vs H Q E h => ?_) (fun cdv A outer s H vs Q E hr h => ?_)
  · obtain ⟨x, y, rfl, _⟩ := h
    rfl
  · obtain ⟨x, y, rfl, c, k⟩ := h
    refine ⟨_, pss_one (ps_ret (pe_or (pe_cmpR op_eq (pv 0) (pv 1) (nomark _)) (pe_one (pe_call GBen (hr.mono (by decide)) rfl aBen.m aBen.k aBen.b .nil pass0 (pa_cons (pv 0) (pa_cons (pv 1) pa_nil)))))), ?_⟩
    have k : ∀ H', Same H H' → Q (.bl (decide (x = y) || benS x y)) H' := k
    refine ⟨_, rfl, _, rfl, rfl, _, rfl, ?_⟩
    by_cases h : x = y
    · rw [decide_eq_true (show V.str x = V.str y by rw [h])]
      rw [decide_eq_true h] at k
      exact iteT (k H (Same.refl H))
    · rw [decide_eq_false (show ¬ V.str x = V.str y from fun q => h (V.str.inj q))]
      rw [decide_eq_false h] at k
      exact iteF ⟨_, rfl, _, rfl, x, y, rfl, c, k⟩
theorem scRest : FnScope ["path", "place"] ["path", "place"] (defScope sRest) := ⟨rfl, rfl, rfl, by decide +kernel, rfl, by decide +kernel, by decide +kernel⟩
theorem ok_rest {f fN : Addr} {fd fdN : FuncData} (F : Fun K "rest_in" "rest_in" sRest f fd) (T0 : TPk mg) (aBeg : At K mg "beginning" fN fdN ["place"]) (GBeg : FnOk P w K mg base CX0 1 fN fdN ["place"] spBeg) : FnOk P w K mg base CX0 2 f fd ["path", "place"] spRest := by
  have T := T0.b
  refine F.ok scRest (fun vs H Q E h => ?_) (fun cdv A outer s H vs Q E hr h => ?_)
  · obtain ⟨x, y, rfl, _⟩ := h
    rfl
  · obtain ⟨x, y, rfl, ⟨hx, hy⟩, k⟩ := h
    refine ⟨_, pss_one (ps_ret (pe_slice sl_str (pv 0) (po_some (pe_callB call_len_str (by rfl) T.len PySem.boot_len (pa_cons (pe_call GBeg (hr.mono (by decide)) rfl aBeg.m aBeg.k aBeg.b .nil pass0 (pa_cons (pv 1) pa_nil)) pa_nil))) po_none)), ?_⟩
    exact ⟨_, rfl, _, rfl, y, rfl, hy, fun H1 s1 => ⟨begS y, rfl, begS_sh hy, ⟨_, rfl, x, rfl, hx.line, k H1 s1⟩⟩⟩
end
end R3

set_option maxHeartbeats 3900000
namespace R3
open PySem PySem.Spec PyProof.Rows L2 TL
open C8 (pss_cut tCut pe_gc)
open CB
abbrev sRow : Stmt := top 19
abbrev sAsLook : Stmt := top 20
abbrev sCanLook : Stmt := top 21
abbrev sCanShow : Stmt := top 22
abbrev sIsListing : Stmt := top 23
abbrev sIsEntry : Stmt := top 24
abbrev sAsSight : Stmt := top 25
/-- an answer: none, a text, entries (name, whether a folder) -/
inductive An
  | no
  | tx (z : Str)
  | es (l : List (Str × Bool))
deriving DecidableEq
def entV (e : Str × Bool) : V := .str (ent e.1 e.2)
/-- an answer as it is passed; as it is told -/
def AnIn (H : Hp) (v : V) : An → Prop
  | .no => v = .non
  | .tx z => v = .str z
  | .es l => RowAt H v (l.map entV)
def AnAt (H : Hp) (v : V) : An → Prop
  | .no => v = .non
  | .tx z => v = .str z
  | .es l => ∃ a, v = .ref a ∧ H a = some (.tup (l.map entV))
def SiIn (H : Hp) (v : V) (s : Lk × An) : Prop := ∃ vk va, RowAt H v [vk, va] ∧ RowAt H vk (lkV s.1) ∧ AnIn H va s.2
def SiAt (H : Hp) (v : V) (s : Lk × An) : Prop := ∃ t u va, v = .ref t ∧ H t = some (.tup [.ref u, va]) ∧ H u = some (.tup (lkV s.1)) ∧ AnAt H va s.2
theorem AnIn.up {H H' : Hp} {v : V} {a : An} (h : AnIn H v a) (s : Same H H') : AnIn H' v a := by
  cases a with
  | no => exact h
  | tx z => exact h
  | es l => exact RowAt.up h s
theorem AnAt.up {H H' : Hp} {v : V} {a : An} (h : AnAt H v a) (s : Same H H') : AnAt H' v a := by
  cases a with
  | no => exact h
  | tx z => exact h
  | es l =>
    obtain ⟨a, e, h⟩ := h
    exact ⟨a, e, s _ _ h⟩
theorem AnAt.in {H : Hp} {v : V} {a : An} (h : AnAt H v a) : AnIn H v a := by
  cases a with
  | no => exact h
  | tx z => exact h
  | es l =>
    obtain ⟨a, e, h⟩ := h
    exact ⟨a, e, .inl h⟩
theorem SiAt.up {H H' : Hp} {v : V} {a : Lk × An} (h : SiAt H v a) (s : Same H H') : SiAt H' v a := by
  obtain ⟨t, u, va, e, h1, h2, h3⟩ := h
  exact ⟨t, u, va, e, s _ _ h1, s _ _ h2, h3.up s⟩
theorem SiIn.up {H H' : Hp} {v : V} {a : Lk × An} (h : SiIn H v a) (s : Same H H') : SiIn H' v a := by
  obtain ⟨vk, va, h1, h2, h3⟩ := h
  exact ⟨vk, va, h1.up s, h2.up s, h3.up s⟩
theorem SiAt.in {H : Hp} {v : V} {a : Lk × An} (h : SiAt H v a) : SiIn H v a := by
  obtain ⟨t, u, va, e, h1, h2, h3⟩ := h
  exact ⟨.ref u, va, ⟨t, e, .inl h1⟩, ⟨u, rfl, .inl h2⟩, h3.in⟩
/-- a look, an answer that are ones -/
def LkOk : Lk → Prop
  | .rd p => p ≠ [] ∧ Nms p ∧ p.length ≤ 90
  | .ls p => Nms p ∧ p.length ≤ 90
  | .se n => IsNm n
  | .tl => True
def Ents (l : List (Str × Bool)) : Prop := (∀ e ∈ l, IsNm e.1) ∧ (l.map (·.1)).Pairwise (fun a b : Str => a.cps.toList < b.cps.toList) ∧ l.length ≤ 1000
def AnOk : Lk → An → Prop
  | .rd _, .no => True
  | .rd _, .tx _ => True
  | .ls p, .no => p ≠ []
  | .ls p, .es l => Ents l ∧ (l ≠ [] ∨ p = [])
  | .se _, .no => True
  | .se _, .tx _ => True
  | .tl, .tx _ => True
  | _, _ => False
def SiOk (s : Lk × An) : Prop := LkOk s.1 ∧ AnOk s.1 s.2
def spRow : Sp := fun vs H Q _ => ∃ v xs n, vs = [v, .int n] ∧ RowAt H v xs ∧ ∀ H', Same H H' → Q (.bl (decide ((xs.length : Int) = n))) H'
def spAsLook : Sp := fun vs H Q _ => ∃ v k, vs = [v] ∧ RowAt H v (lkV k) ∧ LkOk k ∧ ∀ t H', Same H H' → H' t = some (.tup (lkV k)) → Q (.ref t) H'
def spCanLook : Sp := fun vs H Q _ => ∃ k, vs = lkV k ∧ vs.length = 2 ∧ LkOk k ∧ ∀ H', Same H H' → Q (.bl true) H'
def spCanShow : Sp := fun vs H Q _ => ∃ t va k a, vs = [.ref t, va] ∧ H t = some (.tup (lkV k)) ∧ AnIn H va a ∧ LkOk k ∧ AnOk k a ∧ ∀ H', Same H H' → Q (.bl true) H'
def spIsListing : Sp := fun vs H Q _ => ∃ v l, vs = [v] ∧ RowAt H v (l.map entV) ∧ Ents l ∧ ∀ H', Same H H' → Q (.bl true) H'
def spIsEntry : Sp := fun vs H Q _ => ∃ n b, vs = [.str (ent n b)] ∧ IsNm n ∧ ∀ H', Same H H' → Q (.bl true) H'
def spAsSight : Sp := fun vs H Q _ => ∃ v s, vs = [v] ∧ SiIn H v s ∧ SiOk s ∧ ∀ v' H', Same H H' → SiAt H' v' s → Q v' H'
section
variable {P : Program} {w : World} {K : PySem.W.Frag} {mg : Str → Option Value} {base : Heap}
theorem scRow : FnScope ["thing", "size"] ["thing", "size"] (defScope sRow) := ⟨rfl, rfl, rfl, by decide +kernel, rfl, by decide +kernel, by decide +kernel⟩
theorem ok_row {f : Addr} {fd : FuncData} (F : Fun K "is_row" "is_row" sRow f fd) (T : TB mg) : FnOk P w K mg base CX0 1 f fd ["thing", "size"] spRow := by
  refine F.ok scRow (fun vs H Q E h => ?_) (fun cdv A outer s H vs Q E hr h => ?_)
  · obtain ⟨v, xs, n, rfl, _⟩ := h
    rfl
  · obtain ⟨v, xs, n, rfl, hv, k⟩ := h
    refine ⟨_, pss_one (ps_ret (pe_and (pe_callB isi_LT (by rfl) T.isinstance (by decide +kernel) (pa_cons (pv 0) (pa_cons (pe_tup (pa_cons (pe_bltn (v := .ty "list") (by rfl) T.list (by decide +kernel) rfl) (pa_cons (pe_bltn (v := .ty "tuple") (by rfl) T.tuple (by decide +kernel) rfl) pa_nil))) pa_nil))) (pe_one (pe_cmpR op_eq (pe_callB call_len_row (by rfl) T.len PySem.boot_len (pa_cons (pv 0) pa_nil)) (pv 1) (nomark _))))), ?_⟩
    refine ⟨_, rfl, by show 2 ≤ sizeLine; decide, fun tp ht => ⟨v, tp, true, rfl, upd_same, .inl ⟨rfl, xs, hv.up (same_mk ht)⟩, _, rfl, iteT ⟨_, rfl, v, xs, rfl, hv.up (same_mk ht), _, rfl, rfl, ?_⟩⟩⟩
    have e : decide (V.int (xs.length : Int) = V.int n) = decide ((xs.length : Int) = n) := by
      rw [decide_eq_decide]
      exact ⟨fun z => V.int.inj z, fun z => by rw [z]⟩
    rw [e]
    exact k _ (same_mk ht)
theorem scIsEntry : FnScope ["thing"] ["thing"] (defScope sIsEntry) := ⟨rfl, rfl, rfl, by decide +kernel, rfl, by decide +kernel, by decide +kernel⟩
theorem ok_isEntry {f fN : Addr} {fd fdN : FuncData} (F : Fun K "is_entry" "is_entry" sIsEntry f fd) (T0 : TPk mg) (aIsName : At K mg "is_name" fN fdN ["thing"]) (GIsName : FnOk P w K mg base CX0 1 fN fdN ["thing"] spIsName) : FnOk P w K mg base CX0 2 f fd ["thing"] spIsEntry := by
  have T := T0.b
  obtain ⟨t1, mSTROKE⟩ := T0.STROKE
  refine F.ok scIsEntry (fun vs H Q E h => ?_) (fun cdv A outer s H vs Q E hr h => ?_)
  · obtain ⟨n, b, rfl, _⟩ := h
    rfl
  · obtain ⟨n, b, rfl, hn, k⟩ := h
    refine ⟨_, pss_one (ps_ret (pe_and (pe_callB call_isi (by rfl) T.isinstance (by decide +kernel) (pa_cons (pv 0) (pa_cons (pe_bltn (v := .ty "str") (by rfl) T.str (by decide +kernel) rfl) pa_nil))) (pe_one (pe_call GIsName (hr.mono (by decide)) rfl aIsName.m aIsName.k aIsName.b .nil pass0 (pa_cons (pe_bm PySem.F.plainAttrs_str PySem.F.slot_str_removesuffix PySem.F.type_str_removesuffix mt_removesuffix (pv 0) (pa_cons (pe_glob (v := .str "/") rfl mSTROKE ⟨_, rfl⟩) pa_nil)) pa_nil))))), ?_⟩
    refine ⟨_, rfl, _, _, .type "str", .type "str", true, rfl, .ty "str", .base (.str _), kit_ty (by decide +kernel), _, rfl, iteT ⟨_, rfl, rfl, ent n b, "/", rfl, rfl, ?_, _, rfl, ?_, fun H1 s1 => ?_⟩⟩
    · have h8 := hn.2.1
      refine Nat.le_trans (show (ent n b).length ≤ 9 from ?_) (by decide)
      rw [len_tl, tl_ent, List.length_append, ← len_tl]
      cases b <;> simp <;> omega
    · rw [rms_ent hn]
      exact nm_sh hn
    · rw [rms_ent hn]
      show Q (.bl (decide (IsNm n))) H1
      rw [decide_eq_true hn]
      exact k H1 s1
theorem scCanLook : FnScope ["word", "where"] ["word", "where"] (defScope sCanLook) := ⟨rfl, rfl, rfl, by decide +kernel, rfl, by decide +kernel, by decide +kernel⟩
theorem ok_canLook {f fN fPh fPl : Addr} {fd fdN fdPh fdPl : FuncData} (F : Fun K "can_look" "can_look" sCanLook f fd) (T0 : TPk mg) (aIsName : At K mg "is_name" fN fdN ["thing"]) (aIsPath : At K mg "is_path" fPh fdPh ["thing"]) (aIsPlace : At K mg "is_place" fPl fdPl ["thing"])
    (GIsName : FnOk P w K mg base CX0 1 fN fdN ["thing"] spIsName) (GIsPath : FnOk P w K mg base CX0 2 fPh fdPh ["thing"] spIsPath) (GIsPlace : FnOk P w K mg base CX0 3 fPl fdPl ["thing"] spIsPlace) : FnOk P w K mg base CX0 4 f fd ["word", "where"] spCanLook := by
  have T := T0.b
  refine F.ok scCanLook (fun vs H Q E h => ?_) (fun cdv A outer s H vs Q E hr h => ?_)
  · obtain ⟨k, _, h2, _⟩ := h
    exact h2
  · obtain ⟨k, rfl, h2, hk, q⟩ := h
    refine ⟨_, pss_cons (ps_if (pt_not (pt_val (pe_callB call_isi (by rfl) T.isinstance (by decide +kernel) (pa_cons (pv 0) (pa_cons (pe_bltn (v := .ty "str") (by rfl) T.str (by decide +kernel) rfl) pa_nil))))) (pss_one (ps_ret pe_bl)) (pss_nil))
            (pss_cons (ps_if (pt_cmpR op_eq (pv 0) pe_str (nomark _)) (pss_one (ps_ret (pe_call GIsPath (hr.mono (by decide)) rfl aIsPath.m aIsPath.k aIsPath.b .nil pass0 (pa_cons (pv 1) pa_nil)))) (pss_nil))
            (pss_cons (ps_if (pt_cmpR op_eq (pv 0) pe_str (nomark _)) (pss_one (ps_ret (pe_call GIsPlace (hr.mono (by decide)) rfl aIsPlace.m aIsPlace.k aIsPlace.b .nil pass0 (pa_cons (pv 1) pa_nil)))) (pss_nil))
            (pss_one (ps_ret (pe_and (pe_cmpR op_eq (pv 0) pe_str (nomark _)) (pe_one (pe_call GIsName (hr.mono (by decide)) rfl aIsName.m aIsName.k aIsName.b .nil pass0 (pa_cons (pv 1) pa_nil)))))))), ?_⟩
    cases k with
    | rd p =>
      refine ⟨_, rfl, _, _, .type "str", .type "str", true, rfl, .ty "str", .base (.str _), kit_ty (by decide +kernel), _, rfl, iteF ⟨_, rfl, rfl, _, rfl, iteY rfl ⟨_, rfl, p, rfl, hk.2.1, Nat.le_trans hk.2.2 (by decide), fun H1 s1 => ?_⟩⟩⟩
      rw [decide_eq_true hk.1]
      exact q H1 s1
    | ls p =>
      exact ⟨_, rfl, _, _, .type "str", .type "str", true, rfl, .ty "str", .base (.str _), kit_ty (by decide +kernel), _, rfl, iteF ⟨_, rfl, rfl, _, rfl, iteN (by decide +kernel) ⟨_, rfl, rfl, _, rfl, iteY rfl ⟨_, rfl, p, rfl, hk.1, Nat.le_trans hk.2 (by decide), q⟩⟩⟩⟩
    | se n =>
      refine ⟨_, rfl, _, _, .type "str", .type "str", true, rfl, .ty "str", .base (.str _), kit_ty (by decide +kernel), _, rfl, iteF ⟨_, rfl, rfl, _, rfl, iteN (by decide +kernel) ⟨_, rfl, rfl, _, rfl, iteN (by decide +kernel) ⟨_, rfl, rfl, _, rfl, iteY rfl ⟨_, rfl, n, rfl, nm_sh hk, fun H1 s1 => ?_⟩⟩⟩⟩⟩
      show Q (.bl (decide (IsNm n))) H1
      rw [decide_eq_true (show IsNm n from hk)]
      exact q H1 s1
    | tl => exact absurd h2 (by decide)
theorem scAsLook : FnScope ["thing"] ["thing"] (defScope sAsLook) := ⟨rfl, rfl, rfl, by decide +kernel, rfl, by decide +kernel, by decide +kernel⟩
theorem ok_asLook {f fR fC : Addr} {fd fdR fdC : FuncData} (F : Fun K "as_look" "as_look" sAsLook f fd) (T : TB mg) (aRow : At K mg "is_row" fR fdR ["thing", "size"]) (aCanLook : At K mg "can_look" fC fdC ["word", "where"])
    (GRow : FnOk P w K mg base CX0 1 fR fdR ["thing", "size"] spRow) (GCanLook : FnOk P w K mg base CX0 4 fC fdC ["word", "where"] spCanLook) : FnOk P w K mg base CX0 5 f fd ["thing"] spAsLook := by
  refine F.ok scAsLook (fun vs H Q E h => ?_) (fun cdv A outer s H vs Q E hr h => ?_)
  · obtain ⟨v, k, rfl, _⟩ := h
    rfl
  · obtain ⟨v, k, rfl, hv, hk, q⟩ := h
    refine ⟨_, pss_cons (ps_if (PW.pt (pw_and (pt_val (pe_call GRow (hr.mono (by decide)) rfl aRow.m aRow.k aRow.b .nil pass0 (pa_cons (pv 0) (pa_cons pe_int pa_nil)))) (pw_and (pt_val (pe_callB call_isi (by rfl) T.isinstance (by decide +kernel) (pa_cons (pe_ix ix_row (pv 0) pe_int (fun _ _ => rfl)) (pa_cons (pe_bltn (v := .ty "str") (by rfl) T.str (by decide +kernel) rfl) pa_nil)))) (pw_and1 (pt_cmpR op_eq (pe_ix ix_row (pv 0) pe_int (fun _ _ => rfl)) pe_str (nomark _)))))) (pss_one (ps_ret (pe_tup (pa_cons pe_str pa_nil)))) (pss_nil))
            (pss_cons (ps_if (PW.pt (pw_and (pt_val (pe_call GRow (hr.mono (by decide)) rfl aRow.m aRow.k aRow.b .nil pass0 (pa_cons (pv 0) (pa_cons pe_int pa_nil)))) (pw_and1 (pt_val (pe_call GCanLook (hr.mono (by decide)) rfl aCanLook.m aCanLook.k aCanLook.b .nil pass0 (pa_cons (pe_ix ix_row (pv 0) pe_int (fun _ _ => rfl)) (pa_cons (pe_ix ix_row (pv 0) pe_int (fun _ _ => rfl)) pa_nil))))))) (pss_one (ps_ret (pe_tup (pa_cons (pe_ix ix_row (pv 0) pe_int (fun _ _ => rfl)) (pa_cons (pe_ix ix_row (pv 0) pe_int (fun _ _ => rfl)) pa_nil))))) (pss_nil))
            (pss_one (ps_ret pe_non))), ?_⟩
    have two : ∀ (x y : V), lkV k = [x, y] → ∃ Z : Prop, True := fun _ _ _ => ⟨True, trivial⟩
    by_cases e : k = .tl
    · subst e
      refine ⟨_, rfl, v, _, 1, rfl, hv, fun H1 s1 => ⟨_, rfl, iteY rfl ⟨_, rfl, _, 0, _, hv.up s1, rfl, atI_nat (j := 0) rfl, _, _, .type "str", .type "str", true, rfl, .ty "str", .base (.str _), kit_ty (by decide +kernel), _, rfl, iteT ⟨_, rfl, _, 0, _, hv.up s1, rfl, atI_nat (j := 0) rfl, rfl, _, rfl, iteY rfl ⟨by show 1 ≤ sizeLine; decide, fun t ht => ?_⟩⟩⟩⟩⟩
      exact q t _ (same_ch s1 (s1.free ht)) upd_same
    · obtain ⟨x, y, exy⟩ : ∃ x y, lkV k = [x, y] := by
        cases k with
        | tl => exact absurd rfl e
        | _ => exact ⟨_, _, rfl⟩
      rw [exy] at hv
      refine ⟨_, rfl, v, _, 1, rfl, hv, fun H1 s1 => ⟨_, rfl, iteN (by show ¬ ((2 : Nat) : Int) = 1; decide) ⟨_, rfl, v, _, 2, rfl, hv.up s1, fun H2 s2 => ⟨_, rfl, iteY rfl ?_⟩⟩⟩⟩
      have v2 := (hv.up s1).up s2
      refine ⟨_, rfl, _, 0, _, v2, rfl, atI_nat (j := 0) rfl, _, rfl, _, 1, _, v2, rfl, atI_nat (j := 1) rfl, k, exy.symm, rfl, hk, fun H3 s3 => ⟨_, rfl, iteT ?_⟩⟩
      have v3 := v2.up s3
      refine ⟨_, rfl, _, 0, _, v3, rfl, atI_nat (j := 0) rfl, _, rfl, _, 1, _, v3, rfl, atI_nat (j := 1) rfl, by show 2 ≤ sizeLine; decide, fun t ht => ?_⟩
      refine q t _ (same_ch ((s1.trans s2).trans s3) (((s1.trans s2).trans s3).free ht)) ?_
      rw [exy]
      exact upd_same
theorem scIsListing : FnScope ["thing", "names", "entry", "one", "other"] ["thing"] (defScope sIsListing) := ⟨rfl, rfl, rfl, by decide +kernel, rfl, by decide +kernel, by decide +kernel⟩
theorem ok_isListing {f fE : Addr} {fd fdE : FuncData} (F : Fun K "is_listing" "is_listing" sIsListing f fd) (T0 : TPk mg) (aIsEntry : At K mg "is_entry" fE fdE ["thing"]) (GIsEntry : FnOk P w K mg base CX0 2 fE fdE ["thing"] spIsEntry) : FnOk P w K mg base CX0 3 f fd ["thing"] spIsListing := by
  have T := T0.b
  obtain ⟨t1, mSTROKE⟩ := T0.STROKE
  refine F.ok scIsListing (fun vs H Q E h => ?_) (fun cdv A outer s H vs Q E hr h => ?_)
  · obtain ⟨v, l, rfl, _⟩ := h
    rfl
  · obtain ⟨v, l, rfl, hv, hl, k⟩ := h
    refine ⟨_, pss_cons (ps_if (PW.pt (pw_or (pt_not (pt_val (pe_callB isi_LT (by rfl) T.isinstance (by decide +kernel) (pa_cons (pv 0) (pa_cons (pe_tup (pa_cons (pe_bltn (v := .ty "list") (by rfl) T.list (by decide +kernel) rfl) (pa_cons (pe_bltn (v := .ty "tuple") (by rfl) T.tuple (by decide +kernel) rfl) pa_nil))) pa_nil))))) (pw_or1 (pt_not (pt_val (pe_callB (cr_all rfl) (by rfl) T.all boot_all (pa_cons (pe_lc (own := [("entry", 2)]) (g := gName 2) (tt := tYes) rfl scIsListing.nd (pi_seqv (pv 0)) (blkOk_by (own := [("entry", 2)]) (N := ["thing", "names", "entry", "one", "other"]) (sc := defScope sIsListing) (by decide +kernel)) (fun _ _ _ _ _ => (pg_name (i := 2) scIsListing.nd rfl (Or.inl rfl))) (fun _ _ _ _ _ => pts_nil) (fun _ _ _ _ _ => (by exact (pe_call GIsEntry (hr.mono (by decide)) rfl aIsEntry.m aIsEntry.k aIsEntry.b .nil pass0 (pa_cons (pv 2) pa_nil))))) pa_nil))))))) (pss_one (ps_ret pe_bl)) (pss_nil))
            (pss_cons (ps_setLc (i := 1) (own := [("entry", 2)]) (g := gName 2) (tt := tYes) rfl scIsListing.nd rfl rfl (sw_true rfl rfl rfl (by decide +kernel)) (pi_seqv (pv 0)) (blkOk_by (own := [("entry", 2)]) (N := ["thing", "names", "entry", "one", "other"]) (sc := defScope sIsListing) (by decide +kernel)) (fun _ _ _ _ _ => (pg_name (i := 2) scIsListing.nd rfl (Or.inl rfl))) (fun _ _ _ _ _ => pts_nil) (fun _ _ _ _ _ => (by exact (pe_bmK K rfl PySem.F.plainAttrs_str PySem.F.slot_str_removesuffix PySem.F.type_str_removesuffix mt_removesuffix (pv 2) (pa_cons (pe_glob (v := .str "/") rfl mSTROKE ⟨_, rfl⟩) pa_nil)))))
            (pss_one (ps_ret (pe_callB (cr_all rfl) (by rfl) T.all boot_all (pa_cons (pe_lc (own := [("one", 3), ("other", 4)]) (g := gTup K 2 (gCons (gName 3) (gCons (gName 4) gNil))) (tt := tYes) rfl scIsListing.nd (pi_zip (by rfl) T.zip (pa_cons (pv 1) (pa_cons (pe_slice sl_list (pv 1) (po_some pe_int) po_none) pa_nil))) (blkOk_by (own := [("one", 3), ("other", 4)]) (N := ["thing", "names", "entry", "one", "other"]) (sc := defScope sIsListing) (by decide +kernel)) (fun _ _ _ _ _ => (pg_tupK (K0 := K) rfl rfl (pgs_cons (pg_name (i := 3) scIsListing.nd rfl (Or.inl rfl)) (pgs_cons (pg_name (i := 4) scIsListing.nd rfl (Or.inl rfl)) pgs_nil)))) (fun _ _ _ _ _ => pts_nil) (fun _ _ _ _ _ => (by exact (pe_cmpR op_lt_str (pv 3) (pv 4) (nomark _))))) pa_nil))))), ?_⟩
    have hs : l.length < 1000000 := Nat.lt_of_le_of_lt hl.2.2 (by decide)
    have at1 : (l.all fun _ => true) = true := List.all_eq_true.mpr fun _ _ => rfl
    refine ⟨_, rfl, by show 2 ≤ sizeLine; decide, fun tp ht => ⟨v, tp, true, rfl, upd_same, .inl ⟨rfl, _, hv.up (same_mk ht)⟩, _, rfl, iteF ?_⟩⟩
    refine all_row l entV (fun _ => true) rfl (hv.up (same_mk ht)) hs ?_ ?_
    · intro e he H2 s2 Q1 k1
      exact ⟨_, rfl, e.1, e.2, rfl, hl.1 e he, k1⟩
    intro H1 s1
    rw [at1]
    refine ⟨_, rfl, iteF ?_⟩
    have sa := (same_mk ht).trans s1
    refine set_row l entV (fun e => .str e.1) rfl (hv.up sa) hs ?_ ?_
    · intro e he H2 s2 Q1 k1
      refine ⟨_, rfl, rfl, ent e.1 e.2, "/", rfl, rfl, ?_, ?_⟩
      · have h8 := (hl.1 e he).2.1
        refine Nat.le_trans (show (ent e.1 e.2).length ≤ 9 from ?_) (by decide)
        rw [len_tl, tl_ent, List.length_append, ← len_tl]
        cases e.2 <;> simp <;> omega
      · rw [rms_ent (hl.1 e he)]
        exact k1 H2 (Same.refl H2)
    intro D H2 s2 hD hD2
    refine ⟨_, rfl, _, rfl, 1, rfl, D, _, rfl, SqL.of hD2, fun p hp => ?_⟩
    have hD3 := same_mk (o := .lst (cutV (l.map fun e => V.str e.1) (some 1) none)) hp _ _ hD2
    refine ⟨D, p, _, _, rfl, SqL.of hD3, SqL.of upd_same, fun D2 hD2' => ?_⟩
    rw [cut_1] at hD2' ⊢
    rw [cut_1] at hD3
    have le : (List.replicate (min (l.map fun e => V.str e.1).length ((l.map fun e => V.str e.1).drop 1).length) (V.bl true)).length = min (l.map fun e => V.str e.1).length ((l.map fun e => V.str e.1).drop 1).length := List.length_replicate
    refine lcW2 (walk_zip rfl) (by decide) _ le ?_ hD2' (fun H' s' => ⟨s'.seq (SqL.of hD3), s'.seq (SqL.of upd_same)⟩) ?_ ?_
    · rw [List.length_map]
      omega
    · intro m x x' y H4 hy ex ex' s4 Q1 k1
      obtain ⟨e1, he1, rfl⟩ : ∃ e, l[m]? = some e ∧ x = .str e.1 := by
        rw [List.getElem?_map] at ex
        cases q : l[m]? with
        | none => rw [q] at ex; cases ex
        | some e => rw [q] at ex; cases ex; exact ⟨e, rfl, rfl⟩
      obtain ⟨e2, he2, rfl⟩ : ∃ e, l[m + 1]? = some e ∧ x' = .str e.1 := by
        rw [List.getElem?_drop, List.getElem?_map, Nat.add_comm] at ex'
        cases q : l[m + 1]? with
        | none => rw [q] at ex'; cases ex'
        | some e => rw [q] at ex'; cases ex'; exact ⟨e, rfl, rfl⟩
      have yt : y = .bl true := by
        have := List.mem_of_getElem? hy
        exact (List.mem_replicate.mp this).2
      subst yt
      refine ⟨_, rfl, _, rfl, e1.1, e2.1, rfl, rfl, ?_⟩
      have lt : e1.1.cps.toList < e2.1.cps.toList := by
        have pw := hl.2.1
        rw [List.pairwise_iff_getElem] at pw
        obtain ⟨h1, g1⟩ := List.getElem?_eq_some_iff.mp he1
        obtain ⟨h2, g2⟩ := List.getElem?_eq_some_iff.mp he2
        have := pw m (m + 1) (by rw [List.length_map]; exact h1) (by rw [List.length_map]; exact h2) (Nat.lt_succ_self m)
        rw [List.getElem_map, List.getElem_map, g1, g2] at this
        exact this
      rw [decide_eq_true lt]
      exact k1 H4 (Same.refl H4)
    · intro H5 s5 hD5
      refine all_of (List.replicate (min (l.map fun e => V.str e.1).length ((l.map fun e => V.str e.1).drop 1).length) true) id (by rw [hD5, List.map_replicate]; rfl) ?_
      have ar : ∀ n, (List.replicate n true).all id = true := fun n => List.all_eq_true.mpr fun b hb => (List.mem_replicate.mp hb).2
      rw [ar]
      exact k H5 ((sa.trans s2).trans ((same_mk hp).trans s5))
def strD (l : List Str) : PyData := .tuple (l.map .str)
abbrev Okz (z : Str) : Prop := PyData.strOk z = true
theorem okz_of {z : Str} (h : ∀ c ∈ tl z, c < 1114112) : Okz z := by
  show (z.cps.all fun c => decide (c < 1114112)) = true
  rw [Array.all_eq_true_iff_forall_mem]
  intro c hc
  exact decide_eq_true (h c (Array.mem_toList_iff.mpr hc))
theorem jl_small : ∀ {p : List Str}, Nms p → ∀ c ∈ jl p, c < 128
  | [], _ => by intro c hc; cases hc
  | [y], h => fun c hc => by
    have := (h y List.mem_cons_self).2.2 c hc
    omega
  | y :: z :: r, h => fun c hc => by
    have e : jl (y :: z :: r) = tl y ++ ([47] ++ jl (z :: r)) := rfl
    rw [e] at hc
    rcases List.mem_append.mp hc with q | q
    · have := (h y List.mem_cons_self).2.2 c q
      omega
    · rcases List.mem_append.mp q with q | q
      · rw [List.mem_singleton.mp q]
        decide
      · exact jl_small h.tail c q
theorem okz_js {p : List Str} (h : Nms p) : Okz (js p) := okz_of fun c hc => by
  rw [tl_js] at hc
  have := jl_small h c hc
  omega
theorem okz_nm {z : Str} (h : IsNm z) : Okz z := okz_of fun c hc => by
  have := h.2.2 c hc
  omega
theorem okz_ent {z : Str} (h : IsNm z) (b : Bool) : Okz (ent z b) := okz_of fun c hc => by
  rw [tl_ent] at hc
  rcases List.mem_append.mp hc with q | q
  · have := h.2.2 c q
    omega
  · cases b
    · cases q
    · rw [List.mem_singleton.mp q]
      decide
theorem lay_strs : ∀ l : List Str, (∀ z ∈ l, Okz z) → PyData.canLayAll0 (l.map .str) = true
  | [], _ => by simp [PyData.canLayAll0]
  | z :: r, h => by
    have h1 : PyData.strOk z = true := h z List.mem_cons_self
    simp [PyData.canLayAll0, PyData.canLay0, lay_strs r fun y hy => h y (List.mem_cons_of_mem _ hy), h1]
theorem dep_strs : ∀ l : List Str, PyData.depthAll (l.map .str) ≤ 1
  | [] => by simp [PyData.depthAll]
  | z :: r => by
    have := dep_strs r
    simp only [List.map_cons, PyData.depthAll, PyData.depth]
    omega
theorem shaped_strs (l : List Str) (hl : ∀ z ∈ l, Okz z) : SeqAt.shaped (strD l) = true := by
  have h := dep_strs l
  have h2 : PyData.depth (.tuple (l.map .str)) ≤ 64 := by
    simp only [PyData.depth]
    omega
  show (PyData.canLay0 (.tuple (l.map .str)) && decide (PyData.depth (.tuple (l.map .str)) ≤ 64)) = true
  rw [Bool.and_eq_true]
  exact ⟨by simp only [PyData.canLay0]; exact lay_strs l hl, decide_eq_true h2⟩
theorem dp_strs {H : Hp} : ∀ l : List Str, DpAll K H (l.map V.str) (l.map PyData.str)
  | [] => .nil
  | z :: r => .cons (.str z) (dp_strs r)
theorem eqv_str2 (a b c d : Str) : PyData.eqv (strD [a, b]) (strD [c, d]) = ((a == c) && (b == d)) := by
  simp [strD, PyData.eqv, PyData.eqvAll]
theorem scCanShow : FnScope ["look", "answer", "word"] ["look", "answer"] (defScope sCanShow) := ⟨rfl, rfl, rfl, by decide +kernel, rfl, by decide +kernel, by decide +kernel⟩
theorem ok_canShow {f fL : Addr} {fd fdL : FuncData} (F : Fun K "can_show" "can_show" sCanShow f fd) (T0 : TPk mg) (aIsListing : At K mg "is_listing" fL fdL ["thing"]) (GIsListing : FnOk P w K mg base CX0 3 fL fdL ["thing"] spIsListing) : FnOk P w K mg base CX0 4 f fd ["look", "answer"] spCanShow := by
  have T := T0.b
  obtain ⟨t1, mROOT⟩ := T0.ROOT
  refine F.ok scCanShow (fun vs H Q E h => ?_) (fun cdv A outer s H vs Q E hr h => ?_)
  · obtain ⟨t, va, k, a, rfl, _⟩ := h
    rfl
  · have hu := hr.units
    obtain ⟨t, va, k, a, rfl, ht, ha, hk, ok, q⟩ := h
    refine ⟨_, pss_cons (ps_set (i := 2) scCanShow.nd rfl (Or.inl rfl) (pe_ix ix_tup (pv 0) pe_int (fun _ _ => rfl)))
            (pss_cons (ps_if (pt_cmp (pc_isN (pv 1))) (pss_one (ps_ret (pe_and (pe_cmpR op_ne (pv 2) pe_str (nomark _)) (pe_one (pe_cmpR (op_neD hu) (pv 0) (pe_tup (pa_cons pe_str (pa_cons (pe_glob (v := .str "") rfl mROOT ⟨_, rfl⟩) pa_nil))) (nomark _)))))) (pss_nil))
            (pss_cons (ps_if (pt_cmpR op_eq (pv 2) pe_str (nomark _)) (pss_one (ps_ret (pe_and (pe_call GIsListing (hr.mono (by decide)) rfl aIsListing.m aIsListing.k aIsListing.b .nil pass0 (pa_cons (pv 1) pa_nil)) (pe_one (pe_or (pe_cmpR op_gt (pe_callB call_len_row (by rfl) T.len PySem.boot_len (pa_cons (pv 1) pa_nil)) pe_int (nomark _)) (pe_one (pe_cmpR op_eq (pe_ix ix_tup (pv 0) pe_int (fun _ _ => rfl)) (pe_glob (v := .str "") rfl mROOT ⟨_, rfl⟩) (nomark _)))))))) (pss_nil))
            (pss_one (ps_ret (pe_callB call_isi (by rfl) T.isinstance (by decide +kernel) (pa_cons (pv 1) (pa_cons (pe_bltn (v := .ty "str") (by rfl) T.str (by decide +kernel) rfl) pa_nil))))))), ?_⟩
    have neD : ∀ (x y : Str) (p : Addr) (H2 : Hp), H2 t = some (.tup [.str x, .str y]) → H2 p = some (.tup [.str "list", .str ""]) → Okz y → (x = "list" → y ≠ "") → Okz x → ∀ Q1 : VK, Q1 (.bl true) H2 → rNeD K (.ref t) (.ref p) H2 Q1 := fun x y p H2 e1 e2 oy ne ox Q1 q1 => by
      refine ⟨strD [x, y], strD ["list", ""], .tup (SqT.of e1) (dp_strs [x, y]), .tup (SqT.of e2) (dp_strs ["list", ""]), shaped_strs _ (by simpa using ⟨ox, oy⟩), shaped_strs _ (by decide +kernel), ?_⟩
      rw [eqv_str2]
      have : ((x == "list") && (y == "")) = false := by
        rw [Bool.and_eq_false_iff]
        by_cases e : x = "list"
        · exact .inr (beq_eq_false_iff_ne.mpr (ne e))
        · exact .inl (beq_eq_false_iff_ne.mpr e)
      rw [this]
      exact q1
    cases k with
    | rd p =>
      refine ⟨_, rfl, t, _, 0, _, rfl, rfl, SqT.of ht, atI_nat (j := 0) rfl, ?_⟩
      cases a with
      | no =>
        cases (show va = .non from ha)
        refine ⟨_, rfl, _, rfl, iteT ⟨_, rfl, rfl, _, rfl, iteT ⟨_, rfl, by show 2 ≤ sizeLine; decide, fun p hp => ?_⟩⟩⟩
        exact neD _ _ p _ (same_mk hp _ _ ht) upd_same (okz_js hk.2.1) (fun z => absurd z (by decide +kernel)) (by decide +kernel) _ (q _ (same_mk hp))
      | tx z =>
        cases (show va = .str z from ha)
        exact ⟨_, rfl, _, rfl, iteN (by intro z; cases z) ⟨_, rfl, rfl, _, rfl, iteN (by decide +kernel) ⟨_, rfl, _, _, .type "str", .type "str", true, rfl, .ty "str", .base (.str _), kit_ty (by decide +kernel), q H (Same.refl H)⟩⟩⟩
      | es l => exact ok.elim
    | ls p =>
      refine ⟨_, rfl, t, _, 0, _, rfl, rfl, SqT.of ht, atI_nat (j := 0) rfl, ?_⟩
      cases a with
      | no =>
        cases (show va = .non from ha)
        refine ⟨_, rfl, _, rfl, iteT ⟨_, rfl, rfl, _, rfl, iteT ⟨_, rfl, by show 2 ≤ sizeLine; decide, fun p hp => ?_⟩⟩⟩
        exact neD _ _ p _ (same_mk hp _ _ ht) upd_same (okz_js hk.1) (fun _ => js_ne hk.1 ok) (by decide +kernel) _ (q _ (same_mk hp))
      | tx z => exact ok.elim
      | es l =>
        obtain ⟨b, rfl, hb⟩ := (show RowAt H va (l.map entV) from ha)
        refine ⟨_, rfl, _, rfl, iteN (by intro z; cases z) ⟨_, rfl, rfl, _, rfl, iteY rfl ⟨_, rfl, .ref b, l, rfl, ⟨b, rfl, hb⟩, ok.1, fun H1 s1 => ⟨_, rfl, iteT ⟨_, rfl, .ref b, _, rfl, RowAt.up ⟨b, rfl, hb⟩ s1, _, _, rfl, rfl, _, rfl, ?_⟩⟩⟩⟩⟩
        rw [List.length_map]
        by_cases e : l = []
        · subst e
          refine iteN (by decide) ⟨_, rfl, t, _, 1, _, rfl, rfl, SqT.of (s1 _ _ ht), atI_nat (j := 1) rfl, rfl, ?_⟩
          have pe : p = [] := ok.2.resolve_left (fun z => z rfl)
          subst pe
          exact q H1 s1
        · have := List.length_pos_iff.mpr e
          refine iteY (by omega) ?_
          exact q H1 s1
    | se n =>
      refine ⟨_, rfl, t, _, 0, _, rfl, rfl, SqT.of ht, atI_nat (j := 0) rfl, ?_⟩
      cases a with
      | no =>
        cases (show va = .non from ha)
        refine ⟨_, rfl, _, rfl, iteT ⟨_, rfl, rfl, _, rfl, iteT ⟨_, rfl, by show 2 ≤ sizeLine; decide, fun p hp => ?_⟩⟩⟩
        exact neD _ _ p _ (same_mk hp _ _ ht) upd_same (okz_nm hk) (fun z => absurd z (by decide +kernel)) (by decide +kernel) _ (q _ (same_mk hp))
      | tx z =>
        cases (show va = .str z from ha)
        exact ⟨_, rfl, _, rfl, iteN (by intro z; cases z) ⟨_, rfl, rfl, _, rfl, iteN (by decide +kernel) ⟨_, rfl, _, _, .type "str", .type "str", true, rfl, .ty "str", .base (.str _), kit_ty (by decide +kernel), q H (Same.refl H)⟩⟩⟩
      | es l => exact ok.elim
    | tl =>
      refine ⟨_, rfl, t, _, 0, _, rfl, rfl, SqT.of ht, atI_nat (j := 0) rfl, ?_⟩
      cases a with
      | no => exact ok.elim
      | tx z =>
        cases (show va = .str z from ha)
        exact ⟨_, rfl, _, rfl, iteN (by intro z; cases z) ⟨_, rfl, rfl, _, rfl, iteN (by decide +kernel) ⟨_, rfl, _, _, .type "str", .type "str", true, rfl, .ty "str", .base (.str _), kit_ty (by decide +kernel), q H (Same.refl H)⟩⟩⟩
      | es l => exact ok.elim
theorem scAsSight : FnScope ["thing", "look"] ["thing"] (defScope sAsSight) := ⟨rfl, rfl, rfl, by decide +kernel, rfl, by decide +kernel, by decide +kernel⟩
theorem ok_asSight {f fR fL fS : Addr} {fd fdR fdL fdS : FuncData} (F : Fun K "as_sight" "as_sight" sAsSight f fd) (T : TB mg) (aRow : At K mg "is_row" fR fdR ["thing", "size"]) (aAsLook : At K mg "as_look" fL fdL ["thing"]) (aCanShow : At K mg "can_show" fS fdS ["look", "answer"])
    (GRow : FnOk P w K mg base CX0 1 fR fdR ["thing", "size"] spRow) (GAsLook : FnOk P w K mg base CX0 5 fL fdL ["thing"] spAsLook) (GCanShow : FnOk P w K mg base CX0 4 fS fdS ["look", "answer"] spCanShow) : FnOk P w K mg base CX0 6 f fd ["thing"] spAsSight := by
  refine F.ok scAsSight (fun vs H Q E h => ?_) (fun cdv A outer s H vs Q E hr h => ?_)
  · obtain ⟨v, k, rfl, _⟩ := h
    rfl
  · obtain ⟨v, ⟨k, a⟩, rfl, ⟨vk, va, hv, hk, ha⟩, ⟨ok1, ok2⟩, q⟩ := h
    refine ⟨_, pss_cons (ps_if (pt_not (pt_val (pe_call GRow (hr.mono (by decide)) rfl aRow.m aRow.k aRow.b .nil pass0 (pa_cons (pv 0) (pa_cons pe_int pa_nil))))) (pss_one (ps_ret pe_non)) (pss_nil))
            (pss_cons (ps_set (i := 1) scAsSight.nd rfl (Or.inl rfl) (pe_call GAsLook (hr.mono (by decide)) rfl aAsLook.m aAsLook.k aAsLook.b .nil pass0 (pa_cons (pe_ix ix_row (pv 0) pe_int (fun _ _ => rfl)) pa_nil)))
            (pss_cons (ps_if (PW.pt (pw_or (pt_cmp (pc_isN (pv 1))) (pw_or1 (pt_not (pt_val (pe_call GCanShow (hr.mono (by decide)) rfl aCanShow.m aCanShow.k aCanShow.b .nil pass0 (pa_cons (pv 1) (pa_cons (pe_ix ix_row (pv 0) pe_int (fun _ _ => rfl)) pa_nil)))))))) (pss_one (ps_ret pe_non)) (pss_nil))
            (pss_cons (ps_if (pt_val (pe_callB isi_LT (by rfl) T.isinstance (by decide +kernel) (pa_cons (pe_ix ix_row (pv 0) pe_int (fun _ _ => rfl)) (pa_cons (pe_tup (pa_cons (pe_bltn (v := .ty "list") (by rfl) T.list (by decide +kernel) rfl) (pa_cons (pe_bltn (v := .ty "tuple") (by rfl) T.tuple (by decide +kernel) rfl) pa_nil))) pa_nil)))) (pss_one (ps_ret (pe_tup (pa_cons (pv 1) (pa_cons (pe_callTy call_tup_row (by rfl) T.tuple (by decide +kernel) (pa_cons (pe_ix ix_row (pv 0) pe_int (fun _ _ => rfl)) pa_nil)) pa_nil))))) (pss_nil))
            (pss_one (ps_ret (pe_tup (pa_cons (pv 1) (pa_cons (pe_ix ix_row (pv 0) pe_int (fun _ _ => rfl)) pa_nil)))))))), ?_⟩
    refine ⟨_, rfl, v, _, 2, rfl, hv, fun H1 s1 => ⟨_, rfl, iteF ?_⟩⟩
    have v1 := hv.up s1
    refine ⟨_, rfl, _, 0, _, v1, rfl, atI_nat (j := 0) rfl, vk, k, rfl, RowAt.up hk s1, ok1, fun t H2 s2 ht => ?_⟩
    have v2 := v1.up s2
    have a2 := (ha.up s1).up s2
    refine ⟨_, rfl, _, rfl, iteN (by intro z; cases z) ⟨_, rfl, _, rfl, _, 1, _, v2, rfl, atI_nat (j := 1) rfl, t, va, k, a, rfl, ht, a2, ok1, ok2, fun H3 s3 => ⟨_, rfl, iteF ?_⟩⟩⟩
    have v3 := v2.up s3
    have a3 := a2.up s3
    have ht3 := s3 _ _ ht
    have s123 := (s1.trans s2).trans s3
    have fin : ∀ (H5 : Hp), Same H3 H5 → AnAt H5 va a → (∀ p, H5 p = none → Q (.ref p) (upd H5 p (.tup [.ref t, va]))) := fun H5 s5 hA p hp => by
      refine q (.ref p) _ (same_ch (s123.trans s5) ((s123.trans s5).free hp)) ⟨p, t, va, rfl, upd_same, same_mk hp _ _ (s5 _ _ ht3), hA.up (same_mk hp)⟩
    refine ⟨_, rfl, _, 1, _, v3, rfl, atI_nat (j := 1) rfl, by show 2 ≤ sizeLine; decide, fun tp htp => ?_⟩
    have sp := same_mk (o := .tup [.ty "list", .ty "tuple"]) htp
    cases a with
    | no =>
      cases (show va = .non from ha)
      exact ⟨_, tp, false, rfl, upd_same, .inr ⟨rfl, .inl rfl⟩, _, rfl, iteF ⟨_, rfl, _, rfl, _, 1, _, v3.up sp, rfl, atI_nat (j := 1) rfl, by show 2 ≤ sizeLine; decide, fun p hp => fin _ sp rfl p hp⟩⟩
    | tx z =>
      cases (show va = .str z from ha)
      exact ⟨_, tp, false, rfl, upd_same, .inr ⟨rfl, .inr (.inl ⟨z, rfl⟩)⟩, _, rfl, iteF ⟨_, rfl, _, rfl, _, 1, _, v3.up sp, rfl, atI_nat (j := 1) rfl, by show 2 ≤ sizeLine; decide, fun p hp => fin _ sp rfl p hp⟩⟩
    | es l =>
      refine ⟨_, tp, true, rfl, upd_same, .inl ⟨rfl, _, RowAt.up a3 sp⟩, _, rfl, iteT ⟨_, rfl, _, rfl, _, 1, _, v3.up sp, rfl, atI_nat (j := 1) rfl, va, l.map entV, rfl, RowAt.up a3 sp, fun b H4 s4 hb => ⟨by show 2 ≤ sizeLine; decide, fun p hp => ?_⟩⟩⟩
      have s34 := sp.trans s4
      exact q (.ref p) _ (same_ch (s123.trans s34) ((s123.trans s34).free hp)) ⟨p, t, .ref b, rfl, upd_same, same_mk hp _ _ (s34 _ _ ht3), ⟨b, rfl, same_mk hp _ _ hb⟩⟩
end
end R3

set_option maxHeartbeats 3900000
namespace R3
open PySem PySem.Spec PyProof.Rows L2 TL
open CB
/-! sights as data, and what follows from what -/
def lkS : Lk → List Str
  | .rd p => ["read", js p]
  | .ls p => ["list", js p]
  | .se n => ["setting", n]
  | .tl => ["tool"]
theorem lkV_S (k : Lk) : lkV k = (lkS k).map V.str := by cases k <;> rfl
def lkD (k : Lk) : PyData := strD (lkS k)
def anD : An → PyData
  | .no => .none
  | .tx z => .str z
  | .es l => strD (l.map fun e => ent e.1 e.2)
def siD (s : Lk × An) : PyData := .tuple [lkD s.1, anD s.2]
def LkW : Lk → Prop
  | .rd p => Nms p ∧ p.length ≤ 100
  | .ls p => Nms p ∧ p.length ≤ 100
  | .se n => IsNm n
  | .tl => True
def AnW : An → Prop
  | .no => True
  | .tx z => Okz z
  | .es l => (∀ e ∈ l, IsNm e.1) ∧ l.length ≤ 1000
def SiW (s : Lk × An) : Prop := LkW s.1 ∧ AnW s.2
theorem LkOk.w {k : Lk} (h : LkOk k) : LkW k := by
  cases k with
  | rd p => exact ⟨h.2.1, Nat.le_trans h.2.2 (by decide)⟩
  | ls p => exact ⟨h.1, Nat.le_trans h.2 (by decide)⟩
  | se n => exact h
  | tl => trivial
theorem lkS_ok {k : Lk} (h : LkW k) : ∀ z ∈ lkS k, Okz z := by
  intro z hz
  cases k with
  | rd p =>
    rcases List.mem_cons.mp hz with e | e
    · rw [e]
      decide +kernel
    · rw [List.mem_singleton.mp e]
      exact okz_js h.1
  | ls p =>
    rcases List.mem_cons.mp hz with e | e
    · rw [e]
      decide +kernel
    · rw [List.mem_singleton.mp e]
      exact okz_js h.1
  | se n =>
    rcases List.mem_cons.mp hz with e | e
    · rw [e]
      decide +kernel
    · rw [List.mem_singleton.mp e]
      exact okz_nm h
  | tl =>
    rw [List.mem_singleton.mp hz]
    decide +kernel
theorem lay_strD (l : List Str) (h : ∀ z ∈ l, Okz z) : (strD l).canLay0 = true := by
  simp only [strD, PyData.canLay0]
  exact lay_strs l h
theorem dep_strD (l : List Str) : (strD l).depth ≤ 2 := by
  have := dep_strs l
  simp only [strD, PyData.depth]
  omega
theorem anD_lay {a : An} (h : AnW a) : (anD a).canLay0 = true := by
  cases a with
  | no => simp [anD, PyData.canLay0]
  | tx z =>
    have h2 : PyData.strOk z = true := h
    simp [anD, PyData.canLay0, h2]
  | es l =>
    refine lay_strD _ fun z hz => ?_
    obtain ⟨e, he, rfl⟩ := List.mem_map.mp hz
    exact okz_ent (h.1 e he) e.2
theorem anD_dep (a : An) : (anD a).depth ≤ 2 := by
  cases a with
  | no => simp [anD, PyData.depth]
  | tx z => simp [anD, PyData.depth]
  | es l => exact dep_strD _
theorem shaped_mk {d : PyData} (h1 : d.canLay0 = true) (h2 : d.depth ≤ 64) : SeqAt.shaped d = true := by
  show (d.canLay0 && decide (d.depth ≤ 64)) = true
  rw [Bool.and_eq_true]
  exact ⟨h1, decide_eq_true h2⟩
theorem anD_shaped {a : An} (h : AnW a) : SeqAt.shaped (anD a) = true := shaped_mk (anD_lay h) (Nat.le_trans (anD_dep a) (by decide))
theorem lkD_shaped {k : Lk} (h : LkW k) : SeqAt.shaped (lkD k) = true := shaped_strs _ (lkS_ok h)
theorem siD_lay {s : Lk × An} (h : SiW s) : (siD s).canLay0 = true := by
  have h1 : (lkD s.1).canLay0 = true := lay_strD _ (lkS_ok h.1)
  have h2 := anD_lay h.2
  simp [siD, PyData.canLay0, PyData.canLayAll0, h1, h2]
theorem siD_dep (s : Lk × An) : (siD s).depth ≤ 3 := by
  have h1 : (lkD s.1).depth ≤ 2 := dep_strD _
  have h2 := anD_dep s.2
  simp only [siD, PyData.depth, PyData.depthAll]
  omega
theorem siD_shaped {s : Lk × An} (h : SiW s) : SeqAt.shaped (siD s) = true := shaped_mk (siD_lay h) (Nat.le_trans (siD_dep s) (by decide))
section
variable {K : PySem.W.Frag} {H : Hp}
theorem lk_dp {u : Addr} {k : Lk} (h : H u = some (.tup (lkV k))) : Dp K H (.ref u) (lkD k) := .tup (SqT.of (by rw [h, lkV_S])) (dp_strs (lkS k))
theorem an_dp {v : V} {a : An} (h : AnAt H v a) : Dp K H v (anD a) := by
  cases a with
  | no =>
    cases (show v = .non from h)
    exact .non
  | tx z =>
    cases (show v = .str z from h)
    exact .str z
  | es l =>
    obtain ⟨b, rfl, hb⟩ := h
    refine .tup (SqT.of (xs := (l.map fun e => ent e.1 e.2).map V.str) ?_) (dp_strs _)
    rw [hb, List.map_map]
    rfl
theorem si_dp {v : V} {s : Lk × An} (h : SiAt H v s) : Dp K H v (siD s) := by
  obtain ⟨t, u, va, rfl, h1, h2, h3⟩ := h
  exact .tup (SqT.of h1) (.cons (lk_dp h2) (.cons (an_dp h3) .nil))
end
theorem eqv_strs : ∀ l m : List Str, PyData.eqvAll (l.map .str) (m.map .str) = decide (l = m)
  | [], [] => by simp [PyData.eqvAll]
  | [], z :: m => by simp [PyData.eqvAll]
  | z :: l, [] => by simp [PyData.eqvAll]
  | y :: l, z :: m => by
    have ih := eqv_strs l m
    simp only [List.map_cons, PyData.eqvAll, PyData.eqv, ih]
    by_cases e : y = z
    · subst e
      simp
    · have : (y == z) = false := beq_eq_false_iff_ne.mpr e
      simp [this, e]
theorem eqv_strD (l m : List Str) : PyData.eqv (strD l) (strD m) = decide (l = m) := by
  simp only [strD, PyData.eqv]
  exact eqv_strs l m
theorem lkS_inj {k k' : Lk} (h : LkW k) (h' : LkW k') (e : lkS k = lkS k') : k = k' := by
  cases k <;> cases k' <;> simp only [lkS, List.cons.injEq, and_true, reduceCtorEq, and_false] at e
  · rw [js_inj h.1 h'.1 e.2]
  · exact absurd e.1 (by decide +kernel)
  · exact absurd e.1 (by decide +kernel)
  · exact absurd e.1 (by decide +kernel)
  · rw [js_inj h.1 h'.1 e.2]
  · exact absurd e.1 (by decide +kernel)
  · exact absurd e.1 (by decide +kernel)
  · exact absurd e.1 (by decide +kernel)
  · rw [e.2]
  · rfl
theorem ents_inj : ∀ {l m : List (Str × Bool)}, (∀ e ∈ l, IsNm e.1) → (∀ e ∈ m, IsNm e.1) → (l.map fun e => ent e.1 e.2) = (m.map fun e => ent e.1 e.2) → l = m
  | [], [], _, _, _ => rfl
  | [], _ :: _, _, _, e => by simp at e
  | _ :: _, [], _, _, e => by simp at e
  | (a, b) :: l, (c, d) :: m, hl, hm, e => by
    simp only [List.map_cons, List.cons.injEq] at e
    obtain ⟨e1, e2⟩ := ent_inj (hl _ List.mem_cons_self) (hm _ List.mem_cons_self) e.1
    rw [ents_inj (fun x hx => hl x (List.mem_cons_of_mem _ hx)) (fun x hx => hm x (List.mem_cons_of_mem _ hx)) e.2]
    simp only at e1
    rw [e1, e2]
theorem eqv_lk {k k' : Lk} (h : LkW k) (h' : LkW k') : PyData.eqv (lkD k) (lkD k') = decide (k = k') := by
  show PyData.eqv (strD _) (strD _) = _
  rw [eqv_strD, decide_eq_decide]
  exact ⟨lkS_inj h h', fun e => by rw [e]⟩
theorem eqv_an {a a' : An} (h : AnW a) (h' : AnW a') : PyData.eqv (anD a) (anD a') = decide (a = a') := by
  cases a <;> cases a' <;> simp only [anD, strD, PyData.eqv]
  · simp
  · simp
  · simp
  · simp
  · rename_i y z
    by_cases e : y = z
    · subst e
      simp
    · have : (y == z) = false := beq_eq_false_iff_ne.mpr e
      simp [this, e]
  · simp
  · simp
  · simp
  · rename_i l m
    refine (eqv_strs _ _).trans ?_
    rw [decide_eq_decide]
    exact ⟨fun e => by rw [ents_inj h.1 h'.1 e], fun e => by
      cases e
      rfl⟩
theorem eqv_si {s s' : Lk × An} (h : SiW s) (h' : SiW s') : PyData.eqv (siD s) (siD s') = decide (s = s') := by
  simp only [siD, PyData.eqv, PyData.eqvAll, eqv_lk h.1 h'.1, eqv_an h.2 h'.2]
  obtain ⟨k, a⟩ := s
  obtain ⟨k', a'⟩ := s'
  by_cases e1 : k = k' <;> by_cases e2 : a = a' <;> simp [e1, e2]
end R3

set_option maxHeartbeats 3900000
namespace R3
open PySem PySem.Spec PyProof.Rows L2 TL
open C8 (pss_cut tCut pe_gc)
open CB
abbrev sFollows : Stmt := top 28
abbrev sLostF : Stmt := top 29
abbrev sLostN : Stmt := top 30
abbrev sBarE : Stmt := top 31
abbrev sDenies : Stmt := top 32
abbrev sContr : Stmt := top 33
abbrev sContrE : Stmt := top 34
/-! what follows from what, what bars what: the mirror -/
def lostF (q : List Str) : Lk → Bool
  | .rd p => ben p q || ben q p
  | .ls p => decide (p = q) || ben p q
  | _ => false
/-- (what is asked for is a file, the path lost) -/
def lostP (q : List Str) (l : List (Str × Bool)) (w : Bool) (p : List Str) : Bool :=
  if ben p q = true then
    match p.drop q.length with
    | [] => true
    | n :: r => if (n, true) ∈ l then w && decide (r = []) else if (n, false) ∈ l then !w || !decide (r = []) else true
  else w && (decide (q = p) || ben q p)
def lostN (q : List Str) (l : List (Str × Bool)) : Lk → Bool
  | .rd p => lostP q l true p
  | .ls p => lostP q l false p
  | _ => false
def follL (s : Lk × An) (k : Lk) : Bool := match s with
  | (.rd _, .no) => false
  | (.rd q, _) => lostF q k
  | (.ls q, .no) => match k with
    | .rd p => ben p q
    | .ls p => ben p q
    | _ => false
  | (.ls q, .es l) => lostN q l k
  | _ => false
def follM (s : Lk × An) (s' : Lk × An) : Bool := decide (s = s') || match s' with
  | (.rd p, .no) => follL s (.rd p)
  | (.ls p, .no) => follL s (.ls p)
  | _ => false
def conE (p : List Str) (e : Str × Bool) : Lk × An := (if e.2 = true then .ls (p ++ [e.1]) else .rd (p ++ [e.1]), .no)
def con : Lk × An → List (Lk × An)
  | (.rd p, .tx _) => [(.rd p, .no)]
  | (.ls p, .es l) => l.map (conE p)
  | _ => []
def denM (s : Lk × An) (xs : List (Lk × An)) : Bool := xs.any (follM s)
def barsM (s s' : Lk × An) : Bool := if s.1 = s'.1 then !decide (s.2 = s'.2) else denM s (con s') || denM s' (con s)
/-- sights in a list -/
def SisL (H : Hp) (D : Addr) (ss : List (Lk × An)) : Prop := ∃ vs : List V, H D = some (.lst vs) ∧ vs.length = ss.length ∧ ∀ (i : Nat) (v : V) (s : Lk × An), vs[i]? = some v → ss[i]? = some s → SiAt H v s
def SiOk' (s : Lk × An) : Prop := SiOk s ∧ SiW s
def spLostF : Sp := fun vs H Q _ => ∃ q k u, vs = [.str (js q), .ref u] ∧ H u = some (.tup (lkV k)) ∧ Nms q ∧ q.length ≤ 100 ∧ LkW k ∧ ((∃ p, k = .rd p) ∨ ∃ p, k = .ls p) ∧ ∀ H', Same H H' → Q (.bl (lostF q k)) H'
def spLostN : Sp := fun vs H Q _ => ∃ q l k u a, vs = [.str (js q), .ref a, .ref u] ∧ H u = some (.tup (lkV k)) ∧ H a = some (.tup (l.map entV)) ∧ (∀ e ∈ l, IsNm e.1) ∧ Nms q ∧ q.length ≤ 100 ∧ LkW k ∧ ((∃ p, k = .rd p) ∨ ∃ p, k = .ls p) ∧ ∀ H', Same H H' → Q (.bl (lostN q l k)) H'
def spFollows : Sp := fun vs H Q _ => ∃ v v' s s', vs = [v, v'] ∧ SiAt H v s ∧ SiAt H v' s' ∧ SiOk' s ∧ SiW s' ∧ ∀ H', Same H H' → Q (.bl (follM s s')) H'
def spDenies : Sp := fun vs H Q _ => ∃ v D s ss, vs = [v, .ref D] ∧ SiAt H v s ∧ SiOk' s ∧ SisL H D ss ∧ ss.length ≤ 1000 ∧ (∀ x ∈ ss, SiW x) ∧ ∀ H', Same H H' → Q (.bl (denM s ss)) H'
def spContrE : Sp := fun vs H Q _ => ∃ p e, vs = [.str (js p), entV e] ∧ Nms p ∧ p.length ≤ 90 ∧ IsNm e.1 ∧ ∀ v H', Same H H' → SiAt H' v (conE p e) → Q v H'
def spContr : Sp := fun vs H Q _ => ∃ v s, vs = [v] ∧ SiAt H v s ∧ SiOk' s ∧ ∀ D H', Same H H' → SisL H' D (con s) → Q (.ref D) H'
def spBarE : Sp := fun vs H Q _ => ∃ v v' s s', vs = [v, v'] ∧ SiAt H v s ∧ SiAt H v' s' ∧ SiOk' s ∧ SiOk' s' ∧ ∀ H', Same H H' → Q (.bl (barsM s s')) H'
def spPlain : Sp := fun vs H Q _ => ∃ (v : V) (vs' : List V) (ss : List (Lk × An)), vs = [v] ∧ RowAt H v vs' ∧ vs'.length = ss.length ∧ ss.length ≤ 1000 ∧ (∀ (i : Nat) (x : V) (s : Lk × An), vs'[i]? = some x → ss[i]? = some s → SiIn H x s) ∧ (∀ s ∈ ss, SiOk s) ∧ ∀ D H', Same H H' → SisL H' D ss → Q (.ref D) H'
def spBars : Sp := fun vs H Q _ => ∃ v v' s s', vs = [v, v'] ∧ SiIn H v s ∧ SiIn H v' s' ∧ SiOk' s ∧ SiOk' s' ∧ ∀ H', Same H H' → Q (.bl (barsM s s')) H'
theorem SiAt.upT {H H' : Hp} {v : V} {s : Lk × An} (h : SiAt H v s) (t : TupS H H') : SiAt H' v s := by
  obtain ⟨a, u, va, e, h1, h2, h3⟩ := h
  refine ⟨a, u, va, e, t _ _ h1, t _ _ h2, ?_⟩
  cases q : s.2 with
  | no => rw [q] at h3; exact h3
  | tx z => rw [q] at h3; exact h3
  | es l =>
    rw [q] at h3
    obtain ⟨b, e, h⟩ := h3
    exact ⟨b, e, t _ _ h⟩
theorem in_ents {l : List (Str × Bool)} (hl : ∀ e ∈ l, IsNm e.1) {n : Str} (hn : IsNm n) (b : Bool) : inV (.str (ent n b)) (l.map entV) = decide ((n, b) ∈ l) := by
  have e : l.map entV = (l.map fun e => ent e.1 e.2).map V.str := by
    rw [List.map_map]
    rfl
  rw [e, inV_strs, decide_eq_decide]
  constructor
  · intro h
    obtain ⟨x, hx, e2⟩ := List.mem_map.mp h
    obtain ⟨e3, e4⟩ := ent_inj (hl x hx) hn e2
    rw [← e3, ← e4]
    exact hx
  · intro h
    exact List.mem_map.mpr ⟨_, h, rfl⟩
theorem flat_ents (l : List (Str × Bool)) : (l.map entV).all flatV = true := by
  rw [List.all_map, List.all_eq_true]
  intro x _
  rfl
section
variable {P : Program} {w : World} {K : PySem.W.Frag} {mg : Str → Option Value} {base : Heap}
theorem scLostF : FnScope ["file_path", "lost", "word", "path"] ["file_path", "lost"] (defScope sLostF) := ⟨rfl, rfl, rfl, by decide +kernel, rfl, by decide +kernel, by decide +kernel⟩
theorem ok_lostF {f fA fB : Addr} {fd fdA fdB : FuncData} (F : Fun K "lost_by_file" "lost_by_file" sLostF f fd) (aAt : At K mg "is_at_or_beneath" fA fdA ["path", "place"]) (aBen : At K mg "is_beneath" fB fdB ["path", "place"])
    (GAt : FnOk P w K mg base CX0 3 fA fdA ["path", "place"] spAt) (GBen : FnOk P w K mg base CX0 2 fB fdB ["path", "place"] spBen) : FnOk P w K mg base CX0 4 f fd ["file_path", "lost"] spLostF := by
  refine F.ok scLostF (fun vs H Q E h => ?_) (fun cdv A outer s H vs Q E hr h => ?_)
  · obtain ⟨q, k, u, rfl, _⟩ := h
    rfl
  · obtain ⟨q, k, u, rfl, hu', hq, hl, hk, hkk, fin⟩ := h
    refine ⟨_, pss_cons (ps_asg (pv 1) (pg_tup rfl (pgs_cons (pg_name (i := 2) scLostF.nd rfl (Or.inl rfl)) (pgs_cons (pg_name (i := 3) scLostF.nd rfl (Or.inl rfl)) pgs_nil))))
            (pss_cons (ps_if (pt_cmpR op_eq (pv 2) pe_str (nomark _)) (pss_one (ps_ret (pe_call GAt (hr.mono (by decide)) rfl aAt.m aAt.k aAt.b .nil pass0 (pa_cons (pv 3) (pa_cons (pv 0) pa_nil))))) (pss_nil))
            (pss_one (ps_ret (pe_or (pe_call GBen (hr.mono (by decide)) rfl aBen.m aBen.k aBen.b .nil pass0 (pa_cons (pv 3) (pa_cons (pv 0) pa_nil))) (pe_one (pe_call GBen (hr.mono (by decide)) rfl aBen.m aBen.k aBen.b .nil pass0 (pa_cons (pv 0) (pa_cons (pv 3) pa_nil)))))))), ?_⟩
    have shq := js_sh hq hl
    rcases hkk with ⟨p, rfl⟩ | ⟨p, rfl⟩
    · have shp := js_sh hk.1 hk.2
      refine ⟨_, rfl, u, _, rfl, SqT.of hu', rfl, _, _, rfl, _, _, rfl, rfl, _, rfl, rfl, _, rfl, iteN (by decide +kernel) ⟨_, rfl, _, rfl, _, _, rfl, ⟨shp, shq⟩, fun H1 s1 => ⟨_, rfl, ?_⟩⟩⟩
      rw [benS_js hk.1 hq]
      have fin : ∀ H', Same H H' → Q (.bl (ben p q || ben q p)) H' := fin
      cases e : ben p q with
      | true =>
        rw [e] at fin
        exact iteT (fin H1 s1)
      | false =>
        rw [e] at fin
        refine iteF ⟨_, rfl, _, rfl, _, _, rfl, ⟨shq, shp⟩, fun H2 s2 => ?_⟩
        show Q (.bl (benS (js q) (js p))) H2
        rw [benS_js hq hk.1]
        exact fin H2 (s1.trans s2)
    · have shp := js_sh hk.1 hk.2
      refine ⟨_, rfl, u, _, rfl, SqT.of hu', rfl, _, _, rfl, _, _, rfl, rfl, _, rfl, rfl, _, rfl, iteY rfl ⟨_, rfl, _, rfl, _, _, rfl, ⟨shp, shq⟩, fun H1 s1 => ?_⟩⟩
      show Q (.bl (decide (js p = js q) || benS (js p) (js q))) H1
      rw [benS_js hk.1 hq, js_eq hk.1 hq]
      exact fin H1 s1
theorem scLostN : FnScope ["place", "names", "lost", "word", "path", "name", "stroke", "deeper"] ["place", "names", "lost"] (defScope sLostN) := ⟨rfl, rfl, rfl, by decide +kernel, rfl, by decide +kernel, by decide +kernel⟩
theorem ok_lostN {f fA fB fR : Addr} {fd fdA fdB fdR : FuncData} (F : Fun K "lost_by_names" "lost_by_names" sLostN f fd) (T0 : TPk mg) (aAt : At K mg "is_at_or_beneath" fA fdA ["path", "place"]) (aBen : At K mg "is_beneath" fB fdB ["path", "place"]) (aRest : At K mg "rest_in" fR fdR ["path", "place"])
    (GAt : FnOk P w K mg base CX0 3 fA fdA ["path", "place"] spAt) (GBen : FnOk P w K mg base CX0 2 fB fdB ["path", "place"] spBen) (GRest : FnOk P w K mg base CX0 2 fR fdR ["path", "place"] spRest) : FnOk P w K mg base CX0 4 f fd ["place", "names", "lost"] spLostN := by
  obtain ⟨t1, mSTROKE⟩ := T0.STROKE
  refine F.ok scLostN (fun vs H Q E h => ?_) (fun cdv A outer s H vs Q E hr h => ?_)
  · obtain ⟨q, l, k, u, a, rfl, _⟩ := h
    rfl
  · obtain ⟨q, l, k, u, a, rfl, hu', ha, hl, hq, hlq, hk, hkk, fin⟩ := h
    refine ⟨_, pss_cons (ps_asg (pv 2) (pg_tup rfl (pgs_cons (pg_name (i := 3) scLostN.nd rfl (Or.inl rfl)) (pgs_cons (pg_name (i := 4) scLostN.nd rfl (Or.inl rfl)) pgs_nil))))
            (pss_cons (ps_if (pt_not (pt_val (pe_call GBen (hr.mono (by decide)) rfl aBen.m aBen.k aBen.b .nil pass0 (pa_cons (pv 4) (pa_cons (pv 0) pa_nil))))) (pss_one (ps_ret (pe_and (pe_cmpR op_eq (pv 3) pe_str (nomark _)) (pe_one (pe_call GAt (hr.mono (by decide)) rfl aAt.m aAt.k aAt.b .nil pass0 (pa_cons (pv 0) (pa_cons (pv 4) pa_nil))))))) (pss_nil))
            (pss_cons (ps_asg (pe_bm PySem.F.plainAttrs_str PySem.F.slot_str_partition PySem.F.type_str_partition mt_partition (pe_call GRest (hr.mono (by decide)) rfl aRest.m aRest.k aRest.b .nil pass0 (pa_cons (pv 4) (pa_cons (pv 0) pa_nil))) (pa_cons (pe_glob (v := .str "/") rfl mSTROKE ⟨_, rfl⟩) pa_nil)) (pg_tup rfl (pgs_cons (pg_name (i := 5) scLostN.nd rfl (Or.inl rfl)) (pgs_cons (pg_name (i := 6) scLostN.nd rfl (Or.inl rfl)) (pgs_cons (pg_name (i := 7) scLostN.nd rfl (Or.inl rfl)) pgs_nil)))))
            (pss_cons (ps_if (pt_cmpR op_in_seq (pe_op op_add_str (pv 5) (pe_glob (v := .str "/") rfl mSTROKE ⟨_, rfl⟩)) (pv 1) (by rfl)) (pss_one (ps_ret (pe_and (pe_cmpR op_eq (pv 3) pe_str (nomark _)) (pe_one (pe_cmpR op_eq (pv 7) pe_str (nomark _)))))) (pss_nil))
            (pss_cons (ps_if (pt_cmpR op_in_seq (pv 5) (pv 1) (by rfl)) (pss_one (ps_ret (pe_or (pe_cmpR op_eq (pv 3) pe_str (nomark _)) (pe_one (pe_cmpR op_eq (pv 6) (pe_glob (v := .str "/") rfl mSTROKE ⟨_, rfl⟩) (nomark _)))))) (pss_nil))
            (pss_one (ps_ret pe_bl)))))), ?_⟩
    have shq := js_sh hq hlq
    obtain ⟨wd, wb, p, hkv, hp, hlp, ewd, fin⟩ : ∃ (wd : Str) (wb : Bool) (p : List Str), lkV k = [.str wd, .str (js p)] ∧ Nms p ∧ p.length ≤ 100 ∧ ((wd = "read" ∧ wb = true) ∨ (wd = "list" ∧ wb = false)) ∧ ∀ H', Same H H' → Q (.bl (lostP q l wb p)) H' := by
      rcases hkk with ⟨p, rfl⟩ | ⟨p, rfl⟩
      · exact ⟨"read", true, p, rfl, hk.1, hk.2, .inl ⟨rfl, rfl⟩, fin⟩
      · exact ⟨"list", false, p, rfl, hk.1, hk.2, .inr ⟨rfl, rfl⟩, fin⟩
    have isR : decide (V.str wd = V.str "read") = wb := by
      rcases ewd with ⟨rfl, rfl⟩ | ⟨rfl, rfl⟩
      · rfl
      · decide +kernel
    have isL : decide (V.str wd = V.str "list") = !wb := by
      rcases ewd with ⟨rfl, rfl⟩ | ⟨rfl, rfl⟩
      · decide +kernel
      · rfl
    rw [hkv] at hu'
    have shp := js_sh hp hlp
    refine ⟨_, rfl, u, _, rfl, SqT.of hu', rfl, _, _, rfl, _, _, rfl, rfl, _, rfl, _, rfl, _, _, rfl, ⟨shp, shq⟩, fun H1 s1 => ⟨_, rfl, ?_⟩⟩
    rw [benS_js hp hq]
    unfold lostP at fin
    cases eb : ben p q with
    | false =>
      rw [eb] at fin
      refine iteT ⟨_, rfl, rfl, _, rfl, ?_⟩
      rw [isR]
      cases wb with
      | false => exact iteF (fin H1 s1)
      | true =>
        refine iteT ⟨_, rfl, _, rfl, _, _, rfl, ⟨shq, shp⟩, fun H2 s2 => ?_⟩
        show Q (.bl (decide (js q = js p) || benS (js q) (js p))) H2
        rw [benS_js hq hp, js_eq hq hp]
        exact fin H2 (s1.trans s2)
    | true =>
      rw [eb] at fin
      obtain ⟨r0, hr0, rfl⟩ := ben_iff.mp eb
      rw [if_pos rfl, List.drop_left] at fin
      match r0, hr0 with
      | n :: r, _ =>
        have hnr := hp.right
        have hn : IsNm n := hnr n List.mem_cons_self
        have hrr : Nms r := hnr.tail
        have rest : cutS (js (q ++ n :: r)) (some ((begS (js q)).length : Int)) none = js (n :: r) := by
          rw [begS_js hq]
          exact rest_bg q (by simp)
        have a1 := s1 _ _ ha
        have fin : ∀ H', Same H H' → Q (.bl (if (n, true) ∈ l then wb && decide (r = []) else if (n, false) ∈ l then !wb || !decide (r = []) else true)) H' := fin
        refine iteF ⟨_, rfl, _, rfl, _, _, rfl, ⟨shp, shq⟩, fun H2 s2 => ?_⟩
        have s12 := s1.trans s2
        dsimp only
        rw [rest]
        have shr : Sh (js (n :: r)) := js_sh hnr (by rw [List.length_append] at hlp; omega)
        refine ⟨rfl, js (n :: r), "/", rfl, rfl, rfl, shr.line, fun tp htp => ?_⟩
        rw [part_js hn]
        have fi : (if false = true then !inV (.str (n ++ "/")) (l.map entV) else inV (.str (n ++ "/")) (l.map entV)) = decide ((n, true) ∈ l) := in_ents hl hn true
        have fj : (if false = true then !inV (.str n) (l.map entV) else inV (.str n) (l.map entV)) = decide ((n, false) ∈ l) := in_ents hl hn false
        have n8 := hn.2.1
        have add : n.length + ("/" : Str).length ≤ sizeLine := Nat.le_trans (show n.length + 1 ≤ 9 by omega) (by decide)
        by_cases er : r = []
        · rw [if_pos er]
          rw [decide_eq_true er] at fin
          have sF := s1.trans (s2.trans (same_mk (o := .tup [.str (n, ("" : Str), ("" : Str)).1, .str (n, ("" : Str), ("" : Str)).2.1, .str (n, ("" : Str), ("" : Str)).2.2]) htp))
          have a3 := sF _ _ ha
          refine ⟨tp, _, rfl, SqT.of upd_same, rfl, _, _, rfl, _, _, rfl, _, _, rfl, rfl, _, rfl, _, _, rfl, rfl, add, _, rfl, a, _, rfl, .inr (SqT.of a3), rfl, flat_ents l, ?_⟩
          rw [fi]
          by_cases e1 : (n, true) ∈ l
          · rw [if_pos e1] at fin
            refine ⟨_, rfl, iteY e1 ⟨_, rfl, rfl, _, rfl, ?_⟩⟩
            rw [isR]
            cases wb with
            | false => exact iteF (fin _ sF)
            | true => exact iteT ⟨_, rfl, rfl, fin _ sF⟩
          · rw [if_neg e1] at fin
            refine ⟨_, rfl, iteN e1 ⟨_, rfl, _, rfl, a, _, rfl, .inr (SqT.of a3), rfl, flat_ents l, ?_⟩⟩
            rw [fj]
            by_cases e2 : (n, false) ∈ l
            · rw [if_pos e2] at fin
              refine ⟨_, rfl, iteY e2 ⟨_, rfl, rfl, _, rfl, ?_⟩⟩
              rw [isL]
              cases wb with
              | false => exact iteT (fin _ sF)
              | true => exact iteF ⟨_, rfl, rfl, by rw [show decide (V.str (n, ("" : Str), ("" : Str)).2.1 = V.str "/") = false from (by decide +kernel : decide (V.str ("" : Str) = V.str "/") = false)]; exact fin _ sF⟩
            · rw [if_neg e2] at fin
              exact ⟨_, rfl, iteN e2 (fin _ sF)⟩
        · rw [if_neg er]
          rw [decide_eq_false er] at fin
          have sF := s1.trans (s2.trans (same_mk (o := .tup [.str (n, ("/" : Str), js r).1, .str (n, ("/" : Str), js r).2.1, .str (n, ("/" : Str), js r).2.2]) htp))
          have a3 := sF _ _ ha
          refine ⟨tp, _, rfl, SqT.of upd_same, rfl, _, _, rfl, _, _, rfl, _, _, rfl, rfl, _, rfl, _, _, rfl, rfl, add, _, rfl, a, _, rfl, .inr (SqT.of a3), rfl, flat_ents l, ?_⟩
          rw [fi]
          by_cases e1 : (n, true) ∈ l
          · rw [if_pos e1] at fin
            refine ⟨_, rfl, iteY e1 ⟨_, rfl, rfl, _, rfl, ?_⟩⟩
            rw [isR]
            cases wb with
            | false => exact iteF (fin _ sF)
            | true => exact iteT ⟨_, rfl, rfl, by rw [decide_eq_false (show ¬ V.str (js r) = V.str "" from fun z => js_ne hrr er (V.str.inj z))]; exact fin _ sF⟩
          · rw [if_neg e1] at fin
            refine ⟨_, rfl, iteN e1 ⟨_, rfl, _, rfl, a, _, rfl, .inr (SqT.of a3), rfl, flat_ents l, ?_⟩⟩
            rw [fj]
            by_cases e2 : (n, false) ∈ l
            · rw [if_pos e2] at fin
              refine ⟨_, rfl, iteY e2 ⟨_, rfl, rfl, _, rfl, ?_⟩⟩
              rw [isL]
              cases wb with
              | false => exact iteT (fin _ sF)
              | true => exact iteF ⟨_, rfl, rfl, fin _ sF⟩
            · rw [if_neg e2] at fin
              exact ⟨_, rfl, iteN e2 (fin _ sF)⟩
theorem wd_tree {aTL : Addr} (hTL : ∀ H, SqT K H aTL [.str "read", .str "list"]) {H : Hp} {z : Str} {b : Bool} (e : inV (.str z) [V.str "read", V.str "list"] = b) {Q : VK} (q : Q (.bl (!b)) H) : rIn K true (.str z) (.ref aTL) H Q :=
  ⟨aTL, _, rfl, .inr (hTL H), rfl, rfl, by rw [e]; exact q⟩
theorem scFollows : FnScope ["one", "other", "look", "answer", "lost", "nothing"] ["one", "other"] (defScope sFollows) := ⟨rfl, rfl, rfl, by decide +kernel, rfl, by decide +kernel, by decide +kernel⟩
theorem ok_follows {f fF fN fB aTL : Addr} {fd fdF fdN fdB : FuncData} (F : Fun K "follows_from" "follows_from" sFollows f fd) (mTL : mg "TREE_LOOKS" = some (.ref aTL)) (hTL : ∀ H, SqT K H aTL [.str "read", .str "list"])
    (aLostF : At K mg "lost_by_file" fF fdF ["file_path", "lost"]) (aLostN : At K mg "lost_by_names" fN fdN ["place", "names", "lost"]) (aBen : At K mg "is_beneath" fB fdB ["path", "place"])
    (GLostF : FnOk P w K mg base CX0 4 fF fdF ["file_path", "lost"] spLostF) (GLostN : FnOk P w K mg base CX0 4 fN fdN ["place", "names", "lost"] spLostN) (GBen : FnOk P w K mg base CX0 2 fB fdB ["path", "place"] spBen) : FnOk P w K mg base CX0 5 f fd ["one", "other"] spFollows := by
  refine F.ok scFollows (fun vs H Q E h => ?_) (fun cdv A outer s H vs Q E hr h => ?_)
  · obtain ⟨v, v', s, s', rfl, _⟩ := h
    rfl
  · have hu := hr.units
    obtain ⟨v, v', ⟨k, a⟩, ⟨k', a'⟩, rfl, S1, S2, ok, w2, fin⟩ := h
    refine ⟨_, pss_cons (ps_asg (pv 0) (pg_tup rfl (pgs_cons (pg_name (i := 2) scFollows.nd rfl (Or.inl rfl)) (pgs_cons (pg_name (i := 3) scFollows.nd rfl (Or.inl rfl)) pgs_nil))))
            (pss_cons (ps_asg (pv 1) (pg_tup rfl (pgs_cons (pg_name (i := 4) scFollows.nd rfl (Or.inl rfl)) (pgs_cons (pg_name (i := 5) scFollows.nd rfl (Or.inl rfl)) pgs_nil))))
            (pss_cons (ps_if (pt_cmpR (op_eqD hu) (pv 0) (pv 1) (nomark _)) (pss_one (ps_ret pe_bl)) (pss_nil))
            (pss_cons (ps_if (PW.pt (pw_or (pt_cmp (pc_notN (pv 5))) (pw_or1 (pt_cmpR op_notIn_seq (pe_ix ix_tup (pv 4) pe_int (fun _ _ => rfl)) (pe_glob (v := .ref aTL) rfl mTL rfl) (by rfl))))) (pss_one (ps_ret pe_bl)) (pss_nil))
            (pss_cons (ps_if (pt_cmpR op_eq (pe_ix ix_tup (pv 2) pe_int (fun _ _ => rfl)) pe_str (nomark _)) (pss_one (ps_ret (pe_and (pe_cmp (pc_notN (pv 3)) rfl) (pe_one (pe_call GLostF (hr.mono (by decide)) rfl aLostF.m aLostF.k aLostF.b .nil pass0 (pa_cons (pe_ix ix_tup (pv 2) pe_int (fun _ _ => rfl)) (pa_cons (pv 4) pa_nil))))))) (pss_nil))
            (pss_cons (ps_if (pt_cmpR op_ne (pe_ix ix_tup (pv 2) pe_int (fun _ _ => rfl)) pe_str (nomark _)) (pss_one (ps_ret pe_bl)) (pss_nil))
            (pss_cons (ps_if (pt_cmp (pc_isN (pv 3))) (pss_one (ps_ret (pe_call GBen (hr.mono (by decide)) rfl aBen.m aBen.k aBen.b .nil pass0 (pa_cons (pe_ix ix_tup (pv 4) pe_int (fun _ _ => rfl)) (pa_cons (pe_ix ix_tup (pv 2) pe_int (fun _ _ => rfl)) pa_nil))))) (pss_nil))
            (pss_one (ps_ret (pe_call GLostN (hr.mono (by decide)) rfl aLostN.m aLostN.k aLostN.b .nil pass0 (pa_cons (pe_ix ix_tup (pv 2) pe_int (fun _ _ => rfl)) (pa_cons (pv 3) (pa_cons (pv 4) pa_nil)))))))))))), ?_⟩
    have d1 := si_dp (K := K) S1
    have d2 := si_dp (K := K) S2
    obtain ⟨t, u, va, rfl, h1, h2, h3⟩ := S1
    obtain ⟨t', u', va', rfl, h1', h2', h3'⟩ := S2
    refine ⟨_, rfl, t, _, rfl, SqT.of h1, rfl, _, _, rfl, _, _, rfl, rfl, _, rfl, t', _, rfl, SqT.of h1', rfl, _, _, rfl, _, _, rfl, rfl, ?_⟩
    refine ⟨_, rfl, _, rfl, _, _, d1, d2, siD_shaped ok.2, siD_shaped w2, ?_⟩
    rw [eqv_si ok.2 w2]
    have fin : ∀ H', Same H H' → Q (.bl (decide ((k, a) = (k', a')) || follM (k, a) (k', a'))) H' := by
      intro H' s'
      have := fin H' s'
      rw [show follM (k, a) (k', a') = (decide ((k, a) = (k', a')) || follM (k, a) (k', a')) by unfold follM; rw [← Bool.or_assoc, Bool.or_self]] at this
      exact this
    by_cases eq : ((k, a) : Lk × An) = (k', a')
    · rw [decide_eq_true eq] at fin
      exact ⟨_, rfl, iteY eq (fin H (Same.refl H))⟩
    rw [decide_eq_false eq] at fin
    refine ⟨_, rfl, iteN eq ?_⟩
    have fin : ∀ H', Same H H' → Q (.bl (match ((k', a') : Lk × An) with | (.rd p, .no) => follL (k, a) (.rd p) | (.ls p, .no) => follL (k, a) (.ls p) | _ => false)) H' := by
      intro H' s'
      have := fin H' s'
      unfold follM at this
      rw [decide_eq_false eq] at this
      exact this
    cases a' with
    | tx z =>
      cases (show va' = .str z from h3')
      refine ⟨_, rfl, _, rfl, iteT ?_⟩
      have := fin H (Same.refl H)
      cases k' <;> exact this
    | es l =>
      obtain ⟨b, rfl, _⟩ := h3'
      refine ⟨_, rfl, _, rfl, iteT ?_⟩
      have := fin H (Same.refl H)
      cases k' <;> exact this
    | no =>
      cases (show va' = .non from h3')
      by_cases tree : (∃ p, k' = .rd p) ∨ ∃ p, k' = .ls p
      · obtain ⟨wd, p, hkv, hin, hp, hlp, fin, hb⟩ : ∃ (wd : Str) (p : List Str), lkV k' = [.str wd, .str (js p)] ∧ inV (.str wd) [V.str "read", V.str "list"] = true ∧ Nms p ∧ p.length ≤ 100 ∧ (∀ H', Same H H' → Q (.bl (follL (k, a) k')) H') ∧ ∀ q, follL (.ls q, .no) k' = ben p q := by
          rcases tree with ⟨p, rfl⟩ | ⟨p, rfl⟩
          · exact ⟨"read", p, rfl, by decide +kernel, w2.1.1, w2.1.2, fin, fun q => rfl⟩
          · exact ⟨"list", p, rfl, by decide +kernel, w2.1.1, w2.1.2, fin, fun q => rfl⟩
        have h2o := h2'
        rw [hkv] at h2'
        refine ⟨_, rfl, _, rfl, iteF ⟨_, rfl, u', _, 0, _, rfl, rfl, SqT.of h2', atI_nat (j := 0) rfl, aTL, _, rfl, .inr (hTL _), rfl, rfl, ?_⟩⟩
        rw [show (if true = true then !inV (.str wd) [V.str "read", V.str "list"] else inV (.str wd) [V.str "read", V.str "list"]) = false by rw [if_pos rfl, hin]; rfl]
        refine ⟨_, rfl, iteF ?_⟩
        cases k with
        | rd q =>
          have wq := ok.2.1
          refine ⟨_, rfl, u, _, 0, _, rfl, rfl, SqT.of h2, atI_nat (j := 0) rfl, rfl, _, rfl, iteY rfl ⟨_, rfl, _, rfl, ?_⟩⟩
          cases a with
          | no =>
            cases (show va = .non from h3)
            exact iteF (fin H (Same.refl H))
          | tx z =>
            cases (show va = .str z from h3)
            exact iteT ⟨_, rfl, u, _, 1, _, rfl, rfl, SqT.of h2, atI_nat (j := 1) rfl, _, rfl, q, k', u', rfl, h2o, wq.1, wq.2, w2.1, tree, fin⟩
          | es l => exact ok.1.2.elim
        | ls q =>
          have wq := ok.2.1
          refine ⟨_, rfl, u, _, 0, _, rfl, rfl, SqT.of h2, atI_nat (j := 0) rfl, rfl, _, rfl, iteN (by decide +kernel) ⟨_, rfl, u, _, 0, _, rfl, rfl, SqT.of h2, atI_nat (j := 0) rfl, rfl, _, rfl, iteF ⟨_, rfl, _, rfl, ?_⟩⟩⟩
          cases a with
          | no =>
            cases (show va = .non from h3)
            refine iteT ⟨_, rfl, u', _, 1, _, rfl, rfl, SqT.of h2', atI_nat (j := 1) rfl, _, rfl, u, _, 1, _, rfl, rfl, SqT.of h2, atI_nat (j := 1) rfl, js p, js q, rfl, ⟨js_sh hp hlp, js_sh wq.1 wq.2⟩, fun H1 s1 => ?_⟩
            show Q (.bl (benS (js p) (js q))) H1
            rw [benS_js hp wq.1, ← hb q]
            exact fin H1 s1
          | tx z => exact ok.1.2.elim
          | es l =>
            obtain ⟨b, rfl, hb2⟩ := h3
            exact iteN (by intro z; cases z) ⟨_, rfl, u, _, 1, _, rfl, rfl, SqT.of h2, atI_nat (j := 1) rfl, _, rfl, _, rfl, q, l, k', u', b, rfl, h2o, hb2, ok.2.2.1, wq.1, wq.2, w2.1, tree, fin⟩
        | se n =>
          refine ⟨_, rfl, u, _, 0, _, rfl, rfl, SqT.of h2, atI_nat (j := 0) rfl, rfl, _, rfl, iteN (by decide +kernel) ⟨_, rfl, u, _, 0, _, rfl, rfl, SqT.of h2, atI_nat (j := 0) rfl, rfl, _, rfl, ?_⟩⟩
          exact iteT (fin H (Same.refl H))
        | tl =>
          refine ⟨_, rfl, u, _, 0, _, rfl, rfl, SqT.of h2, atI_nat (j := 0) rfl, rfl, _, rfl, iteN (by decide +kernel) ⟨_, rfl, u, _, 0, _, rfl, rfl, SqT.of h2, atI_nat (j := 0) rfl, rfl, _, rfl, ?_⟩⟩
          exact iteT (fin H (Same.refl H))
      · obtain ⟨wd, rest, hkv, hin, fin⟩ : ∃ (wd : Str) (rest : List V), lkV k' = .str wd :: rest ∧ inV (.str wd) [V.str "read", V.str "list"] = false ∧ ∀ H', Same H H' → Q (.bl false) H' := by
          cases k' with
          | rd p => exact absurd (.inl ⟨p, rfl⟩) tree
          | ls p => exact absurd (.inr ⟨p, rfl⟩) tree
          | se n => exact ⟨"setting", _, rfl, by decide +kernel, fin⟩
          | tl => exact ⟨"tool", _, rfl, by decide +kernel, fin⟩
        rw [hkv] at h2'
        refine ⟨_, rfl, _, rfl, iteF ⟨_, rfl, u', _, 0, _, rfl, rfl, SqT.of h2', atI_nat (j := 0) rfl, aTL, _, rfl, .inr (hTL _), rfl, rfl, ?_⟩⟩
        rw [show (if true = true then !inV (.str wd) [V.str "read", V.str "list"] else inV (.str wd) [V.str "read", V.str "list"]) = true by rw [if_pos rfl, hin]; rfl]
        exact ⟨_, rfl, iteT (fin H (Same.refl H))⟩
theorem scContrE : FnScope ["place", "entry", "word"] ["place", "entry"] (defScope sContrE) := ⟨rfl, rfl, rfl, by decide +kernel, rfl, by decide +kernel, by decide +kernel⟩
theorem ok_contrE {f fB : Addr} {fd fdB : FuncData} (F : Fun K "contrary_of_entry" "contrary_of_entry" sContrE f fd) (T0 : TPk mg) (aBeg : At K mg "beginning" fB fdB ["place"]) (GBeg : FnOk P w K mg base CX0 1 fB fdB ["place"] spBeg) : FnOk P w K mg base CX0 2 f fd ["place", "entry"] spContrE := by
  obtain ⟨t1, mSTROKE⟩ := T0.STROKE
  refine F.ok scContrE (fun vs H Q E h => ?_) (fun cdv A outer s H vs Q E hr h => ?_)
  · obtain ⟨p, e, rfl, _⟩ := h
    rfl
  · obtain ⟨p, ⟨n, b⟩, rfl, hp, hlp, hn, fin⟩ := h
    refine ⟨_, pss_cons (ps_set (i := 2) scContrE.nd rfl (Or.inl rfl) (pe_ifExp (pt_val (pe_bm PySem.F.plainAttrs_str PySem.F.slot_str_endswith PySem.F.type_str_endswith mt_endswith (pv 1) (pa_cons (pe_glob (v := .str "/") rfl mSTROKE ⟨_, rfl⟩) pa_nil))) pe_str pe_str))
            (pss_one (ps_ret (pe_tup (pa_cons (pe_tup (pa_cons (pv 2) (pa_cons (pe_op op_add_str (pe_call GBeg (hr.mono (by decide)) rfl aBeg.m aBeg.k aBeg.b .nil pass0 (pa_cons (pv 0) pa_nil)) (pe_bm PySem.F.plainAttrs_str PySem.F.slot_str_removesuffix PySem.F.type_str_removesuffix mt_removesuffix (pv 1) (pa_cons (pe_glob (v := .str "/") rfl mSTROKE ⟨_, rfl⟩) pa_nil))) pa_nil))) (pa_cons pe_non pa_nil))))), ?_⟩
    have hn : IsNm n := hn
    have n8 := hn.2.1
    have el : (ent n b).length ≤ sizeLine := by
      refine Nat.le_trans (show (ent n b).length ≤ 9 from ?_) (by decide)
      rw [len_tl, tl_ent, List.length_append, ← len_tl]
      cases b <;> simp <;> omega
    refine ⟨_, rfl, rfl, ent n b, "/", rfl, rfl, _, rfl, ?_⟩
    rw [ew_ent hn]
    have sh := js_sh hp (Nat.le_trans hlp (by decide))
    have go : ∀ (wd : Str), (∀ (t u : Addr) (H' : Hp), Same H H' → H' t = some (.tup [.ref u, .non]) → H' u = some (.tup [.str wd, .str (js (p ++ [n]))]) → Q (.ref t) H') →
        tRet (tTup (tCons (tTup (tCons (tVar 2) (tCons (tOp (fun x y H Q => ∃ i j, x = V.str i ∧ y = V.str j ∧ i.length + j.length ≤ sizeLine ∧ Q (V.str (i ++ j)) H) (tCall spBeg [] E0 (tCons (tVar 0) tNil)) (tBM K "str" (fun x xs H Q => ∃ a b, x = V.str a ∧ xs = [V.str b] ∧ a.length ≤ sizeLine ∧ Q (V.str (Txt.removesuffix a b)) H) (tVar 1) (tCons (tC (V.str "/")) tNil))) tNil))) (tCons (tC V.non) tNil))) { nx := fun x H' => Q V.non H', rt := Q }
          [some (.str (js p)), some (entV (n, b)), some (.str wd)] H := fun wd fin => by
      refine ⟨_, rfl, _, rfl, js p, rfl, sh, fun H1 s1 => ⟨_, rfl, rfl, ent n b, "/", rfl, rfl, el, ?_⟩⟩
      rw [rms_ent hn]
      refine ⟨_, _, rfl, rfl, ?_, by show 2 ≤ sizeLine; decide, fun u hu => ⟨by show 2 ≤ sizeLine; decide, fun t ht => ?_⟩⟩
      · rw [begS_js hp]
        have := js_len hp
        have := bg_len p
        refine Nat.le_trans (show (bg p).length + n.length ≤ 1000 from ?_) (by decide)
        rw [this]
        rw [len_tl, tl_js] at *
        split <;> omega
      · rw [begS_js hp, show bg p ++ n = js (p ++ [n]) by rw [← bg_app p (by simp), js_one]] at *
        exact fin t u _ (same_ch (same_ch s1 (s1.free hu)) ((same_ch s1 (s1.free hu)).free ht)) upd_same (same_mk ht _ _ upd_same)
    cases b with
    | true => exact iteT (go "list" fun t u H' s' h1 h2 => fin _ H' s' ⟨t, u, .non, rfl, h1, h2, rfl⟩)
    | false => exact iteF (go "read" fun t u H' s' h1 h2 => fin _ H' s' ⟨t, u, .non, rfl, h1, h2, rfl⟩)
end
end R3

set_option maxHeartbeats 3900000
namespace R3
open PySem PySem.Spec PyProof.Rows L2 TL
open C8 (pss_cut tCut pe_gc)
open CB
theorem SisL.up {H H' : Hp} {D : Addr} {ss : List (Lk × An)} (h : SisL H D ss) (s : Same H H') : SisL H' D ss := by
  obtain ⟨vs, h1, h2, h3⟩ := h
  exact ⟨vs, s _ _ h1, h2, fun i v x hv hx => (h3 i v x hv hx).up s⟩
theorem con_w {s : Lk × An} (h : SiOk' s) : ∀ x ∈ con s, SiW x := by
  obtain ⟨k, a⟩ := s
  obtain ⟨⟨hk, ha⟩, _⟩ := h
  intro x hx
  cases k with
  | rd p =>
    cases a with
    | no => cases hx
    | tx z =>
      rw [show con (.rd p, .tx z) = [(.rd p, .no)] from rfl, List.mem_singleton] at hx
      rw [hx]
      exact ⟨⟨hk.2.1, Nat.le_trans hk.2.2 (by decide)⟩, trivial⟩
    | es l => exact ha.elim
  | ls p =>
    cases a with
    | no => cases hx
    | tx z => cases hx
    | es l =>
      obtain ⟨e, he, rfl⟩ := List.mem_map.mp (show x ∈ l.map (conE p) from hx)
      have hn := ha.1.1 e he
      have hl : (p ++ [e.1]).length ≤ 100 := by
        have := hk.2
        rw [List.length_append]
        show p.length + 1 ≤ 100
        omega
      have hm : Nms (p ++ [e.1]) := hk.1.app fun y hy => by
        rw [List.mem_singleton.mp hy]
        exact hn
      unfold conE
      cases e.2
      · exact ⟨⟨hm, hl⟩, trivial⟩
      · exact ⟨⟨hm, hl⟩, trivial⟩
  | se n => cases a <;> cases hx
  | tl => cases a <;> cases hx
theorem con_len {s : Lk × An} (h : SiOk' s) : (con s).length ≤ 1000 := by
  obtain ⟨k, a⟩ := s
  obtain ⟨⟨hk, ha⟩, _⟩ := h
  cases k <;> cases a <;> first | exact Nat.zero_le _ | skip
  · exact (by decide : 1 ≤ 1000)
  · show (List.map _ _).length ≤ 1000
    rw [List.length_map]
    exact ha.1.2.2
section
variable {P : Program} {w : World} {K : PySem.W.Frag} {mg : Str → Option Value} {base : Heap}
theorem scDenies : FnScope ["sight", "others", "other"] ["sight", "others"] (defScope sDenies) := ⟨rfl, rfl, rfl, by decide +kernel, rfl, by decide +kernel, by decide +kernel⟩
theorem ok_denies {f fF : Addr} {fd fdF : FuncData} (F : Fun K "denies_some" "denies_some" sDenies f fd) (T : TB mg) (aFollows : At K mg "follows_from" fF fdF ["one", "other"]) (GFollows : FnOk P w K mg base CX0 5 fF fdF ["one", "other"] spFollows) : FnOk P w K mg base CX0 6 f fd ["sight", "others"] spDenies := by
  refine F.ok scDenies (fun vs H Q E h => ?_) (fun cdv A outer s H vs Q E hr h => ?_)
  · obtain ⟨v, D, s, ss, rfl, _⟩ := h
    rfl
  · obtain ⟨v, D, s, ss, rfl, hs, ok, ⟨vs, hD, hl, hv⟩, h1000, hw, fin⟩ := h
    refine ⟨_, pss_one (ps_ret (pe_callB (cr_any rfl) (by rfl) T.any boot_any (pa_cons (pe_lc (own := [("other", 2)]) (g := gName 2) (tt := tYes) rfl scDenies.nd (pi_list (pv 1)) (blkOk_by (own := [("other", 2)]) (N := ["sight", "others", "other"]) (sc := defScope sDenies) (by decide +kernel)) (fun _ _ _ _ _ => (pg_name (i := 2) scDenies.nd rfl (Or.inl rfl))) (fun _ _ _ _ _ => pts_nil) (fun _ _ _ _ _ => (by exact (pe_call GFollows (hr.mono (by decide)) rfl aFollows.m aFollows.k aFollows.b .nil pass0 (pa_cons (pv 0) (pa_cons (pv 2) pa_nil)))))) pa_nil))), ?_⟩
    have ez : ∀ z ∈ vs.zip ss, SiAt H z.1 z.2 ∧ SiW z.2 := by
      intro z hz
      obtain ⟨i, hi⟩ := List.mem_iff_getElem?.mp hz
      rw [List.getElem?_zip_eq_some] at hi
      exact ⟨hv i _ _ hi.1 hi.2, hw _ (List.mem_of_getElem? hi.2)⟩
    have e1 : (vs.zip ss).map Prod.fst = vs := List.map_fst_zip (by omega)
    have e2 : (vs.zip ss).map Prod.snd = ss := List.map_snd_zip (by omega)
    have hz : (vs.zip ss).length < 1000000 := by
      rw [List.length_zip]
      omega
    refine ⟨_, rfl, D, rfl, ⟨_, SqL.of hD⟩, fun L hL => ?_⟩
    refine lc_mapL (vs.zip ss) Prod.fst (fun z => .bl (follM s z.2)) hz hL (SqL.of (by rw [e1]; exact hD)) ?_ ?_
    · intro z hz H2 s2 Q1 k1
      obtain ⟨a1, a2⟩ := ez z hz
      exact ⟨_, rfl, _, rfl, _, _, s, z.2, rfl, hs.up s2, a1.up s2, ok, a2, k1⟩
    · intro H' s' hL'
      refine any_of (vs.zip ss) (fun z => follM s z.2) hL' ?_
      have : ((vs.zip ss).any fun z => follM s z.2) = denM s ss := by
        unfold denM
        conv => rhs; rw [← e2]
        rw [List.any_map]
        rfl
      rw [this]
      exact fin H' s'
theorem scContr : FnScope ["sight", "look", "answer", "entry"] ["sight"] (defScope sContr) := ⟨rfl, rfl, rfl, by decide +kernel, rfl, by decide +kernel, by decide +kernel⟩
theorem ok_contr {f fE aTL : Addr} {fd fdE : FuncData} (F : Fun K "contraries" "contraries" sContr f fd) (mTL : mg "TREE_LOOKS" = some (.ref aTL)) (hTL : ∀ H, SqT K H aTL [.str "read", .str "list"]) (aContrE : At K mg "contrary_of_entry" fE fdE ["place", "entry"])
    (GContrE : FnOk P w K mg base CX0 2 fE fdE ["place", "entry"] spContrE) : FnOk P w K mg base CX0 3 f fd ["sight"] spContr := by
  refine F.ok scContr (fun vs H Q E h => ?_) (fun cdv A outer s H vs Q E hr h => ?_)
  · obtain ⟨v, s, rfl, _⟩ := h
    rfl
  · obtain ⟨v, ⟨k, a⟩, rfl, ⟨t, u, va, rfl, h1, h2, h3⟩, ok, fin⟩ := h
    refine ⟨_, pss_cons (ps_asg (pv 0) (pg_tup rfl (pgs_cons (pg_name (i := 1) scContr.nd rfl (Or.inr rfl)) (pgs_cons (pg_name (i := 2) scContr.nd rfl (Or.inl rfl)) pgs_nil))))
            (pss_cons (ps_if (PW.pt (pw_or (pt_cmp (pc_isN (pv 2))) (pw_or1 (pt_cmpR op_notIn_seq (pe_ix ix_tup (pv 1) pe_int (fun _ _ => rfl)) (pe_glob (v := .ref aTL) rfl mTL rfl) (by rfl))))) (pss_one (ps_ret (pe_lst pa_nil))) (pss_nil))
            (pss_cons (ps_if (pt_cmpR op_eq (pe_ix ix_tup (pv 1) pe_int (fun _ _ => rfl)) pe_str (nomark _)) (pss_one (ps_ret (pe_lst (pa_cons (pe_tup (pa_cons (pv 1) (pa_cons pe_non pa_nil))) pa_nil)))) (pss_nil))
            (pss_one (ps_ret (pe_lc (own := [("entry", 3)]) (g := gName 3) (tt := tYes) rfl scContr.nd (pi_tup (pv 2)) (blkOk_by (own := [("entry", 3)]) (N := ["sight", "look", "answer", "entry"]) (sc := defScope sContr) (by decide +kernel)) (fun _ _ _ _ _ => (pg_name (i := 3) scContr.nd rfl (Or.inl rfl))) (fun _ _ _ _ _ => pts_nil) (fun _ _ _ _ _ => (by exact (pe_call GContrE (hr.mono (by decide)) rfl aContrE.m aContrE.k aContrE.b .nil pass0 (pa_cons (pe_ix (ix_tupK (K0 := K) rfl) (pv 1) pe_int (fun _ _ => rfl)) (pa_cons (pv 3) pa_nil)))))))))), ?_⟩
    refine ⟨_, rfl, t, _, rfl, SqT.of h1, rfl, _, _, rfl, _, _, rfl, rfl, ?_⟩
    have none : con (k, a) = [] → ∀ D, H D = Option.none → Q (.ref D) (upd H D (.lst [])) := fun e D hD => fin D _ (same_mk hD) (by
      rw [e]
      exact ⟨[], upd_same, rfl, fun i v s h => by cases h⟩)
    have rest : ∀ (wd : Str) (r : List V) (b : Bool), lkV k = .str wd :: r → inV (.str wd) [V.str "read", V.str "list"] = b → (if true = true then !inV (.str wd) [V.str "read", V.str "list"] else inV (.str wd) [V.str "read", V.str "list"]) = !b := fun wd r b _ h => by
      rw [if_pos rfl, h]
    cases a with
    | no =>
      cases (show va = .non from h3)
      exact ⟨_, rfl, _, rfl, iteT ⟨Nat.zero_le _, fun D hD => none (by cases k <;> rfl) D hD⟩⟩
    | tx z =>
      cases (show va = .str z from h3)
      cases k with
      | rd p =>
        refine ⟨_, rfl, _, rfl, iteN (by intro z; cases z) ⟨_, rfl, u, _, 0, _, rfl, rfl, SqT.of h2, atI_nat (j := 0) rfl, aTL, _, rfl, .inr (hTL _), rfl, rfl, ?_⟩⟩
        rw [rest "read" _ true rfl (by decide +kernel)]
        refine ⟨_, rfl, iteF ⟨_, rfl, u, _, 0, _, rfl, rfl, SqT.of h2, atI_nat (j := 0) rfl, rfl, _, rfl, iteY rfl ⟨_, rfl, by show 2 ≤ sizeLine; decide, fun t' ht' => ⟨by show 1 ≤ sizeLine; decide, fun D hD => ?_⟩⟩⟩⟩
        have s1 := same_mk (o := .tup [.ref u, .non]) ht'
        refine fin D _ (same_ch s1 (s1.free hD)) ⟨[.ref t'], upd_same, rfl, fun i v s hv hs => ?_⟩
        match i, hv, hs with
        | 0, hv, hs =>
          cases hv
          cases hs
          exact ⟨t', u, .non, rfl, same_mk hD _ _ upd_same, same_mk hD _ _ (s1 _ _ h2), rfl⟩
      | ls p => exact ok.1.2.elim
      | se n =>
        refine ⟨_, rfl, _, rfl, iteN (by intro z; cases z) ⟨_, rfl, u, _, 0, _, rfl, rfl, SqT.of h2, atI_nat (j := 0) rfl, aTL, _, rfl, .inr (hTL _), rfl, rfl, ?_⟩⟩
        rw [rest "setting" _ false rfl (by decide +kernel)]
        exact ⟨_, rfl, iteT ⟨Nat.zero_le _, fun D hD => none rfl D hD⟩⟩
      | tl =>
        refine ⟨_, rfl, _, rfl, iteN (by intro z; cases z) ⟨_, rfl, u, _, 0, _, rfl, rfl, SqT.of h2, atI_nat (j := 0) rfl, aTL, _, rfl, .inr (hTL _), rfl, rfl, ?_⟩⟩
        rw [rest "tool" _ false rfl (by decide +kernel)]
        exact ⟨_, rfl, iteT ⟨Nat.zero_le _, fun D hD => none rfl D hD⟩⟩
    | es l =>
      obtain ⟨b, rfl, hb⟩ := h3
      cases k with
      | rd p => exact ok.1.2.elim
      | se n => exact ok.1.2.elim
      | tl => exact ok.1.2.elim
      | ls p =>
        refine ⟨_, rfl, _, rfl, iteN (by intro z; cases z) ⟨_, rfl, u, _, 0, _, rfl, rfl, SqT.of h2, atI_nat (j := 0) rfl, aTL, _, rfl, .inr (hTL _), rfl, rfl, ?_⟩⟩
        rw [rest "list" _ true rfl (by decide +kernel)]
        refine ⟨_, rfl, iteF ⟨_, rfl, u, _, 0, _, rfl, rfl, SqT.of h2, atI_nat (j := 0) rfl, rfl, _, rfl, iteN (by decide +kernel) ?_⟩⟩
        refine ⟨_, rfl, b, rfl, ⟨_, SqT.of hb⟩, fun D hD => ?_⟩
        have h1000 : l.length ≤ 1000 := ok.1.2.1.2.2
        refine lcR (walk_tup (K := K) (a := b) (xs := l.map entV)) (fun i y H => ∀ e, l[i]? = some e → SiAt H y (conE p e)) (fun i y H H' t h e he => (h e he).upT t) (by rw [List.length_map]; omega) hD (fun H' s => sameT s (SqT.of hb)) ?_ ?_
        · rintro i x H2 H3 hi s2 ⟨rfl, hx⟩ Q1 k1
          rw [List.getElem?_map] at hx
          match q : l[i]? with
          | Option.none =>
            rw [q] at hx
            cases hx
          | some e =>
            rw [q] at hx
            cases hx
            exact ⟨_, rfl, u, _, 0 + 1, _, rfl, rfl, SqT.of (s2 _ _ h2), atI_nat (j := 1) rfl, _, rfl, p, e, rfl, ok.1.1.1, ok.1.1.2, ok.1.2.1.1 e (List.mem_of_getElem? q), fun v H4 s4 hv => k1 v H4 s4 fun e' he' => by
              rw [q] at he'
              cases he'
              exact hv⟩
        · intro ys H' hl s' hD' hr
          rw [List.length_map] at hl
          refine fin D H' s' ⟨ys, hD', by rw [hl]; exact (List.length_map _).symm, fun i v s hv hs => ?_⟩
          have hs : (l.map (conE p))[i]? = some s := hs
          rw [List.getElem?_map] at hs
          match q : l[i]? with
          | Option.none =>
            rw [q] at hs
            cases hs
          | some e =>
            rw [q] at hs
            cases hs
            exact hr i v hv e q
theorem scBarE : FnScope ["one", "other"] ["one", "other"] (defScope sBarE) := ⟨rfl, rfl, rfl, by decide +kernel, rfl, by decide +kernel, by decide +kernel⟩
theorem ok_barE {f fD fC : Addr} {fd fdD fdC : FuncData} (F : Fun K "bar_each_other" "bar_each_other" sBarE f fd) (aDenies : At K mg "denies_some" fD fdD ["sight", "others"]) (aContr : At K mg "contraries" fC fdC ["sight"])
    (GDenies : FnOk P w K mg base CX0 6 fD fdD ["sight", "others"] spDenies) (GContr : FnOk P w K mg base CX0 3 fC fdC ["sight"] spContr) : FnOk P w K mg base CX0 7 f fd ["one", "other"] spBarE := by
  refine F.ok scBarE (fun vs H Q E h => ?_) (fun cdv A outer s H vs Q E hr h => ?_)
  · obtain ⟨v, v', s, s', rfl, _⟩ := h
    rfl
  · have hu := hr.units
    obtain ⟨v, v', s, s', rfl, S1, S2, ok, ok', fin⟩ := h
    refine ⟨_, pss_cons (ps_if (pt_cmpR (op_eqD hu) (pe_ix ix_tup (pv 0) pe_int (fun _ _ => rfl)) (pe_ix ix_tup (pv 1) pe_int (fun _ _ => rfl)) (nomark _)) (pss_one (ps_ret (pe_cmpR (op_neD hu) (pe_ix ix_tup (pv 0) pe_int (fun _ _ => rfl)) (pe_ix ix_tup (pv 1) pe_int (fun _ _ => rfl)) (nomark _)))) (pss_nil))
            (pss_one (ps_ret (pe_or (pe_call GDenies (hr.mono (by decide)) rfl aDenies.m aDenies.k aDenies.b .nil pass0 (pa_cons (pv 0) (pa_cons (pe_call GContr (hr.mono (by decide)) rfl aContr.m aContr.k aContr.b .nil pass0 (pa_cons (pv 1) pa_nil)) pa_nil))) (pe_one (pe_call GDenies (hr.mono (by decide)) rfl aDenies.m aDenies.k aDenies.b .nil pass0 (pa_cons (pv 1) (pa_cons (pe_call GContr (hr.mono (by decide)) rfl aContr.m aContr.k aContr.b .nil pass0 (pa_cons (pv 0) pa_nil)) pa_nil))))))), ?_⟩
    have S1o := S1
    have S2o := S2
    obtain ⟨t, u, va, rfl, h1, h2, h3⟩ := S1
    obtain ⟨t', u', va', rfl, h1', h2', h3'⟩ := S2
    refine ⟨_, rfl, t, _, 0, _, rfl, rfl, SqT.of h1, atI_nat (j := 0) rfl, _, rfl, t', _, 0, _, rfl, rfl, SqT.of h1', atI_nat (j := 0) rfl, _, _, lk_dp h2, lk_dp h2', lkD_shaped ok.2.1, lkD_shaped ok'.2.1, ?_⟩
    rw [eqv_lk ok.2.1 ok'.2.1]
    unfold barsM at fin
    by_cases e : s.1 = s'.1
    · rw [if_pos e] at fin
      refine ⟨_, rfl, iteY e ⟨_, rfl, t, _, 1, _, rfl, rfl, SqT.of h1, atI_nat (j := 1) rfl, _, rfl, t', _, 1, _, rfl, rfl, SqT.of h1', atI_nat (j := 1) rfl, _, _, an_dp h3, an_dp h3', anD_shaped ok.2.2, anD_shaped ok'.2.2, ?_⟩⟩
      rw [eqv_an ok.2.2 ok'.2.2]
      exact fin H (Same.refl H)
    · rw [if_neg e] at fin
      refine ⟨_, rfl, iteN e ⟨_, rfl, _, rfl, .ref t', s', rfl, S2o, ok', fun D H1 s1 hD => ⟨.ref t, D, s, con s', rfl, S1o.up s1, ok, hD, con_len ok', con_w ok', fun H2 s2 => ⟨_, rfl, ?_⟩⟩⟩⟩
      cases e1 : denM s (con s') with
      | true =>
        rw [e1] at fin
        exact iteT (fin H2 (s1.trans s2))
      | false =>
        rw [e1] at fin
        have s12 := s1.trans s2
        exact iteF ⟨_, rfl, _, rfl, .ref t, s, rfl, S1o.up s12, ok, fun D' H3 s3 hD' => ⟨.ref t', D', s', con s, rfl, (S2o.up s12).up s3, ok', hD', con_len ok, con_w ok, fun H4 s4 => fin H4 ((s12.trans s3).trans s4)⟩⟩
end
end R3

set_option maxHeartbeats 3900000
namespace CB
open PySem PySem.Spec PyProof.Rows L2 PyProof.V
/-! two rules that were lacking: a text times 0 or 1; setdefault by a tuple -/
def rMulS : R2 := fun x y H Q => ∃ (z : Str) (b : Bool), x = .str z ∧ y = .int (b2i b) ∧ z.length ≤ sizeLine ∧ Q (.str (if b = true then z else "")) H
section
variable {X : Cx}
theorem op_mulS : OpR X (binaryOp .Mult) rMulS := by
  intro pins s σ H x y v u Q I rx ry h
  obtain ⟨z, b, rfl, rfl, hz, q⟩ := h
  obtain ⟨t, rfl⟩ := rx
  obtain ⟨t', rfl⟩ := ry
  cases b with
  | false => exact P.mul_str_none (by decide) (by decide) ⟨.str "", H, I.tok _, ⟨_, rfl⟩, q⟩
  | true =>
    refine P.mul_str (by decide) (fun _ h => by cases h) (fun _ h => by cases h) ?_
    show (Made.val (.str z t)).post _ s
    exact ⟨.str z, H, I, ⟨_, rfl⟩, q⟩
/-- d.setdefault(k, x), k a tuple of texts and ints -/
def rSetdT : V → List V → Hp → VK → Prop := fun x xs H Q => ∃ (a : Addr) (kvs : List (List L2.Key × V)) (k : List L2.Key) (b : Addr) (d : V), x = .ref a ∧ xs = [.ref b, d] ∧ H a = some (.dT kvs) ∧ H b = some (.tup (k.map kV)) ∧ kvs.length < sizeLine ∧
  (∀ v, valV kvs k = some v → Q v H) ∧ (valV kvs k = none → Q d (upd H a (.dT (putK kvs k d))))
theorem mt_setdT (hu : X.A.units + 1 < cLine) : MtR X "dict.setdefault" rSetdT := by
  intro pins s σ H x xs v us Q I rx rxs h
  obtain ⟨a, kvs, k, b, d, rfl, rfl, ha, hb, hl, q1, q2⟩ := h
  cases rx
  obtain ⟨u1, u2, rfl, r1, r2⟩ := vals2 rxs
  cases r1
  obtain ⟨z, hd, xs', rel, dd⟩ := dt_of I.hok ha
  have hz : xs'.length ≤ sizeLine := by
    rw [← Paired.length rel]
    exact z
  refine call_setdefault_heap (knd := tupleKind (mixKind X.prog X.w)) (k := k) (tupleKind_room_in1 hu) (key_of I.hok hb) hd dd (fun p hp => ?_) (fun hn h' dd' hs => ?_) hz
  · have r := rel.val k
    rw [hp] at r
    obtain ⟨v0, ev, rv⟩ : ∃ v0, valV kvs k = some v0 ∧ RelV v0 p.2 := by
      cases ev : valV kvs k with
      | none =>
        rw [ev] at r
        exact (show False from r).elim
      | some v0 =>
        rw [ev] at r
        exact ⟨v0, rfl, r⟩
    exact ⟨v0, H, I.tok _, rv, q1 v0 ev⟩
  · have r := rel.val k
    rw [hn] at r
    have e : valV kvs k = none := by
      cases ev : valV kvs k with
      | none => rfl
      | some v0 =>
        rw [ev] at r
        exact (show False from r).elim
    obtain ⟨o, es, ep, hq, h2, h3, h4, _, h5⟩ := dd'
    have hl2 : (putK kvs k d).length ≤ sizeLine := by
      have := length_putK kvs k d
      omega
    refine ⟨d, _, d_write (ob := .dT (putK kvs k d)) I (by rw [ha]; exact True.intro) hs ⟨o, hq⟩ ⟨hl2, hd, _, (rel.put k hb r2).keeps fun c ys ec => ?_, o, es, ep, hq, h2, h3, h4, h5⟩, r2, q2 e⟩
    rw [upd_ne (ne_of ec ha (fun z => nomatch z))]
    exact ec
variable {K0 : PySem.W.Frag}
theorem len_seqK (hK : X.K = K0) : CallR X (.builtin "len") (fun xs H Q => ∃ p ys, xs = [V.ref p] ∧ (SqL K0 H p ys ∨ SqT K0 H p ys) ∧ Q (V.int (ys.length : Int)) H) := by
  subst hK
  exact call_len_seq
theorem sl_listK (hK : X.K = K0) : SlR X (rSlL K0) := by
  subst hK
  exact sl_list
def tJoinK (K0 : PySem.W.Frag) (to te : TE) : TE := tM1 (fun x xs H Q => ∃ a p, ∃ ys : List Str, x = .str a ∧ xs = [.ref p] ∧ (SqL K0 H p (ys.map V.str) ∨ SqT K0 H p (ys.map V.str)) ∧ (ys.map (·.length)).sum + ys.length * a.length ≤ 16777216 ∧ Q (.str (Txt.join a ys)) H) to te
theorem pe_joinK {o e : Expr} {to te : TE} {apos pos : Pos} (hK : X.K = K0) (ho : PE X o to) (he : PE X e te) (h1 : starEach [e] X.env = [(false, eval e X.env)] := by rfl) (h2 : attributeBase o "join" X.env (eval o X.env) = eval o X.env := by rfl)
    (h3 : (apos.endLine == pos.line) = true := by rfl) : PE X (.Call (.Attribute o "join" apos) [e] [] pos) (tJoinK K0 to te) := by
  subst hK
  exact pe_join ho he h1 h2 h3
end
end CB

set_option maxHeartbeats 3900000
namespace R3
open PySem PySem.Spec PyProof.Rows L2 TL
open C8 (pss_cut tCut pe_gc)
open CB
abbrev sBeneath : Stmt := top 62
theorem er_perm : ∀ (l : List Str) (m : Nat) (h : m < l.length), (l[m] :: l.eraseIdx m).Perm l
  | x :: r, 0, _ => List.Perm.refl _
  | x :: r, m + 1, h => by
    have hm : m < r.length := by simpa using h
    have ih := er_perm r m hm
    show (r[m]'hm :: x :: r.eraseIdx m).Perm (x :: r)
    exact (List.Perm.swap x (r[m]'hm) (r.eraseIdx m)).trans (List.Perm.cons x ih)
theorem er_map : ∀ (l : List Str) (m : Nat), (l.map V.str).eraseIdx m = (l.eraseIdx m).map V.str
  | [], _ => rfl
  | _ :: _, 0 => rfl
  | x :: r, m + 1 => by
    show V.str x :: (r.map V.str).eraseIdx m = V.str x :: (r.eraseIdx m).map V.str
    rw [er_map r m]
def spMixed : Sp := fun vs H Q _ => ∃ (st l p : Addr) (c : Nat) (zs : List Str), vs = [.ref st, .ref p] ∧ Strm H st l c ∧ c ≤ 900000 ∧ Pool H st l p zs ∧ zs.length < 1000 ∧
  ∀ (D : Addr) (ys : List Str) (H' : Hp), ys.Perm zs → H D = none → Pool H' st l D ys → But st l H H' → Strm H' st l (c + zs.length) → Q (.ref D) H'
def spBeneath : Sp := fun vs H Q _ => ∃ p q, vs = [.str (js p), .str (js q)] ∧ Nms p ∧ Nms q ∧ q.length ≤ 100 ∧ p.length ≤ 100 ∧ ∀ H', Same H H' → Q (.bl (ben p q)) H'
/-- looks in a list -/
def LksL (H : Hp) (D : Addr) (ks : List Lk) : Prop := ∃ vs : List V, H D = some (.lst vs) ∧ vs.length = ks.length ∧ ∀ (i : Nat) (v : V) (k : Lk), vs[i]? = some v → ks[i]? = some k → ∃ t, v = .ref t ∧ H t = some (.tup (lkV k))
def spLooks : Sp := fun vs H Q _ => ∃ (st l p : Addr) (c : Nat) (zs : List Str) (many : Int), vs = [.ref st, .ref p, .int many] ∧ Strm H st l c ∧ c ≤ 700000 ∧ Pool H st l p zs ∧ 0 < zs.length ∧ zs.length < 1000 ∧ (∀ z ∈ zs, IsNm z) ∧ 0 ≤ many ∧ many ≤ 100 ∧
  ∀ (D : Addr) (ks : List Lk) (H' : Hp) (c' : Nat), (ks.length : Int) ≤ many → (∀ k ∈ ks, LkOn zs 3 k) → ks.Nodup → H D = none → LksL H' D ks → But st l H H' → Strm H' st l c' → c' ≤ c + 6 * many.toNat → Q (.ref D) H'
/-- an answer with few names out of some -/
abbrev Oka (z : Str) : Prop := Okz z ∧ z.length ≤ 20
def AnOn (zs : List Str) : An → Prop
  | .no => True
  | .tx z => Oka z
  | .es l => (∀ e ∈ l, e.1 ∈ zs) ∧ l.length ≤ 20
def spSome : Sp := fun vs H Q _ => ∃ (st l p t : Addr) (c : Nat) (zs : List Str) (k : Lk), vs = [.ref st, .ref p, .ref t] ∧ Strm H st l c ∧ c ≤ 700000 ∧ Pool H st l p zs ∧ zs.Nodup ∧ 0 < zs.length ∧ zs.length < 20 ∧ (∀ z ∈ zs, IsNm z) ∧ H t = some (.tup (lkV k)) ∧ LkW k ∧
  ∀ (v : V) (a : An) (H' : Hp) (c' : Nat), AnAt H' v a → AnOk k a → AnOn zs a → But st l H H' → Strm H' st l c' → c' ≤ c + 60 → Q v H'
section
variable {P : Program} {w : World} {K : PySem.W.Frag} {mg : Str → Option Value} {base : Heap} {fD fP fPa fFr fMx fTe fLo : Addr} {fdD fdP fdPa fdFr fdMx fdTe fdLo : FuncData}
theorem scMx : FnScope ["_law_stream", "_law_things", "_law_left", "_law_k"] ["_law_stream", "_law_things"] (defScope sMixed) := ⟨rfl, rfl, rfl, by decide +kernel, rfl, by decide +kernel, by decide +kernel⟩
theorem ok_mixed {f : Addr} {fd : FuncData} (F : Fun K "_law_mixed" "_law_mixed" sMixed f fd) (T : TB mg) (aD : aD' K mg fD fdD) (GD : FnOk P w K mg base CX0 1 fD fdD ["_law_stream", "_law_many"] spDraw) : FnOk P w K mg base CX0 2 f fd ["_law_stream", "_law_things"] spMixed := by
  refine F.ok scMx (fun vs H Q E h => ?_) (fun cdv A outer s H vs Q E hr h => ?_)
  · obtain ⟨st, l, p, c, zs, rfl, _⟩ := h
    rfl
  · obtain ⟨st, l, p, c, zs, rfl, S, hc, L, z1, k⟩ := h
    refine ⟨_, pss_cons (ps_set (i := 2) scMx.nd rfl (Or.inr rfl) (pe_callTy call_list_of (by rfl) T.list (by decide +kernel) (pa_cons (pv 1) pa_nil)))
            (pss_one (ps_ret (pe_lc (own := [("_law_k", 3)]) (g := gName 3) (tt := tYes) rfl scMx.nd (pi_range1 rfl T.range (pa_cons (pe_callB call_len_seq (by rfl) T.len PySem.boot_len (pa_cons (pv 2) pa_nil)) pa_nil)) (blkOk_by (own := [("_law_k", 3)]) (N := ["_law_stream", "_law_things", "_law_left", "_law_k"]) (sc := defScope sMixed) (by decide +kernel)) (fun _ _ _ _ _ => (pg_name (i := 3) scMx.nd rfl (Or.inl rfl))) (fun _ _ _ _ _ => pts_nil) (fun _ _ _ _ _ => (by exact (pe_bmK K rfl PySem.F.plainAttrs_list PySem.F.slot_list_pop PySem.F.type_list_pop mt_popAt (pv 2) (pa_cons (pe_call GD (hr.mono (by decide)) rfl aD.m aD.k aD.b .nil pass0 (pa_cons (pv 0) (pa_cons (pe_callB (len_seqK (K0 := K) rfl) (by rfl) T.len PySem.boot_len (pa_cons (pv 2) pa_nil)) pa_nil))) pa_nil))))))), ?_⟩
    refine ⟨_, rfl, p, _, rfl, .inl (SqL.of L.h), fun u hu => ?_⟩
    have nu := S.ne_new hu
    have S0 := S.up (same_mk (o := .lst (zs.map V.str)) hu)
    refine ⟨_, rfl, u, _, rfl, .inl (SqL.of upd_same), _, rfl, by omega, by rw [List.length_map]; omega, fun D hD => ?_⟩
    rw [List.length_map]
    have nD := S0.ne_new hD
    have uD : u ≠ D := ne_of_none upd_same hD
    have s01 : Same H (upd H u (.lst (zs.map V.str))) := same_mk hu
    have hDH : H D = none := s01.free hD
    refine lc_range (lo := 0) (n := ((zs.length : Nat) : Int).toNat) (fun i H' => But st l H H' ∧ Strm H' st l (c + i) ∧ ∃ rem ys : List Str, ys.length = i ∧ (ys ++ rem).Perm zs ∧ H' u = some (.lst (rem.map V.str)) ∧ H' D = some (.lst (ys.map V.str)))
      ⟨But.same (s01.trans (same_mk hD)), S0.up (same_mk hD), zs, [], rfl, List.Perm.refl _, by rw [upd_ne uD]; exact upd_same, upd_same⟩ ?_ ?_
    · rintro i H' hi ⟨B', S', rem, ys, hy, pm, hu', hD'⟩
      have hi' : i < zs.length := by simpa using hi
      have rl : rem.length = zs.length - i := by
        have := pm.length_eq
        rw [List.length_append] at this
        omega
      refine ⟨rfl, _, rfl, .inl ⟨rfl, _, SqL.of hu'⟩, _, rfl, _, rfl, u, _, rfl, .inl (SqL.of hu'), st, l, c + i, _, rfl, S', by omega, by rw [List.length_map]; omega, by rw [List.length_map]; omega, fun d H'' d0 d1 B'' S'' => ?_⟩
      rw [List.length_map] at d1
      obtain ⟨m, rfl⟩ := Int.eq_ofNat_of_zero_le d0
      have hm : m < rem.length := by omega
      have hu2 := B'' _ _ hu' nu.1 nu.2
      have hD2 := B'' _ _ hD' nD.1 nD.2
      have sx : seqIndex? (m : Int) (rem.map V.str).length = some m := by
        rw [List.length_map]
        have h0 : ¬ ((m : Int) < 0) := by omega
        simp [seqIndex?, h0, hm]
      refine ⟨u, _, m, m, .str rem[m], rfl, rfl, hu2, by omega, by omega, sx, by rw [List.getElem?_map, List.getElem?_eq_getElem hm]; rfl, _, by rw [upd_ne uD.symm]; exact hD2, ?_, ?_, ?_, rem.eraseIdx m, ys ++ [rem[m]], ?_, ?_, ?_, ?_⟩
      · rw [List.length_map, hy]
        exact Nat.lt_of_lt_of_le (show i < 1000 by omega) (by decide)
      · intro b o hb n1 n2
        by_cases e1 : b = D
        · rw [e1, hDH] at hb
          cases hb
        · rw [upd_ne e1]
          by_cases e2 : b = u
          · rw [e2, hu] at hb
            cases hb
          · rw [upd_ne e2]
            exact B'' _ _ (B' _ _ hb n1 n2) n1 n2
      · exact (S''.put nu).put nD
      · rw [List.length_append, hy]
        rfl
      · rw [List.append_assoc]
        exact (List.Perm.append_left ys (er_perm rem m hm)).trans pm
      · rw [upd_ne uD, upd_same, er_map]
      · rw [upd_same, List.map_append]
        rfl
    · rintro H' ⟨B', S', rem, ys, hy, pm, hu', hD'⟩
      have hy' : ys.length = zs.length := by simpa using hy
      have rl : rem.length = 0 := by
        have := pm.length_eq
        rw [List.length_append] at this
        omega
      rw [List.length_eq_zero_iff.mp rl, List.append_nil] at pm
      exact k D ys H' pm hDH ⟨hD', nD.1, nD.2⟩ B' (by simpa using S')
theorem scBe : FnScope ["_law_path_here", "_law_other"] ["_law_path_here", "_law_other"] (defScope sBeneath) := ⟨rfl, rfl, rfl, by decide +kernel, rfl, by decide +kernel, by decide +kernel⟩
theorem ok_beneath {f : Addr} {fd : FuncData} (F : Fun K "_law_beneath" "_law_beneath" sBeneath f fd) (T : TB mg) : FnOk P w K mg base CX0 1 f fd ["_law_path_here", "_law_other"] spBeneath := by
  refine F.ok scBe (fun vs H Q E h => ?_) (fun cdv A outer s H vs Q E hr h => ?_)
  · obtain ⟨p, q, rfl, _⟩ := h
    rfl
  · obtain ⟨p, q, rfl, hp, hq, lq, lp, k⟩ := h
    refine ⟨_, pss_one (ps_ret (pe_and (pe_cmpR op_ne (pv 0) pe_str (nomark _)) (pe_one (pe_or (pe_cmpR op_eq (pv 1) pe_str (nomark _)) (pe_one (pe_cmpR op_eq (pe_slice sl_str (pv 0) po_none (po_some (pe_op op_add (pe_callB call_len_str (by rfl) T.len PySem.boot_len (pa_cons (pv 1) pa_nil)) pe_int))) (pe_op op_add_str (pv 1) pe_str) (nomark _))))))), ?_⟩
    have shp := js_sh hp lp
    have shq := js_sh hq lq
    refine ⟨_, rfl, rfl, _, rfl, ?_⟩
    by_cases ep : p = []
    · subst ep
      have e : ben [] q = false := by
        unfold ben
        cases q <;> rfl
      rw [e] at k
      exact iteF (k H (Same.refl H))
    rw [decide_eq_false (show ¬ V.str (js p) = V.str "" from fun z => js_ne hp ep (V.str.inj z))]
    refine iteT ⟨_, rfl, rfl, _, rfl, ?_⟩
    by_cases eq : q = []
    · subst eq
      have e : ben p [] = true := ben_iff.mpr ⟨p, ep, rfl⟩
      rw [e] at k
      exact iteT (k H (Same.refl H))
    rw [decide_eq_false (show ¬ V.str (js q) = V.str "" from fun z => js_ne hq eq (V.str.inj z))]
    have add : (js q).length + ("/" : Str).length ≤ sizeLine := by
      have := shq
      unfold Sh at this
      exact Nat.le_trans (show (js q).length + 1 ≤ 1001 by omega) (by decide)
    refine iteF ⟨_, rfl, _, rfl, _, rfl, shq.line, _, _, rfl, rfl, _, rfl, js p, rfl, shp.line, _, rfl, _, _, rfl, rfl, add, rfl, ?_⟩
    have e := head_bg hp hq eq
    have e2 : decide (V.str (cutS (js p) none (some (((js q).length : Int) + 1))) = V.str (js q ++ "/")) = ben p q := by
      rw [← e, decide_eq_decide]
      exact ⟨fun z => V.str.inj z, fun z => congrArg V.str z⟩
    rw [e2]
    exact k H (Same.refl H)
theorem dp_lks {H : Hp} : ∀ {vs : List V} {ks : List Lk}, vs.length = ks.length → (∀ (i : Nat) (v : V) (k : Lk), vs[i]? = some v → ks[i]? = some k → ∃ t, v = .ref t ∧ H t = some (.tup (lkV k))) → DpAll K H vs (ks.map lkD)
  | [], [], _, _ => .nil
  | [], _ :: _, h, _ => by cases h
  | _ :: _, [], h, _ => by cases h
  | v :: vs, k :: ks, h, a => by
    obtain ⟨t, rfl, ht⟩ := a 0 v k rfl rfl
    exact .cons (lk_dp ht) (dp_lks (Nat.succ.inj h) fun i v' k' hv hk => a (i + 1) v' k' hv hk)
theorem lay_lks : ∀ ks : List Lk, (∀ k ∈ ks, LkW k) → PyData.canLayAll0 (ks.map lkD) = true
  | [], _ => by simp [PyData.canLayAll0]
  | k :: r, h => by
    have h1 : (lkD k).canLay0 = true := lay_strD _ (lkS_ok (h k List.mem_cons_self))
    simp [PyData.canLayAll0, lay_lks r fun y hy => h y (List.mem_cons_of_mem _ hy), h1]
theorem dep_lks : ∀ ks : List Lk, PyData.depthAll (ks.map lkD) ≤ 2
  | [] => by simp [PyData.depthAll]
  | k :: r => by
    have h1 : (lkD k).depth ≤ 2 := dep_strD _
    have := dep_lks r
    simp only [List.map_cons, PyData.depthAll]
    omega
theorem shaped_lks (ks : List Lk) (h : ∀ k ∈ ks, LkW k) : SeqAt.shaped (.list (ks.map lkD)) = true := by
  refine shaped_mk ?_ ?_
  · simp only [PyData.canLay0]
    exact lay_lks ks h
  · have := dep_lks ks
    simp only [PyData.depth]
    omega
theorem lkOn_w {zs : List Str} {m : Nat} {k : Lk} (hz : ∀ z ∈ zs, IsNm z) (hm : m ≤ 100) (h : LkOn zs m k) : LkW k := by
  cases k with
  | rd p => exact ⟨fun y hy => hz y (h.2.2 y hy), Nat.le_trans h.2.1 hm⟩
  | ls p => exact ⟨fun y hy => hz y (h.2 y hy), Nat.le_trans h.1 hm⟩
  | se n => exact hz n h
  | tl => trivial
theorem scLs : FnScope ["_law_stream", "_law_pool_here", "_law_many", "_law_found", "_law_k", "_law_look_here"] ["_law_stream", "_law_pool_here", "_law_many"] (defScope sLooks) := ⟨rfl, rfl, rfl, by decide +kernel, rfl, by decide +kernel, by decide +kernel⟩
theorem ok_looks {f : Addr} {fd : FuncData} (F : Fun K "_law_looks" "_law_looks" sLooks f fd) (T : TB mg) (aLo : At K mg "_law_look" fLo fdLo ["_law_stream", "_law_pool_here"]) (GLo : FnOk P w K mg base CX0 4 fLo fdLo ["_law_stream", "_law_pool_here"] spLook) : FnOk P w K mg base CX0 5 f fd ["_law_stream", "_law_pool_here", "_law_many"] spLooks := by
  refine F.ok scLs (fun vs H Q E h => ?_) (fun cdv A outer s H vs Q E hr h => ?_)
  · obtain ⟨st, l, p, c, zs, many, rfl, _⟩ := h
    rfl
  · obtain ⟨st, l, p, c, zs, many, rfl, S, hc, L, z0, z1, nm, m0, m1, k⟩ := h
    obtain ⟨n, rfl⟩ := Int.eq_ofNat_of_zero_le m0
    have hu5 := hr.un
    have hu5 : (A.deeper (envOfC "_law_looks" (defScope sLooks) s.heap.objs.size f cdv)).units + 65 < cLine := by omega
    refine ⟨_, pss_cons (ps_set (i := 3) scLs.nd rfl (Or.inl rfl) (pe_lst pa_nil))
            (pss_cons (ps_for PassesOwn.never rfl (pi_range1 rfl T.range (pa_cons (pv 2) pa_nil)) (pg_name (i := 4) scLs.nd rfl (Or.inl rfl)) (pss_cons (ps_set (i := 5) scLs.nd rfl (Or.inl rfl) (pe_call GLo (hr.mono (by decide)) rfl aLo.m aLo.k aLo.b .nil pass0 (pa_cons (pv 0) (pa_cons (pv 1) pa_nil))))
            (pss_one (ps_expr (pe_bm PySem.F.plainAttrs_list PySem.F.slot_list_extend PySem.F.type_list_extend mt_extend (pv 3) (pa_cons (pe_op op_rep (pe_lst (pa_cons (pv 5) pa_nil)) (pe_callTy call_int1 (by rfl) T.int (by decide +kernel) (pa_cons (pe_cmpR (op_notInD hu5) (pv 5) (pv 3) (by rfl)) pa_nil))) pa_nil))))))
            (pss_one (ps_ret (pv 3)))), ?_⟩
    refine ⟨Nat.zero_le _, fun D hD => ?_⟩
    have nD := S.ne_new hD
    refine ⟨_, rfl, n, rfl, by omega, by omega, for_range (lo := 0) (n := n) (fun i σ H' => ∃ x4 x5 ks, σ = [some (.ref st), some (.ref p), some (.int n), some (.ref D), x4, x5] ∧ ks.length ≤ i ∧ (∀ k ∈ ks, LkOn zs 3 k) ∧ ks.Nodup ∧ LksL H' D ks ∧ But st l H H' ∧ ∃ c', Strm H' st l c' ∧ c' ≤ c + 6 * i)
      ⟨none, none, [], rfl, Nat.zero_le _, by simp, List.nodup_nil, ⟨[], upd_same, rfl, fun i v k h => by cases h⟩, But.same (same_mk hD), c, S.up (same_mk hD), by omega⟩ ?_ ?_⟩
    · rintro i _ H1 hi ⟨x4, x5, ks, rfl, hkl, hks, nd, ⟨ws, hw, hwl, hwa⟩, B1, c1, S1, hc1⟩
      refine ⟨_, rfl, _, rfl, st, l, p, c1, zs, rfl, S1, by omega, L.but B1, z0, z1, nm, fun t k' H2 c2 ok' ht0 ht B2 S2 hc2 => ?_⟩
      have hw2 := B2 _ _ hw nD.1 nD.2
      have hwa2 : ∀ (i : Nat) (v : V) (k : Lk), ws[i]? = some v → ks[i]? = some k → ∃ t, v = .ref t ∧ H2 t = some (.tup (lkV k)) := fun i v k hv hk => by
        obtain ⟨t, e, h⟩ := hwa i v k hv hk
        obtain ⟨ns, a, m, ⟨h1, h2⟩, _⟩ := S1.ex
        exact ⟨t, e, B2 _ _ h (ne_of h h1 (by intro z; cases z)) (ne_of h h2 (by intro z; cases z))⟩
      have kw : ∀ k ∈ ks, LkW k := fun k hk => lkOn_w nm (by decide) (hks k hk)
      refine ⟨_, rfl, .inl ⟨rfl, _, SqL.of hw2⟩, _, rfl, by show 1 ≤ sizeLine; decide, fun q hq => ?_⟩
      have sq := same_mk (o := .lst [.ref t]) hq
      have hw3 := sq _ _ hw2
      refine ⟨_, rfl, _, rfl, lkD k', ks.map lkD, lk_dp (sq _ _ ht), .lst (SqL.of hw3) (dp_lks hwl fun i v k hv hk => ?_), lkD_shaped (lkOn_w nm (by decide) ok'), shaped_lks ks kw, .inr ⟨_, rfl, q, _, [.ref t], rfl, rfl, upd_same, ?_⟩⟩
      · obtain ⟨t', e, h⟩ := hwa2 i v k hv hk
        exact ⟨t', e, sq _ _ h⟩
      have eb : (!(ks.map lkD).any fun z => PyData.eqv z (lkD k')) = decide (k' ∉ ks) := by
        have e1 : ((ks.map lkD).any fun z => PyData.eqv z (lkD k')) = decide (k' ∈ ks) := by
          rw [List.any_map, Bool.eq_iff_iff, List.any_eq_true, decide_eq_true_iff]
          constructor
          · rintro ⟨x, hx, e⟩
            have e2 := eqv_lk (kw x hx) (lkOn_w nm (by decide) ok')
            rw [show PyData.eqv (lkD x) (lkD k') = true from e] at e2
            obtain rfl := of_decide_eq_true e2.symm
            exact hx
          · intro hx
            exact ⟨k', hx, (eqv_lk (kw k' hx) (kw k' hx)).trans (decide_eq_true rfl)⟩
        rw [e1, decide_not]
      generalize (!(ks.map lkD).any fun z => PyData.eqv z (lkD k')) = b at eb ⊢
      refine ⟨by cases b <;> decide, by cases b <;> decide, by cases b <;> first | exact Nat.zero_le _ | exact (show 1 ≤ sizeLine by decide), fun r hr' => ?_⟩
      have sr := same_mk (o := .lst (List.replicate (if b = true then 1 else 0 : Int).toNat [V.ref t]).flatten) hr'
      have hw4 := sr _ _ hw3
      have nq := S2.ne_new hq
      have S3 := S2.up sq
      have nr := S3.ne_new hr'
      have Dr : D ≠ r := ne_of_none hw3 hr'
      have HD : H D = none := hD
      have wl : ws.length ≤ 100 := by omega
      refine ⟨D, r, ws, _, rfl, rfl, hw4, upd_same, ?_, _, _, if b = true then ks ++ [k'] else ks, rfl, ?_, ?_, ?_, ⟨ws ++ (List.replicate (if b = true then 1 else 0 : Int).toNat [V.ref t]).flatten, upd_same, ?_, ?_⟩, ?_, c2, ?_, by omega⟩
      · cases b
        · exact Nat.le_trans (show ws.length + 0 ≤ 101 by omega) (by decide)
        · exact Nat.le_trans (show ws.length + 1 ≤ 101 by omega) (by decide)
      · cases b
        · exact Nat.le_succ_of_le hkl
        · show (ks ++ [k']).length ≤ i + 1
          rw [List.length_append]
          exact Nat.succ_le_succ hkl
      · intro x hx
        cases b
        · exact hks x hx
        · rcases List.mem_append.mp hx with e | e
          · exact hks x e
          · rw [List.mem_singleton.mp e]
            exact ok'
      · cases b
        · exact nd
        · have no := of_decide_eq_true eb.symm
          exact List.nodup_append.mpr ⟨nd, List.nodup_cons.mpr ⟨List.not_mem_nil, List.nodup_nil⟩, fun x hx y hy e => no (by rw [List.mem_singleton.mp hy] at e; rw [← e]; exact hx)⟩
      · cases b
        · show (ws ++ []).length = ks.length
          rw [List.append_nil, hwl]
        · show (ws ++ [V.ref t]).length = (ks ++ [k']).length
          rw [List.length_append, List.length_append, hwl]
          rfl
      · have up : ∀ t' k, H2 t' = some (.tup (lkV k)) → upd (upd (upd H2 q (.lst [.ref t])) r (.lst (List.replicate (if b = true then 1 else 0 : Int).toNat [V.ref t]).flatten)) D (.lst (ws ++ (List.replicate (if b = true then 1 else 0 : Int).toNat [V.ref t]).flatten)) t' = some (.tup (lkV k)) := fun t' k h => by
          rw [upd_ne (ne_of h hw2 (by intro z; cases z))]
          exact sr _ _ (sq _ _ h)
        intro m v k'' hv hk
        cases b
        · have hv : (ws ++ [])[m]? = some v := hv
          rw [List.append_nil] at hv
          obtain ⟨t', e, h⟩ := hwa2 m v k'' hv hk
          exact ⟨t', e, up _ _ h⟩
        · have hv : (ws ++ [V.ref t])[m]? = some v := hv
          have hk : (ks ++ [k'])[m]? = some k'' := hk
          by_cases e : m < ws.length
          · rw [List.getElem?_append_left e] at hv
            rw [List.getElem?_append_left (by omega)] at hk
            obtain ⟨t', e, h⟩ := hwa2 m v k'' hv hk
            exact ⟨t', e, up _ _ h⟩
          · rw [List.getElem?_append_right (by omega)] at hv hk
            have := (List.getElem?_eq_some_iff.mp hv).1
            rw [List.length_singleton] at this
            have e0 : m - ws.length = 0 := by omega
            have e1 : m - ks.length = 0 := by omega
            rw [e0] at hv
            rw [e1] at hk
            cases hv
            cases hk
            exact ⟨t, rfl, up _ _ ht⟩
      · intro x o hx n1 n2
        have xD : x ≠ D := fun z => by
          rw [z, HD] at hx
          cases hx
        rw [upd_ne xD]
        exact sr _ _ (sq _ _ (B2 _ _ (B1 _ _ hx n1 n2) n1 n2))
      · exact (S3.up sr).put nD
    · rintro _ H2 ⟨x4, x5, ks, rfl, hkl, hks, nd, hL, B2, c2, S2, hc2⟩
      exact ⟨_, rfl, k D ks H2 c2 (by omega) hks nd hD hL B2 S2 (by omega)⟩
end
end R3

set_option maxHeartbeats 3900000
namespace R3
open PySem PySem.Spec PyProof.Rows L2 TL
open C8 (pss_cut tCut pe_gc)
open CB
theorem lt_tri : ∀ a b : List Nat, a < b ∨ a = b ∨ b < a
  | [], [] => .inr (.inl rfl)
  | [], y :: b => .inl (List.nil_lt_cons y b)
  | x :: a, [] => .inr (.inr (List.nil_lt_cons x a))
  | x :: a, y :: b => by
    rcases Nat.lt_trichotomy x y with h | h | h
    · exact .inl (List.cons_lt_cons_iff.mpr (.inl h))
    · subst h
      rcases lt_tri a b with g | g | g
      · exact .inl (List.cons_lt_cons_iff.mpr (.inr ⟨rfl, g⟩))
      · exact .inr (.inl (by rw [g]))
      · exact .inr (.inr (List.cons_lt_cons_iff.mpr (.inr ⟨rfl, g⟩)))
    · exact .inr (.inr (List.cons_lt_cons_iff.mpr (.inl h)))
theorem lt_tr : ∀ a b c : List Nat, a < b → b < c → a < c := fun _ _ _ h g => List.lt_trans h g
theorem rising_pw : ∀ (p : Str) (l : List Str), risingS p l = true → (p :: l).Nodup → (p :: l).Pairwise (fun a b : Str => a.cps.toList < b.cps.toList)
  | p, [], _, _ => List.pairwise_singleton _ _
  | p, x :: r, h, nd => by
    have h : (!ltCps x.cps.toList p.cps.toList && risingS x r) = true := h
    rw [Bool.and_eq_true] at h
    obtain ⟨h1, h2⟩ := h
    rw [ltCps_eq] at h1
    have nd2 := List.nodup_cons.mp nd
    have ih := rising_pw x r h2 nd2.2
    have px : p.cps.toList < x.cps.toList := by
      rcases lt_tri p.cps.toList x.cps.toList with g | g | g
      · exact g
      · exact absurd (by rw [ext_tl g]; exact List.mem_cons_self) nd2.1
      · rw [decide_eq_true g] at h1
        cases h1
    refine List.pairwise_cons.mpr ⟨fun y hy => ?_, ih⟩
    rcases List.mem_cons.mp hy with e | e
    · rw [e]
      exact px
    · exact lt_tr _ _ _ px ((List.pairwise_cons.mp ih).1 y e)
theorem sorted_pw {l : List Str} (h : sortedS l = true) (nd : l.Nodup) : l.Pairwise (fun a b : Str => a.cps.toList < b.cps.toList) := by
  cases l with
  | nil => exact .nil
  | cons p r => exact rising_pw p r h nd
theorem cut_take (xs : List V) (d : Nat) : cutV xs none (some (d : Int)) = xs.take d := by
  show (xs.drop (HT.sIx xs.length 0 none)).take (HT.sIx xs.length xs.length (some (d : Int)) - HT.sIx xs.length 0 none) = xs.take d
  rw [HT.sIx_none, HT.sIx_nat, List.drop_zero, Nat.sub_zero]
  by_cases h : d ≤ xs.length
  · rw [Nat.min_eq_left h]
  · rw [Nat.min_eq_right (by omega), List.take_of_length_le (Nat.le_refl _), List.take_of_length_le (by omega)]
section
variable {P : Program} {w : World} {K : PySem.W.Frag} {mg : Str → Option Value} {base : Heap} {fD fP fPa fFr fMx fTe fLo : Addr} {fdD fdP fdPa fdFr fdMx fdTe fdLo : FuncData}
end
end R3

set_option maxHeartbeats 3900000
namespace R3
open PySem PySem.Spec PyProof.Rows L2 TL
open C8 (pss_cut tCut pe_gc)
open CB
/-! what a world has to have, told by membership -/
def TxtOf : Lk × An → List Str → Prop
  | (.rd _, .no), _ => False
  | (.rd q, _), p => p = q
  | (.ls q, .es l), p => ∃ n, (n, false) ∈ l ∧ p = q ++ [n]
  | _, _ => False
def DirOf : Lk × An → List Str → Prop
  | (.ls q, .es l), p => p = q ∨ ∃ n, (n, true) ∈ l ∧ p = q ++ [n]
  | _, _ => False
def TM (ss : List (Lk × An)) (fi : List (List Str)) (p : List Str) : Prop := p ∈ fi ∨ ∃ s ∈ ss, TxtOf s p
def D0M (ss : List (Lk × An)) (fo : List (List Str)) (p : List Str) : Prop := p = [] ∨ p ∈ fo ∨ ∃ s ∈ ss, DirOf s p
def DM (ss : List (Lk × An)) (fi fo : List (List Str)) (p : List Str) : Prop := D0M ss fo p ∨ (p ≠ [] ∧ ∃ r, (TM ss fi r ∨ D0M ss fo r) ∧ ben r p = true)
def pV (p : List Str) : V := .str (js p)
def pkey (p : List Str) : L2.Key := Sum.inr (js p)
def KA (kvs : List (L2.Key × V)) (B : Nat) (T : List Str → Prop) : Prop := (∀ kv ∈ kvs, ∃ p, kv.1 = pkey p ∧ Nms p ∧ p.length ≤ B) ∧ ∀ p, Nms p → ((valV kvs (pkey p)).isSome = true ↔ T p)
def DA (xs : List (List Str)) (B : Nat) (D : List Str → Prop) : Prop := (∀ p ∈ xs, Nms p ∧ p.length ≤ B) ∧ ∀ p, p ∈ xs ↔ D p
theorem pkey_inj {p q : List Str} (hp : Nms p) (hq : Nms q) : pkey p = pkey q ↔ p = q := ⟨fun e => js_inj hp hq (Sum.inr.inj e), fun e => by rw [e]⟩
theorem KA.iff {kvs : List (L2.Key × V)} {B : Nat} {T T' : List Str → Prop} (h : KA kvs B T) (e : ∀ p, Nms p → (T p ↔ T' p)) : KA kvs B T' := ⟨h.1, fun p hp => (h.2 p hp).trans (e p hp)⟩
theorem KA.put {kvs : List (L2.Key × V)} {B : Nat} {T : List Str → Prop} (h : KA kvs B T) {p : List Str} (hp : Nms p) (hl : p.length ≤ B) (v : V) : KA (putK kvs (pkey p) v) B (fun x => T x ∨ x = p) := by
  refine ⟨fun kv hkv => ?_, fun x hx => ?_⟩
  · unfold putK at hkv
    by_cases a : (kvs.any fun kv => decide (kv.1 = pkey p)) = true
    · rw [if_pos a] at hkv
      obtain ⟨kv', h1, rfl⟩ := List.mem_map.mp hkv
      by_cases e : kv'.1 = pkey p
      · rw [if_pos e]
        exact h.1 kv' h1
      · rw [if_neg e]
        exact h.1 kv' h1
    · rw [if_neg a] at hkv
      rcases List.mem_append.mp hkv with g | g
      · exact h.1 kv g
      · rw [List.mem_singleton.mp g]
        exact ⟨p, rfl, hp, hl⟩
  · rw [valV_put]
    by_cases e : x = p
    · subst e
      rw [if_pos rfl]
      exact ⟨fun _ => .inr rfl, fun _ => rfl⟩
    · rw [if_neg fun z => e ((pkey_inj hx hp).mp z), h.2 x hx]
      exact ⟨.inl, fun z => z.resolve_right e⟩
theorem KA.keys : ∀ {kvs : List (L2.Key × V)} {B : Nat}, (∀ kv ∈ kvs, ∃ p, kv.1 = pkey p ∧ Nms p ∧ p.length ≤ B) → ∃ tp : List (List Str), (kvs.map fun kv => kV kv.1) = tp.map pV ∧ tp.length = kvs.length ∧ (∀ p ∈ tp, Nms p ∧ p.length ≤ B) ∧ ∀ p, p ∈ tp → (valV kvs (pkey p)).isSome = true
  | [], _, _ => ⟨[], rfl, rfl, by simp, by simp⟩
  | kv :: r, B, h => by
    obtain ⟨tp, h1, h2, h3, h4⟩ := KA.keys (kvs := r) (B := B) fun x hx => h x (List.mem_cons_of_mem _ hx)
    obtain ⟨p, e, hp, hl⟩ := h kv List.mem_cons_self
    refine ⟨p :: tp, ?_, by rw [List.length_cons, List.length_cons, h2], ?_, ?_⟩
    · rw [List.map_cons, List.map_cons, h1, e]
      rfl
    · intro x hx
      rcases List.mem_cons.mp hx with g | g
      · rw [g]
        exact ⟨hp, hl⟩
      · exact h3 x g
    · intro x hx
      by_cases q : kv.1 = pkey x
      · rw [valV_pos q]
        rfl
      · rw [valV_neg q]
        rcases List.mem_cons.mp hx with g | g
        · exact absurd (by rw [e, g]) q
        · exact h4 x g
theorem KA.has : ∀ {kvs : List (L2.Key × V)} {tp : List (List Str)} {p : List Str}, (kvs.map fun kv => kV kv.1) = tp.map pV → (valV kvs (pkey p)).isSome = true → (∀ x ∈ tp, Nms x) → Nms p → p ∈ tp
  | [], _, _, _, h, _, _ => by cases h
  | kv :: r, [], _, e, _, _, _ => by cases e
  | kv :: r, x :: tp, p, e, h, n, hp => by
    simp only [List.map_cons, List.cons.injEq] at e
    by_cases q : kv.1 = pkey p
    · rw [q] at e
      have e1 : V.str (js p) = V.str (js x) := e.1
      rw [js_inj hp (n x List.mem_cons_self) (V.str.inj e1)]
      exact List.mem_cons_self
    · rw [valV_neg q] at h
      exact List.mem_cons_of_mem _ (KA.has e.2 h (fun y hy => n y (List.mem_cons_of_mem _ hy)) hp)
theorem DA.iff {xs : List (List Str)} {B : Nat} {D D' : List Str → Prop} (h : DA xs B D) (e : ∀ p, D p ↔ D' p) : DA xs B D' := ⟨h.1, fun p => (h.2 p).trans (e p)⟩
theorem DA.app {xs ys : List (List Str)} {B : Nat} {D : List Str → Prop} (h : DA xs B D) (hy : ∀ p ∈ ys, Nms p ∧ p.length ≤ B) : DA (xs ++ ys) B (fun x => D x ∨ x ∈ ys) :=
  ⟨fun p hp => (List.mem_append.mp hp).elim (h.1 p) (hy p), fun p => by rw [List.mem_append, h.2 p]⟩
/-- the dict and the list of folders while they grow -/
def MS (H H' : Hp) (d e : Addr) (T D : List Str → Prop) (n : Nat) : Prop := Same H H' ∧ ∃ (kvs : List (L2.Key × V)) (dp : List (List Str)), H' d = some (.dK kvs) ∧ KA kvs 40 T ∧ kvs.length ≤ n ∧ H' e = some (.lst (dp.map pV)) ∧ DA dp 40 D ∧ dp.length ≤ n
theorem MS.iff {H H' : Hp} {d e : Addr} {T T' D D' : List Str → Prop} {n m : Nat} (h : MS H H' d e T D n) (t : ∀ p, Nms p → (T p ↔ T' p)) (g : ∀ p, D p ↔ D' p) (hn : n ≤ m) : MS H H' d e T' D' m := by
  obtain ⟨s, kvs, dp, h1, h2, h3, h4, h5, h6⟩ := h
  exact ⟨s, kvs, dp, h1, h2.iff t, by omega, h4, h5.iff g, by omega⟩
theorem MS.up {H H' H'' : Hp} {d e : Addr} {T D : List Str → Prop} {n : Nat} (h : MS H H' d e T D n) (s : Same H' H'') : MS H H'' d e T D n := by
  obtain ⟨s0, kvs, dp, h1, h2, h3, h4, h5, h6⟩ := h
  exact ⟨s0.trans s, kvs, dp, s _ _ h1, h2, h3, s _ _ h4, h5, h6⟩
/-- sizes: what a list of sights is to keep to -/
def Sz (s : Lk × An) : Prop := (match s.1 with | .rd p => p.length ≤ 20 | .ls p => p.length ≤ 20 | _ => True) ∧ (match s.2 with | .es l => l.length ≤ 20 | _ => True)
def spMust : Sp := fun vs H Q _ => ∃ (a b c : Addr) (ss : List (Lk × An)) (fi fo : List (List Str)), vs = [.ref a, .ref b, .ref c] ∧ SisL H a ss ∧ (∀ s ∈ ss, SiOk' s ∧ Sz s) ∧ ss.length ≤ 20 ∧ H b = some (.lst (fi.map pV)) ∧ (∀ p ∈ fi, Nms p ∧ p.length ≤ 40) ∧ fi.length ≤ 100 ∧ H c = some (.lst (fo.map pV)) ∧ (∀ p ∈ fo, Nms p ∧ p.length ≤ 40) ∧ fo.length ≤ 100 ∧
  ∀ (t d e : Addr) (kvs : List (L2.Key × V)) (dp : List (List Str)) (H' : Hp), Same H H' → H d = none → H e = none → H' t = some (.tup [.ref d, .ref e]) → H' d = some (.dK kvs) → KA kvs 40 (TM ss fi) → kvs.length ≤ 100000 → H' e = some (.lst (dp.map pV)) → DA dp 40 (DM ss fi fo) → dp.length ≤ 100000 → Q (.ref t) H'
section
variable {P : Program} {w : World} {K : PySem.W.Frag} {mg : Str → Option Value} {base : Heap}
end
end R3

set_option maxHeartbeats 3900000
namespace R3
open PySem PySem.Spec PyProof.Rows L2 TL
open C8 (pss_cut tCut pe_gc)
open CB
def EntOk (l : List (Str × Bool)) (f : List Str) (D : List Str → Prop) (p : List Str) : Prop := ∀ n r, p = f ++ n :: r → ((r ≠ [] ∨ D p) → (n, true) ∈ l) ∧ (¬ (r ≠ [] ∨ D p) → (n, false) ∈ l)
def FitE (l : List (Str × Bool)) (f : List Str) (T D : List Str → Prop) : Prop := ∀ p, Nms p → (T p ∨ D p) → EntOk l f D p
def FitS (T D : List Str → Prop) : Lk × An → Prop
  | (.rd q, .no) => ¬ T q
  | (.ls q, .no) => ¬ D q
  | (.ls q, .es l) => FitE l q T D
  | _ => True
def FitsP (ss : List (Lk × An)) (fi fo : List (List Str)) : Prop := (∀ s ∈ ss, ∀ s' ∈ ss, s.1 = s'.1 → s.2 = s'.2) ∧ (∀ p, Nms p → TM ss fi p → ¬ DM ss fi fo p) ∧ ∀ s ∈ ss, FitS (TM ss fi) (DM ss fi fo) s
def spEntries : Sp := fun vs H Q _ => ∃ (g d e : Addr) (l : List (Str × Bool)) (f : List Str) (kvs : List (L2.Key × V)) (dp : List (List Str)) (T D : List Str → Prop), vs = [.ref g, .str (js f), .ref d, .ref e] ∧ H g = some (.tup (l.map entV)) ∧ (∀ x ∈ l, IsNm x.1) ∧ Nms f ∧ f.length ≤ 40 ∧ H d = some (.dK kvs) ∧ KA kvs 40 T ∧ kvs.length ≤ 100000 ∧ H e = some (.lst (dp.map pV)) ∧ DA dp 40 D ∧ dp.length ≤ 100000 ∧
  ∀ b H', Same H H' → (b = true ↔ FitE l f T D) → Q (.bl b) H'
def spFits : Sp := fun vs H Q _ => ∃ (a b c : Addr) (ss : List (Lk × An)) (fi fo : List (List Str)), vs = [.ref a, .ref b, .ref c] ∧ SisL H a ss ∧ (∀ s ∈ ss, SiOk' s ∧ Sz s) ∧ ss.length ≤ 20 ∧ H b = some (.lst (fi.map pV)) ∧ (∀ p ∈ fi, Nms p ∧ p.length ≤ 40) ∧ fi.length ≤ 100 ∧ H c = some (.lst (fo.map pV)) ∧ (∀ p ∈ fo, Nms p ∧ p.length ≤ 40) ∧ fo.length ≤ 100 ∧
  ∀ r H', Same H H' → (r = true ↔ FitsP ss fi fo) → Q (.bl r) H'
theorem in_paths {p : List Str} (hp : Nms p) : ∀ {xs : List (List Str)}, (∀ x ∈ xs, Nms x) → inV (.str (js p)) (xs.map pV) = decide (p ∈ xs) := fun {xs} h => by
  have e : xs.map pV = (xs.map js).map V.str := by
    rw [List.map_map]
    rfl
  rw [e, inV_strs, decide_eq_decide, List.mem_map]
  exact ⟨fun ⟨x, hx, q⟩ => by rw [← js_inj (h x hx) hp q]; exact hx, fun q => ⟨p, q, rfl⟩⟩
theorem flat_paths (xs : List (List Str)) : (xs.map pV).all flatV = true := by
  rw [List.all_map, List.all_eq_true]
  intro x _
  rfl
section
variable {P : Program} {w : World} {K : PySem.W.Frag} {mg : Str → Option Value} {base : Heap}
def lkey (k : Lk) : List L2.Key := (lkS k).map Sum.inr
theorem lkey_V (k : Lk) : (lkey k).map kV = lkV k := by
  rw [lkV_S]
  unfold lkey
  rw [List.map_map]
  rfl
theorem lkey_inj {k k' : Lk} (h : LkW k) (h' : LkW k') : lkey k = lkey k' ↔ k = k' := by
  refine ⟨fun e => lkS_inj h h' ?_, fun e => by rw [e]⟩
  unfold lkey at e
  have : ∀ {l m : List Str}, l.map (Sum.inr : Str → L2.Key) = m.map Sum.inr → l = m := by
    intro l
    induction l with
    | nil =>
      intro m h
      cases m with
      | nil => rfl
      | cons _ _ => cases h
    | cons x r ih =>
      intro m h
      cases m with
      | nil => cases h
      | cons y t =>
        simp only [List.map_cons, List.cons.injEq] at h
        rw [Sum.inr.inj h.1, ih h.2]
  exact this e
theorem anAt_inj {H : Hp} {v : V} {a a' : An} (h : AnAt H v a) (h' : AnAt H v a') (w : AnW a) (w' : AnW a') : a = a' := by
  cases a with
  | no =>
    cases (show v = .non from h)
    cases a' with
    | no => rfl
    | tx z => cases (show V.non = .str z from h')
    | es l =>
      obtain ⟨_, e, _⟩ := h'
      cases e
  | tx z =>
    cases (show v = .str z from h)
    cases a' with
    | no => cases (show V.str z = .non from h')
    | tx z' =>
      cases (show V.str z = .str z' from h')
      rfl
    | es l =>
      obtain ⟨_, e, _⟩ := h'
      cases e
  | es l =>
    obtain ⟨b, rfl, hb⟩ := h
    cases a' with
    | no => cases (show V.ref b = .non from h')
    | tx z' => cases (show V.ref b = .str z' from h')
    | es l' =>
      obtain ⟨b', e, hb'⟩ := h'
      cases e
      rw [hb] at hb'
      have e2 : l.map entV = l'.map entV := HO.tup.inj (Option.some.inj hb')
      have e3 : (l.map fun e => ent e.1 e.2) = l'.map fun e => ent e.1 e.2 := by
        have : ∀ {x y : List (Str × Bool)}, x.map entV = y.map entV → (x.map fun e => ent e.1 e.2) = y.map fun e => ent e.1 e.2 := by
          intro x
          induction x with
          | nil =>
            intro y h
            cases y with
            | nil => rfl
            | cons _ _ => cases h
          | cons a r ih =>
            intro y h
            cases y with
            | nil => cases h
            | cons c t =>
              simp only [List.map_cons, List.cons.injEq] at h ⊢
              exact ⟨V.str.inj h.1, ih h.2⟩
        exact this e2
      rw [ents_inj w.1 w'.1 e3]
end
end R3

set_option maxHeartbeats 3900000
namespace R3
open PySem PySem.Spec PyProof.Rows L2 TL
open CB
theorem ent_uniq {l : List (Str × Bool)} (h : Ents l) {n : Str} (a : (n, true) ∈ l) (b : (n, false) ∈ l) : False := by
  obtain ⟨i, hi, ei⟩ := List.getElem_of_mem a
  obtain ⟨j, hj, ej⟩ := List.getElem_of_mem b
  have irr : ∀ x : List Nat, ¬ x < x := fun x hx => List.lt_irrefl x hx
  have pw := List.pairwise_iff_getElem.mp h.2.1
  have key : ∀ (i j : Nat) (hi : i < l.length) (hj : j < l.length), i < j → l[i].1 = n → l[j].1 = n → False := fun i j hi hj hij e1 e2 => by
    have := pw i j (by rw [List.length_map]; exact hi) (by rw [List.length_map]; exact hj) hij
    rw [List.getElem_map, List.getElem_map, e1, e2] at this
    exact irr _ this
  rcases Nat.lt_trichotomy i j with q | q | q
  · exact key i j hi hj q (by rw [ei]) (by rw [ej])
  · subst q
    rw [ei] at ej
    cases ej
  · exact key j i hj hi q (by rw [ej]) (by rw [ei])
/-! the mathematics of k07: what bars is what does not fit -/
theorem ben_irr (q : List Str) : ben q q = false := by
  cases e : ben q q with
  | false => rfl
  | true =>
    obtain ⟨r, hr, h⟩ := ben_iff.mp e
    have := congrArg List.length h
    have h2 := List.length_pos_iff.mpr hr
    rw [List.length_append] at this
    omega
theorem ben_len {p q : List Str} (h : ben p q = true) : q.length < p.length := by
  unfold ben at h
  rw [Bool.and_eq_true] at h
  exact of_decide_eq_true h.2
theorem ben_tr {p q r : List Str} (h : ben p q = true) (g : ben q r = true) : ben p r = true := by
  obtain ⟨a, ha, rfl⟩ := ben_iff.mp h
  obtain ⟨b, hb, rfl⟩ := ben_iff.mp g
  exact ben_iff.mpr ⟨b ++ a, by simp [hb], by simp⟩
theorem ben_nil {p : List Str} : ben [] p = false := by
  cases e : ben [] p with
  | false => rfl
  | true => exact absurd (ben_len e) (by simp)
theorem ben_cons (q : List Str) (n : Str) (r : List Str) : ben (q ++ n :: r) q = true := ben_iff.mpr ⟨n :: r, by simp, rfl⟩
theorem ben_dest {p q : List Str} (h : ben p q = true) : ∃ n r, p = q ++ n :: r := by
  obtain ⟨t, ht, rfl⟩ := ben_iff.mp h
  cases t with
  | nil => exact absurd rfl ht
  | cons n r => exact ⟨n, r, rfl⟩
theorem lostP_in (q : List Str) (l : List (Str × Bool)) (w : Bool) (n : Str) (r : List Str) : lostP q l w (q ++ n :: r) = (if (n, true) ∈ l then w && decide (r = []) else if (n, false) ∈ l then !w || !decide (r = []) else true) := by
  unfold lostP
  rw [if_pos (ben_cons q n r), List.drop_left]
theorem lostP_out {q : List Str} {l : List (Str × Bool)} {w : Bool} {p : List Str} (h : ben p q = false) : lostP q l w p = (w && (decide (q = p) || ben q p)) := by
  unfold lostP
  rw [if_neg (by rw [h]; simp)]
/-- what a sight needs: files, folders -/
def Ds (s : Lk × An) (p : List Str) : Prop := (p = [] ∨ DirOf s p) ∨ (p ≠ [] ∧ ∃ r, (TxtOf s r ∨ (r = [] ∨ DirOf s r)) ∧ ben r p = true)
theorem tm_two (s s' : Lk × An) (p : List Str) : TM [s, s'] [] p ↔ TxtOf s p ∨ TxtOf s' p := by
  unfold TM
  simp
theorem dm_two (s s' : Lk × An) (p : List Str) : DM [s, s'] [] [] p ↔ Ds s p ∨ Ds s' p := by
  unfold DM Ds D0M TM
  simp only [List.mem_cons, List.not_mem_nil, or_false, false_or, exists_eq_or_imp, exists_eq_left]
  constructor
  · rintro ((h | h | h) | ⟨hp, r, (h | h) | (h | h | h), g⟩)
    · exact .inl (.inl (.inl h))
    · exact .inl (.inl (.inr h))
    · exact .inr (.inl (.inr h))
    · exact .inl (.inr ⟨hp, r, .inl h, g⟩)
    · exact .inr (.inr ⟨hp, r, .inl h, g⟩)
    · exact .inl (.inr ⟨hp, r, .inr (.inl h), g⟩)
    · exact .inl (.inr ⟨hp, r, .inr (.inr h), g⟩)
    · exact .inr (.inr ⟨hp, r, .inr (.inr h), g⟩)
  · rintro (((h | h) | ⟨hp, r, h | (h | h), g⟩) | ((h | h) | ⟨hp, r, h | (h | h), g⟩))
    · exact .inl (.inl h)
    · exact .inl (.inr (.inl h))
    · exact .inr ⟨hp, r, .inl (.inl h), g⟩
    · exact .inr ⟨hp, r, .inr (.inl h), g⟩
    · exact .inr ⟨hp, r, .inr (.inr (.inl h)), g⟩
    · exact .inl (.inl h)
    · exact .inl (.inr (.inr h))
    · exact .inr ⟨hp, r, .inl (.inr h), g⟩
    · exact .inr ⟨hp, r, .inr (.inl h), g⟩
    · exact .inr ⟨hp, r, .inr (.inr (.inr h)), g⟩
def ff (s : Lk × An) (p : List Str) : Bool := decide (s = (.rd p, .no)) || follL s (.rd p)
def fd (s : Lk × An) (p : List Str) : Bool := decide (s = (.ls p, .no)) || follL s (.ls p)
theorem foll_rd (s : Lk × An) (p : List Str) : follM s (.rd p, .no) = ff s p := rfl
theorem foll_ls (s : Lk × An) (p : List Str) : follM s (.ls p, .no) = fd s p := rfl
theorem ff_A (q p : List Str) : ff (.rd q, .no) p = decide (q = p) := by
  unfold ff
  simp [follL]
theorem fd_A (q p : List Str) : fd (.rd q, .no) p = false := by
  unfold fd
  simp [follL]
theorem ff_B (q p : List Str) (z : Str) : ff (.rd q, .tx z) p = (ben p q || ben q p) := by
  unfold ff
  simp [follL, lostF]
theorem fd_B (q p : List Str) (z : Str) : fd (.rd q, .tx z) p = (decide (p = q) || ben p q) := by
  unfold fd
  simp [follL, lostF]
theorem ff_C (q p : List Str) : ff (.ls q, .no) p = ben p q := by
  unfold ff
  simp [follL]
theorem fd_C (q p : List Str) : fd (.ls q, .no) p = (decide (q = p) || ben p q) := by
  unfold fd
  simp [follL]
theorem ff_D (q p : List Str) (l : List (Str × Bool)) : ff (.ls q, .es l) p = lostP q l true p := by
  unfold ff
  simp [follL, lostN]
theorem fd_D (q p : List Str) (l : List (Str × Bool)) : fd (.ls q, .es l) p = lostP q l false p := by
  unfold fd
  simp [follL, lostN]
/-- the shapes of sights -/
inductive Shape : Lk × An → Prop
  | A (q) (h : q ≠ []) (n : Nms q) : Shape (.rd q, .no)
  | B (q z) (h : q ≠ []) (n : Nms q) : Shape (.rd q, .tx z)
  | C (q) (h : q ≠ []) (n : Nms q) : Shape (.ls q, .no)
  | D (q l) (h : Ents l) (g : l ≠ [] ∨ q = []) (n : Nms q) : Shape (.ls q, .es l)
  | N (k a) (h : (∃ n, k = .se n) ∨ k = .tl) : Shape (k, a)
theorem shape_of {s : Lk × An} (h : SiOk s) : Shape s := by
  obtain ⟨k, a⟩ := s
  obtain ⟨h1, h2⟩ := h
  cases k with
  | rd q =>
    cases a with
    | no => exact .A q h1.1 h1.2.1
    | tx z => exact .B q z h1.1 h1.2.1
    | es l => exact h2.elim
  | ls q =>
    cases a with
    | no => exact .C q h2 h1.1
    | tx z => exact h2.elim
    | es l => exact .D q l h2.1 h2.2 h1.1
  | se n => exact .N _ _ (.inl ⟨n, rfl⟩)
  | tl => exact .N _ _ (.inr rfl)
theorem ff_N {k : Lk} {a : An} (h : (∃ n, k = .se n) ∨ k = .tl) (p : List Str) : ff (k, a) p = false ∧ fd (k, a) p = false := by
  rcases h with ⟨n, rfl⟩ | rfl <;> (unfold ff fd; simp [follL])
theorem need_N {k : Lk} {a : An} (h : (∃ n, k = .se n) ∨ k = .tl) (p : List Str) : ¬ TxtOf (k, a) p ∧ ¬ DirOf (k, a) p := by
  rcases h with ⟨n, rfl⟩ | rfl <;> exact ⟨fun h => h, fun h => h⟩
theorem nm_app1 {q : List Str} {n : Str} (hq : Nms q) (hn : IsNm n) : Nms (q ++ [n]) := fun y hy => by
  rcases List.mem_append.mp hy with h | h
  · exact hq y h
  · rw [List.mem_singleton.mp h]
    exact hn
theorem txt_nm {s : Lk × An} (h : Shape s) {p : List Str} (t : TxtOf s p) : Nms p ∧ p ≠ [] := by
  cases h with
  | A q h n => exact t.elim
  | B q z h n =>
    have e : p = q := t
    rw [e]
    exact ⟨n, h⟩
  | C q h n => exact t.elim
  | D q l h g n =>
    obtain ⟨m, hm, rfl⟩ := t
    exact ⟨nm_app1 n (h.1 _ hm), by simp⟩
  | N k a h => exact ((need_N h p).1 t).elim
theorem dir_nm {s : Lk × An} (h : Shape s) {p : List Str} (t : DirOf s p) : Nms p := by
  cases h with
  | A q h n => exact t.elim
  | B q z h n => exact t.elim
  | C q h n => exact t.elim
  | D q l h g n =>
    rcases t with rfl | ⟨m, hm, rfl⟩
    · exact n
    · exact nm_app1 n (h.1 _ hm)
  | N k a h => exact ((need_N h p).2 t).elim
theorem nms_ben {p q : List Str} (h : ben p q = true) (n : Nms p) : Nms q := by
  obtain ⟨r, _, rfl⟩ := ben_iff.mp h
  exact fun y hy => n y (List.mem_append_left _ hy)
theorem ds_nm {s : Lk × An} (h : Shape s) {p : List Str} (t : Ds s p) : Nms p := by
  rcases t with (rfl | t) | ⟨_, r, t | rfl | t, g⟩
  · exact fun y hy => absurd hy (by simp)
  · exact dir_nm h t
  · exact nms_ben g (txt_nm h t).1
  · exact absurd (ben_len g) (by simp)
  · exact nms_ben g (dir_nm h t)
theorem ds_up {s : Lk × An} {p q : List Str} (h : Ds s p ∨ TxtOf s p) (b : ben p q = true) (hq : q ≠ []) : Ds s q := by
  rcases h with ((rfl | t) | ⟨_, r, t, g⟩) | t
  · rw [ben_nil] at b
    cases b
  · exact .inr ⟨hq, p, .inr (.inr t), b⟩
  · exact .inr ⟨hq, r, t, ben_tr g b⟩
  · exact .inr ⟨hq, p, .inl t, b⟩
/-- what is lost below is lost above -/
theorem fd_down {s : Lk × An} {p p' : List Str} (h : fd s p = true) (b : ben p' p = true) (hs : Shape s) : ff s p' = true ∧ fd s p' = true := by
  cases hs with
  | A q g n =>
    rw [fd_A] at h
    cases h
  | B q z g n =>
    rw [fd_B, Bool.or_eq_true, decide_eq_true_iff] at h
    have hb : ben p' q = true := by
      rcases h with rfl | h
      · exact b
      · exact ben_tr b h
    rw [ff_B, fd_B, hb]
    simp
  | C q g n =>
    rw [fd_C, Bool.or_eq_true, decide_eq_true_iff] at h
    have hb : ben p' q = true := by
      rcases h with rfl | h
      · exact b
      · exact ben_tr b h
    rw [ff_C, fd_C, hb]
    simp
  | D q l g g2 n =>
    rw [fd_D] at h
    cases e : ben p q with
    | false =>
      rw [lostP_out e] at h
      cases h
    | true =>
      obtain ⟨m, r, rfl⟩ := ben_dest e
      obtain ⟨x, hx, rfl⟩ := ben_iff.mp b
      rw [lostP_in] at h
      rw [ff_D, fd_D, List.append_assoc, List.cons_append, lostP_in, lostP_in]
      by_cases h1 : (m, true) ∈ l
      · rw [if_pos h1] at h
        cases h
      · rw [if_neg h1, if_neg h1]
        by_cases h2 : (m, false) ∈ l
        · simp [h2, hx]
        · simp [h2]
  | N k a g =>
    rw [(ff_N g p).2] at h
    cases h
theorem fd_root {s : Lk × An} (hs : Shape s) : fd s [] = false := by
  cases hs with
  | A q g n => exact fd_A q []
  | B q z g n =>
    rw [fd_B, ben_nil]
    simpa using g
  | C q g n =>
    rw [fd_C, ben_nil]
    simpa using g
  | D q l g g2 n =>
    rw [fd_D, lostP_out ben_nil]
    rfl
  | N k a g => exact (ff_N g []).2
/-- what a sight needs as a file it rules out as a folder -/
theorem txt_fd {s : Lk × An} (hs : Shape s) {p : List Str} (t : TxtOf s p) : fd s p = true := by
  cases hs with
  | A q g n => exact t.elim
  | B q z g n =>
    have e : p = q := t
    rw [fd_B, e]
    simp
  | C q g n => exact t.elim
  | D q l g g2 n =>
    obtain ⟨m, hm, rfl⟩ := t
    rw [fd_D, lostP_in, if_neg (fun a => ent_uniq g a hm), if_pos hm]
    rfl
  | N k a g => exact ((need_N g p).1 t).elim
theorem self1 {s : Lk × An} (hs : Shape s) {p : List Str} (t : TxtOf s p) : ¬ Ds s p := by
  intro d
  have hne := (txt_nm hs t).2
  cases hs with
  | A q g n => exact t.elim
  | B q z g n =>
    have e : p = q := t
    subst e
    rcases d with (d | d) | ⟨_, r, d | rfl | d, b⟩
    · exact hne d
    · exact d.elim
    · have e : r = p := d
      rw [e, ben_irr] at b
      cases b
    · rw [ben_nil] at b
      cases b
    · exact d.elim
  | C q g n => exact t.elim
  | D q l g g2 n =>
    obtain ⟨m, hm, rfl⟩ := t
    rcases d with (d | d) | ⟨_, r, d | rfl | d, b⟩
    · exact hne d
    · rcases d with d | ⟨k, hk, e⟩
      · have := congrArg List.length d
        simp at this
      · have := List.append_cancel_left e
        cases this
        exact ent_uniq g hk hm
    · obtain ⟨k, hk, rfl⟩ := d
      have := ben_len b
      simp at this
    · rw [ben_nil] at b
      cases b
    · rcases d with rfl | ⟨k, hk, rfl⟩
      · have := ben_len b
        simp at this
        omega
      · have := ben_len b
        simp at this
  | N k a g => exact ((need_N g p).1 t).elim
/-- what a sight of names needs itself stands among its names -/
theorem self2 {q : List Str} {l : List (Str × Bool)} {n : Str} {r : List Str} : (TxtOf (.ls q, .es l) (q ++ n :: r) → r = [] ∧ (n, false) ∈ l) ∧ (Ds (.ls q, .es l) (q ++ n :: r) → r = [] ∧ (n, true) ∈ l) := by
  have lem : ∀ {k : Str}, q ++ n :: r = q ++ [k] → r = [] ∧ n = k := fun e => by
    have := List.append_cancel_left e
    cases this
    exact ⟨rfl, rfl⟩
  have lim : ∀ {x : List Str}, x.length ≤ q.length + 1 → ben x (q ++ n :: r) = true → False := fun hx b => by
    have := ben_len b
    simp at this
    omega
  constructor
  · rintro ⟨k, hk, e⟩
    obtain ⟨e1, rfl⟩ := lem e
    exact ⟨e1, hk⟩
  · rintro ((d | d) | ⟨_, x, d | rfl | d, b⟩)
    · simp at d
    · rcases d with d | ⟨k, hk, e⟩
      · have := congrArg List.length d
        simp at this
      · obtain ⟨e1, rfl⟩ := lem e
        exact ⟨e1, hk⟩
    · obtain ⟨k, hk, rfl⟩ := d
      exact (lim (by simp) b).elim
    · rw [ben_nil] at b
      cases b
    · rcases d with rfl | ⟨k, hk, rfl⟩
      · exact (lim (by simp) b).elim
      · exact (lim (by simp) b).elim
def Cross (s s' : Lk × An) : Prop := (∀ p, TxtOf s' p → ff s p = false) ∧ ∀ p, Ds s' p → fd s p = false
/-- each need of the one against the other -/
theorem cross_con {s s' : Lk × An} (hs : Shape s) (hs' : Shape s') : denM s (con s') = false ↔ Cross s s' := by
  unfold denM
  rw [List.any_eq_false]
  constructor
  · intro h
    have h1 : ∀ p, TxtOf s' p → ff s p = false := by
      intro p t
      cases hs' with
      | A q g n => exact t.elim
      | B q z g n =>
        have e : p = q := t
        have := h (.rd q, .no) (List.mem_singleton.mpr rfl)
        rw [foll_rd] at this
        rw [e]
        simpa using this
      | C q g n => exact t.elim
      | D q l g g2 n =>
        obtain ⟨m, hm, rfl⟩ := t
        have := h (conE q (m, false)) (List.mem_map.mpr ⟨_, hm, rfl⟩)
        have e : conE q (m, false) = (.rd (q ++ [m]), .no) := rfl
        rw [e, foll_rd] at this
        simpa using this
      | N k a g => exact ((need_N g p).1 t).elim
    have h2 : ∀ p, DirOf s' p → fd s p = false := by
      intro p t
      cases hs' with
      | A q g n => exact t.elim
      | B q z g n => exact t.elim
      | C q g n => exact t.elim
      | D q l g g2 n =>
        have hd : ∀ m, (m, true) ∈ l → fd s (q ++ [m]) = false := fun m hm => by
          have := h (conE q (m, true)) (List.mem_map.mpr ⟨_, hm, rfl⟩)
          have e : conE q (m, true) = (.ls (q ++ [m]), .no) := rfl
          rw [e, foll_ls] at this
          simpa using this
        rcases t with rfl | ⟨m, hm, rfl⟩
        · rcases g2 with g2 | rfl
          · cases l with
            | nil => exact absurd rfl g2
            | cons e l' =>
              cases ef : fd s p with
              | false => rfl
              | true =>
                obtain ⟨m, b⟩ := e
                obtain ⟨f1, f2⟩ := fd_down ef (ben_cons p m []) hs
                cases b with
                | true =>
                  rw [hd m (List.mem_cons_self ..)] at f2
                  cases f2
                | false =>
                  rw [h1 (p ++ [m]) ⟨m, List.mem_cons_self .., rfl⟩] at f1
                  cases f1
          · exact fd_root hs
        · exact hd m hm
      | N k a g => exact ((need_N g p).2 t).elim
    refine ⟨h1, ?_⟩
    rintro p ((rfl | d) | ⟨hp, r, d | rfl | d, b⟩)
    · exact fd_root hs
    · exact h2 p d
    · cases ef : fd s p with
      | false => rfl
      | true =>
        have := (fd_down ef b hs).1
        rw [h1 r d] at this
        cases this
    · rw [ben_nil] at b
      cases b
    · cases ef : fd s p with
      | false => rfl
      | true =>
        have := (fd_down ef b hs).2
        rw [h2 r d] at this
        cases this
  · rintro ⟨h1, h2⟩ x hx
    cases hs' with
    | A q g n => exact absurd hx (by simp [con])
    | B q z g n =>
      rw [List.mem_singleton.mp hx, foll_rd, h1 q rfl]
      simp
    | C q g n => exact absurd hx (by simp [con])
    | D q l g g2 n =>
      obtain ⟨⟨m, b⟩, hm, rfl⟩ := List.mem_map.mp hx
      cases b with
      | true =>
        have e : conE q (m, true) = (.ls (q ++ [m]), .no) := rfl
        rw [e, foll_ls, h2 _ (.inl (.inr (.inr ⟨m, hm, rfl⟩)))]
        simp
      | false =>
        have e : conE q (m, false) = (.rd (q ++ [m]), .no) := rfl
        rw [e, foll_rd, h1 _ ⟨m, hm, rfl⟩]
        simp
    | N k a g =>
      rcases g with ⟨n, rfl⟩ | rfl <;> exact absurd hx (by simp [con])
theorem fits_cross {s s' : Lk × An} {T D : List Str → Prop} (hs : Shape s) (hs' : Shape s')
    (hT : ∀ p, T p ↔ TxtOf s p ∨ TxtOf s' p) (hD : ∀ p, D p ↔ Ds s p ∨ Ds s' p)
    (dis : ∀ p, Nms p → T p → ¬ D p) (fit : FitS T D s) : Cross s s' := by
  have up : ∀ {p q : List Str}, D p ∨ T p → ben p q = true → q ≠ [] → D q := by
    intro p q h b hq
    rcases h with h | h
    · rcases (hD p).mp h with h | h
      · exact (hD q).mpr (.inl (ds_up (.inl h) b hq))
      · exact (hD q).mpr (.inr (ds_up (.inl h) b hq))
    · rcases (hT p).mp h with h | h
      · exact (hD q).mpr (.inl (ds_up (.inr h) b hq))
      · exact (hD q).mpr (.inr (ds_up (.inr h) b hq))
  constructor
  · intro p t
    have tp : T p := (hT p).mpr (.inr t)
    obtain ⟨np, pe⟩ := txt_nm hs' t
    cases e : ff s p with
    | false => rfl
    | true =>
      exfalso
      cases hs with
      | A q g n =>
        rw [ff_A] at e
        exact fit (of_decide_eq_true e ▸ tp)
      | B q z g n =>
        have tq : T q := (hT q).mpr (.inl rfl)
        rw [ff_B, Bool.or_eq_true] at e
        rcases e with e | e
        · exact dis q n tq (up (.inr tp) e g)
        · exact dis p np tp (up (.inr tq) e pe)
      | C q g n =>
        rw [ff_C] at e
        exact fit (up (.inr tp) e g)
      | D q l g g2 n =>
        rw [ff_D] at e
        cases b : ben p q with
        | true =>
          obtain ⟨m, r, rfl⟩ := ben_dest b
          rw [lostP_in] at e
          obtain ⟨f1, f2⟩ := fit _ np (.inl tp) m r rfl
          have nd := dis _ np tp
          by_cases h1 : (m, true) ∈ l
          · rw [if_pos h1, Bool.true_and, decide_eq_true_iff] at e
            subst e
            exact nd ((hD _).mpr (.inl (.inl (.inr (.inr ⟨m, h1, rfl⟩)))))
          · by_cases hr : r = []
            · subst hr
              rw [if_neg h1, if_pos (f2 (by simp [nd]))] at e
              simp at e
            · exact h1 (f1 (.inl hr))
        | false =>
          rw [lostP_out b, Bool.true_and, Bool.or_eq_true, decide_eq_true_iff] at e
          have dq : D q := (hD q).mpr (.inl (.inl (.inr (.inl rfl))))
          rcases e with rfl | e
          · exact dis q np tp dq
          · exact dis p np tp (up (.inl dq) e pe)
      | N k a g =>
        rw [(ff_N g p).1] at e
        cases e
  · intro p t
    have dp : D p := (hD p).mpr (.inr t)
    have np := ds_nm hs' t
    cases e : fd s p with
    | false => rfl
    | true =>
      exfalso
      cases hs with
      | A q g n =>
        rw [fd_A] at e
        cases e
      | B q z g n =>
        have tq : T q := (hT q).mpr (.inl rfl)
        rw [fd_B, Bool.or_eq_true, decide_eq_true_iff] at e
        rcases e with rfl | e
        · exact dis p np tq dp
        · exact dis q n tq (up (.inl dp) e g)
      | C q g n =>
        rw [fd_C, Bool.or_eq_true, decide_eq_true_iff] at e
        rcases e with rfl | e
        · exact fit dp
        · exact fit (up (.inl dp) e g)
      | D q l g g2 n =>
        rw [fd_D] at e
        cases b : ben p q with
        | true =>
          obtain ⟨m, r, rfl⟩ := ben_dest b
          rw [lostP_in] at e
          obtain ⟨f1, f2⟩ := fit _ np (.inr dp) m r rfl
          rw [if_pos (f1 (.inr dp))] at e
          cases e
        | false =>
          rw [lostP_out b] at e
          cases e
      | N k a g =>
        rw [(ff_N g p).2] at e
        cases e
theorem fit_of {s s' : Lk × An} {T D : List Str → Prop} (hs : Shape s) (hs' : Shape s')
    (hT : ∀ p, T p ↔ TxtOf s p ∨ TxtOf s' p) (hD : ∀ p, D p ↔ Ds s p ∨ Ds s' p) (c : Cross s s') (dis : ∀ p, T p → ¬ D p) : FitS T D s := by
  obtain ⟨c1, c2⟩ := c
  cases hs with
  | A q g n =>
    intro t
    rcases (hT q).mp t with t | t
    · exact t
    · have := c1 q t
      rw [ff_A] at this
      simp at this
  | B q z g n => trivial
  | C q g n =>
    intro d
    rcases (hD q).mp d with d | d
    · rcases d with (d | d) | ⟨_, r, d | rfl | d, b⟩
      · exact g d
      · exact d
      · exact d
      · rw [ben_nil] at b
        cases b
      · exact d
    · have := c2 q d
      rw [fd_C] at this
      simp at this
  | D q l g g2 n =>
    rintro p np h m r rfl
    have foll : ∀ (w : Bool), lostP q l w (q ++ m :: r) = false → ((m, true) ∈ l ∧ (w = true → r ≠ [])) ∨ ((m, true) ∉ l ∧ (m, false) ∈ l ∧ w = true ∧ r = []) := by
      intro w e
      rw [lostP_in] at e
      by_cases h1 : (m, true) ∈ l
      · rw [if_pos h1] at e
        refine .inl ⟨h1, fun hw hr => ?_⟩
        rw [hw, hr] at e
        cases e
      · rw [if_neg h1] at e
        by_cases h2 : (m, false) ∈ l
        · rw [if_pos h2, Bool.or_eq_false_iff] at e
          exact .inr ⟨h1, h2, by simpa using e.1, by simpa using e.2⟩
        · rw [if_neg h2] at e
          cases e
    have key : D (q ++ m :: r) → (m, true) ∈ l := by
      intro d
      rcases (hD _).mp d with d | d
      · exact (self2.2 d).2
      · have := c2 _ d
        rw [fd_D] at this
        rcases foll false this with h | h
        · exact h.1
        · cases h.2.2.1
    have key2 : T (q ++ m :: r) → (r = [] ∧ (m, false) ∈ l) ∨ (r ≠ [] ∧ (m, true) ∈ l) := by
      intro t
      rcases (hT _).mp t with t | t
      · exact .inl (self2.1 t)
      · have := c1 _ t
        rw [ff_D] at this
        rcases foll true this with h | h
        · exact .inr ⟨h.2 rfl, h.1⟩
        · exact .inl ⟨h.2.2.2, h.2.1⟩
    constructor
    · rintro (hr | d)
      · rcases h with t | d
        · rcases key2 t with k | k
          · exact absurd k.1 hr
          · exact k.2
        · exact key d
      · exact key d
    · intro hn
      rcases h with t | d
      · rcases key2 t with k | k
        · exact k.2
        · exact absurd (.inl k.1) hn
      · exact absurd (.inr d) hn
  | N k a g =>
    rcases g with ⟨n, rfl⟩ | rfl <;> trivial
theorem bars_fits {s s' : Lk × An} (h : SiOk s) (h' : SiOk s') : barsM s s' = true ↔ ¬ FitsP [s, s'] [] [] := by
  have hs := shape_of h
  have hs' := shape_of h'
  have hT := tm_two s s'
  have hD := dm_two s s'
  have main : Cross s s' → Cross s' s → s.1 ≠ s'.1 ∨ s = s' → FitsP [s, s'] [] [] := by
    intro c c' hk
    have dis : ∀ p, TM [s, s'] [] p → ¬ DM [s, s'] [] [] p := by
      intro p t d
      rcases (hT p).mp t with t | t <;> rcases (hD p).mp d with d | d
      · exact self1 hs t d
      · have := c.2 p d
        rw [txt_fd hs t] at this
        cases this
      · have := c'.2 p d
        rw [txt_fd hs' t] at this
        cases this
      · exact self1 hs' t d
    refine ⟨?_, fun p _ => dis p, ?_⟩
    · intro a ha b hb e
      rcases hk with hk | rfl
      · have ha' : a = s ∨ a = s' := by simpa using ha
        have hb' : b = s ∨ b = s' := by simpa using hb
        rcases ha' with ha' | ha' <;> rcases hb' with hb' | hb'
        · rw [ha', hb']
        · rw [ha', hb'] at e
          exact absurd e hk
        · rw [ha', hb'] at e
          exact absurd e.symm hk
        · rw [ha', hb']
      · have ea : a = s := by simpa using ha
        have eb : b = s := by simpa using hb
        rw [ea, eb]
    · intro a ha
      rcases List.mem_cons.mp ha with rfl | ha
      · exact fit_of hs hs' hT hD c dis
      · rw [List.mem_singleton.mp ha]
        exact fit_of hs' hs (fun p => (hT p).trans or_comm) (fun p => (hD p).trans or_comm) c' dis
  by_cases e : s.1 = s'.1
  · unfold barsM
    rw [if_pos e]
    by_cases e2 : s.2 = s'.2
    · have es : s = s' := Prod.ext e e2
      subst es
      have c : Cross s s := by
        constructor
        · intro p t
          cases q : ff s p with
          | false => rfl
          | true =>
            exfalso
            cases hs with
            | A q' g n => exact t
            | B q' z g n =>
              have e : p = q' := t
              rw [ff_B, e, ben_irr] at q
              cases q
            | C q' g n => exact t
            | D q' l g g2 n =>
              obtain ⟨m, hm, rfl⟩ := t
              rw [ff_D, lostP_in, if_neg (fun a => ent_uniq g a hm), if_pos hm] at q
              simp at q
            | N k a g => exact (need_N g p).1 t
        · intro p d
          cases q : fd s p with
          | false => rfl
          | true =>
            exfalso
            cases hs with
            | A q' g n =>
              rw [fd_A] at q
              cases q
            | B q' z g n =>
              rw [fd_B, Bool.or_eq_true, decide_eq_true_iff] at q
              have hp : p ≠ [] := by
                rcases q with rfl | q
                · exact g
                · rintro rfl
                  rw [ben_nil] at q
                  cases q
              rcases d with (d | d) | ⟨_, r, d | rfl | d, b⟩
              · exact hp d
              · exact d
              · have er : r = q' := d
                subst er
                rcases q with rfl | q
                · rw [ben_irr] at b
                  cases b
                · have := ben_tr b q
                  rw [ben_irr] at this
                  cases this
              · rw [ben_nil] at b
                cases b
              · exact d
            | C q' g n =>
              rcases d with (d | d) | ⟨_, r, d | rfl | d, b⟩
              · subst d
                rw [fd_root (.C q' g n)] at q
                cases q
              · exact d
              · exact d
              · rw [ben_nil] at b
                cases b
              · exact d
            | D q' l g g2 n =>
              rw [fd_D] at q
              cases b : ben p q' with
              | false =>
                rw [lostP_out b] at q
                cases q
              | true =>
                obtain ⟨m, r, rfl⟩ := ben_dest b
                rw [lostP_in, if_pos (self2.2 d).2] at q
                cases q
            | N k a g =>
              rw [(ff_N g p).2] at q
              cases q
      simp only [e2, decide_true, Bool.not_true, Bool.false_eq_true, false_iff, Classical.not_not]
      exact main c c (.inr rfl)
    · simp only [e2, decide_false, Bool.not_false, true_iff]
      rintro ⟨f, _⟩
      exact e2 (f s (by simp) s' (by simp) e)
  · unfold barsM
    rw [if_neg e]
    constructor
    · intro hb f
      obtain ⟨_, f2, f3⟩ := f
      have c := fits_cross hs hs' hT hD f2 (f3 s (by simp))
      have c' := fits_cross hs' hs (fun p => (hT p).trans or_comm) (fun p => (hD p).trans or_comm) f2 (f3 s' (by simp))
      rw [(cross_con hs hs').mpr c, (cross_con hs' hs).mpr c'] at hb
      cases hb
    · intro f
      cases e1 : denM s (con s') with
      | true => rfl
      | false =>
        cases e2 : denM s' (con s) with
        | true => rfl
        | false => exact (f (main ((cross_con hs hs').mp e1) ((cross_con hs' hs).mp e2) (.inl e))).elim
end R3

set_option maxHeartbeats 3900000
namespace R3
open PySem PySem.Spec PyProof.Rows L2 TL
open C8 (pss_cut tCut pe_gc)
open CB
/-! what is no look -/
inductive NoRow (H : Hp) : V → Prop
  | non : NoRow H .non
  | str (z : Str) : NoRow H (.str z)
  | int (i : Int) : NoRow H (.int i)
  | dct {a : Addr} {kvs : List (L2.Key × V)} (h : H a = some (.dK kvs)) : NoRow H (.ref a)
theorem NoRow.up {H H' : Hp} {x : V} (h : NoRow H x) (s : Same H H') : NoRow H' x := by
  cases h with
  | non => exact .non
  | str z => exact .str z
  | int i => exact .int i
  | dct h => exact .dct (s _ _ h)
def rLT2 : List V → Hp → VK → Prop := fun vs H Q => ∃ v tp, vs = [v, .ref tp] ∧ H tp = some (.tup [.ty "list", .ty "tuple"]) ∧ NoRow H v ∧ Q (.bl false) H
theorem isi_LT2 {X : Cx} : CallR X (.builtin "isinstance") rLT2 := by
  intro pins s σ H xs us Q I r h
  obtain ⟨v, tp, rfl, ht, hl, q⟩ := h
  have go : ∀ (n : String), TyX X.K H v (.type n) → PySem.W.kitAny X.K (.type n) [.type "list", .type "tuple"] = some false → wpAny (model X.prog X.w) X.A (call (.builtin "isinstance") us) (EP X pins σ Q) X.xe s := fun n t k =>
    call_isiT (X := X) pins s σ H _ us Q I r ⟨v, tp, _, .type n, [.type "list", .type "tuple"], false, rfl, ht, .cons (.ty "list") (.cons (.ty "tuple") .nil), t, k, q⟩
  cases hl with
  | non => exact go "NoneType" (.base .non) (kitLT (b := false) (c := false) (by decide +kernel) (by decide +kernel))
  | str z => exact go "str" (.base (.str z)) (kitLT (b := false) (c := false) (by decide +kernel) (by decide +kernel))
  | int i => exact go "int" (.base (.int i)) (kitLT (b := false) (c := false) (by decide +kernel) (by decide +kernel))
  | dct h => exact go "dict" (.base (.dK h)) (kitLT (b := false) (c := false) (by decide +kernel) (by decide +kernel))
/-- a text that is no path -/
def PathNo (z : Str) : Prop := ∃ ys, Txt.split z "/" = ys ∧ Sh z ∧ (∀ y ∈ ys, Sh y) ∧ ys.length < 1000000 ∧ (ys.all fun y => decide (IsNm y)) = false
inductive CanNot : Str → V → Prop
  | rd {z : Str} (h : PathNo z) : CanNot "read" (.str z)
  | ls0 : CanNot "list" .non
  | ls {z : Str} (h : PathNo z) (n : z ≠ "") : CanNot "list" (.str z)
  | se {z : Str} (h : ¬ IsNm z) (s : Sh z) : CanNot "setting" (.str z)
  | se5 (i : Int) : CanNot "setting" (.int i)
  | oth {a : Str} {b : V} (h1 : a ≠ "read") (h2 : a ≠ "list") (h3 : a ≠ "setting") : CanNot a b
inductive OddR : List V → Prop
  | zero : OddR []
  | one {z : Str} (h : z ≠ "tool") : OddR [.str z]
  | two {a : Str} {b : V} (h : CanNot a b) : OddR [.str a, b]
  | three (a b c : V) : OddR [a, b, c]
inductive OddL (H : Hp) : V → Prop
  | no {x : V} (h : NoRow H x) : OddL H x
  | row {x : V} {xs : List V} (h : RowAt H x xs) (o : OddR xs) : OddL H x
theorem OddL.up {H H' : Hp} {x : V} (h : OddL H x) (s : Same H H') : OddL H' x := by
  cases h with
  | no h => exact .no (h.up s)
  | row h o => exact .row (h.up s) o
def spRowO : Sp := fun vs H Q _ => ∃ v n, vs = [v, .int n] ∧ NoRow H v ∧ ∀ H', Same H H' → Q (.bl false) H'
def spRow2 : Sp := fun vs H Q E => spRow vs H Q E ∨ spRowO vs H Q E
def spIsNameO : Sp := fun vs H Q _ => ∃ i, vs = [.int i] ∧ Q (.bl false) H
def spIsPathO : Sp := fun vs H Q _ => ∃ x, vs = [x] ∧ (x = .non ∨ ∃ z, x = .str z ∧ PathNo z) ∧ ∀ H', Same H H' → Q (.bl false) H'
def spIsPlaceO : Sp := fun vs H Q _ => ∃ x, vs = [x] ∧ (x = .non ∨ ∃ z, x = .str z ∧ PathNo z ∧ z ≠ "") ∧ ∀ H', Same H H' → Q (.bl false) H'
def spCanLookO : Sp := fun vs H Q _ => ∃ a b, vs = [.str a, b] ∧ CanNot a b ∧ ∀ H', Same H H' → Q (.bl false) H'
def spAsLookO : Sp := fun vs H Q _ => ∃ x, vs = [x] ∧ OddL H x ∧ ∀ H', Same H H' → Q .non H'
section
variable {P : Program} {w : World} {K : PySem.W.Frag} {mg : Str → Option Value} {base : Heap}
theorem ok_rowO {f : Addr} {fd : FuncData} (F : Fun K "is_row" "is_row" sRow f fd) (T : TB mg) : FnOk P w K mg base CX0 1 f fd ["thing", "size"] spRowO := by
  refine F.ok scRow (fun vs H Q E h => ?_) (fun cdv A outer s H vs Q E hr h => ?_)
  · obtain ⟨v, n, rfl, _⟩ := h
    rfl
  · obtain ⟨v, n, rfl, hv, k⟩ := h
    refine ⟨_, pss_one (ps_ret (pe_and (pe_callB isi_LT2 (by rfl) T.isinstance (by decide +kernel) (pa_cons (pv 0) (pa_cons (pe_tup (pa_cons (pe_bltn (v := .ty "list") (by rfl) T.list (by decide +kernel) rfl) (pa_cons (pe_bltn (v := .ty "tuple") (by rfl) T.tuple (by decide +kernel) rfl) pa_nil))) pa_nil))) (pe_one (pe_cmpR op_eq (pe_callB call_len_row (by rfl) T.len PySem.boot_len (pa_cons (pv 0) pa_nil)) (pv 1) (nomark _))))), ?_⟩
    exact ⟨_, rfl, by show 2 ≤ sizeLine; decide, fun tp ht => ⟨v, tp, rfl, upd_same, hv.up (same_mk ht), _, rfl, iteF (k _ (same_mk ht))⟩⟩
theorem ok_isNameO {f : Addr} {fd : FuncData} (F : Fun K "is_name" "is_name" sIsName f fd) (T0 : TPk mg) : FnOk P w K mg base CX0 1 f fd ["thing"] spIsNameO := by
  have T := T0.b
  obtain ⟨t1, mLETTERS⟩ := T0.LETTERS
  obtain ⟨t2, mLONGEST⟩ := T0.LONGEST
  refine F.ok scIsName (fun vs H Q E h => ?_) (fun cdv A outer s H vs Q E hr h => ?_)
  · obtain ⟨z, rfl, _⟩ := h
    rfl
  · obtain ⟨i, rfl, k⟩ := h
    refine ⟨_, pss_cons (ps_if (PW.pt (pw_or (pt_not (pt_val (pe_callB call_isi (by rfl) T.isinstance (by decide +kernel) (pa_cons (pv 0) (pa_cons (pe_bltn (v := .ty "str") (by rfl) T.str (by decide +kernel) rfl) pa_nil))))) (pw_or1 (pt_not (pt_chain op_le op_le pe_int (pe_callB call_len_str (by rfl) T.len PySem.boot_len (pa_cons (pv 0) pa_nil)) (pe_glob (v := .int 8) rfl mLONGEST ⟨_, rfl⟩)))))) (pss_one (ps_ret pe_bl)) (pss_nil))
        (pss_one (ps_ret (pe_callB (cr_all rfl) (by rfl) T.all boot_all (pa_cons (pe_lc (own := [("letter", 1)]) (g := gName 1) (tt := tYes) rfl scIsName.nd (pi_str (pv 0)) (blkOk_by (own := [("letter", 1)]) (N := ["thing", "letter"]) (sc := defScope sIsName) (by decide +kernel)) (fun _ _ _ _ _ => (pg_name (i := 1) scIsName.nd rfl (Or.inl rfl))) (fun _ _ _ _ _ => pts_nil) (fun _ _ _ _ _ => (pe_cmpR op_in_sign (pv 1) (pe_glob (v := .str letters) rfl mLETTERS ⟨_, rfl⟩) (by rfl)))) pa_nil)))), ?_⟩
    exact ⟨_, rfl, _, _, .type "int", .type "str", false, rfl, .ty "str", .base (.int i), kit_ty (by decide +kernel), _, rfl, iteT k⟩
theorem ok_isPathO {f fN : Addr} {fd fdN : FuncData} (F : Fun K "is_path" "is_path" sIsPath f fd) (T0 : TPk mg) (aIsName : At K mg "is_name" fN fdN ["thing"]) (GIsName : FnOk P w K mg base CX0 1 fN fdN ["thing"] spIsName) : FnOk P w K mg base CX0 2 f fd ["thing"] spIsPathO := by
  have T := T0.b
  obtain ⟨t1, mSTROKE⟩ := T0.STROKE
  refine F.ok scIsPath (fun vs H Q E h => ?_) (fun cdv A outer s H vs Q E hr h => ?_)
  · obtain ⟨z, rfl, _⟩ := h
    rfl
  · obtain ⟨x, rfl, hx, k⟩ := h
    refine ⟨_, pss_one (ps_ret (pe_and (pe_callB call_isi (by rfl) T.isinstance (by decide +kernel) (pa_cons (pv 0) (pa_cons (pe_bltn (v := .ty "str") (by rfl) T.str (by decide +kernel) rfl) pa_nil))) (pe_one (pe_callB (cr_all rfl) (by rfl) T.all boot_all (pa_cons (pe_lc (own := [("part", 1)]) (g := gName 1) (tt := tYes) rfl scIsPath.nd (pi_list (pe_bm PySem.F.plainAttrs_str PySem.F.slot_str_split PySem.F.type_str_split mt_split (pv 0) (pa_cons (pe_glob (v := .str "/") rfl mSTROKE ⟨_, rfl⟩) pa_nil))) (blkOk_by (own := [("part", 1)]) (N := ["thing", "part"]) (sc := defScope sIsPath) (by decide +kernel)) (fun _ _ _ _ _ => (pg_name (i := 1) scIsPath.nd rfl (Or.inl rfl))) (fun _ _ _ _ _ => pts_nil) (fun _ _ _ _ _ => (pe_call GIsName (hr.mono (by decide)) rfl aIsName.m aIsName.k aIsName.b .nil pass0 (pa_cons (pv 1) pa_nil)))) pa_nil))))), ?_⟩
    rcases hx with rfl | ⟨z, rfl, ys, e1, hs, e2, e3, e4⟩
    · exact ⟨_, rfl, _, _, .type "NoneType", .type "str", false, rfl, .ty "str", .base .non, kit_ty (by decide +kernel), _, rfl, iteF (k H (Same.refl H))⟩
    refine ⟨_, rfl, _, _, .type "str", .type "str", true, rfl, .ty "str", .base (.str _), kit_ty (by decide +kernel), true, rfl, iteT ⟨_, rfl, rfl, z, "/", rfl, rfl, rfl, ?_, fun l hl' => ⟨l, rfl, ⟨_, SqL.of upd_same⟩, fun D hD => ?_⟩⟩⟩
    · have := hs
      unfold Sh at this
      exact Nat.le_trans (show z.length + 2 ≤ 1002 by omega) (by decide)
    · rw [e1] at hD ⊢
      have s1 : Same H (upd H l (.lst (ys.map V.str))) := same_mk hl'
      refine lc_mapL ys V.str (fun y => .bl (decide (IsNm y))) e3 hD (SqL.of upd_same) ?_ ?_
      · intro y hy H2 s2 Q1 k1
        exact ⟨_, rfl, y, rfl, e2 y hy, k1⟩
      · intro H' s' hD'
        refine all_of _ _ hD' ?_
        rw [e4]
        exact k H' (s1.trans s')
theorem ok_isPlaceO {f fN : Addr} {fd fdN : FuncData} (F : Fun K "is_place" "is_place" sIsPlace f fd) (T0 : TPk mg) (aIsPath : At K mg "is_path" fN fdN ["thing"]) (GIsPath : FnOk P w K mg base CX0 2 fN fdN ["thing"] spIsPathO) : FnOk P w K mg base CX0 3 f fd ["thing"] spIsPlaceO := by
  have T := T0.b
  obtain ⟨t1, mROOT⟩ := T0.ROOT
  refine F.ok scIsPlace (fun vs H Q E h => ?_) (fun cdv A outer s H vs Q E hr h => ?_)
  · obtain ⟨z, rfl, _⟩ := h
    rfl
  · obtain ⟨x, rfl, hx, k⟩ := h
    refine ⟨_, pss_one (ps_ret (pe_or (pe_call GIsPath (hr.mono (by decide)) rfl aIsPath.m aIsPath.k aIsPath.b .nil pass0 (pa_cons (pv 0) pa_nil)) (pe_one (pe_and (pe_callB call_isi (by rfl) T.isinstance (by decide +kernel) (pa_cons (pv 0) (pa_cons (pe_bltn (v := .ty "str") (by rfl) T.str (by decide +kernel) rfl) pa_nil))) (pe_one (pe_cmpR op_eq (pv 0) (pe_glob (v := .str "") rfl mROOT ⟨_, rfl⟩) (nomark _))))))), ?_⟩
    rcases hx with rfl | ⟨z, rfl, hz, nz⟩
    · exact ⟨_, rfl, _, rfl, .inl rfl, fun H1 s1 => ⟨_, rfl, iteF ⟨_, rfl, _, _, .type "NoneType", .type "str", false, rfl, .ty "str", .base .non, kit_ty (by decide +kernel), _, rfl, iteF (k H1 s1)⟩⟩⟩
    · refine ⟨_, rfl, _, rfl, .inr ⟨z, rfl, hz⟩, fun H1 s1 => ⟨_, rfl, iteF ⟨_, rfl, _, _, .type "str", .type "str", true, rfl, .ty "str", .base (.str _), kit_ty (by decide +kernel), _, rfl, iteT ⟨_, rfl, rfl, ?_⟩⟩⟩⟩
      rw [decide_eq_false (show ¬ V.str z = V.str "" from fun q => nz (V.str.inj q))]
      exact k H1 s1
theorem ok_canLookO {f fN fPh fPl : Addr} {fd fdN fdPh fdPl : FuncData} (F : Fun K "can_look" "can_look" sCanLook f fd) (T0 : TPk mg) (aIsName : At K mg "is_name" fN fdN ["thing"]) (aIsPath : At K mg "is_path" fPh fdPh ["thing"]) (aIsPlace : At K mg "is_place" fPl fdPl ["thing"])
    (GIsName : FnOk P w K mg base CX0 1 fN fdN ["thing"] spIsName) (GIsNameO : FnOk P w K mg base CX0 1 fN fdN ["thing"] spIsNameO) (GIsPath : FnOk P w K mg base CX0 2 fPh fdPh ["thing"] spIsPathO) (GIsPlace : FnOk P w K mg base CX0 3 fPl fdPl ["thing"] spIsPlaceO) : FnOk P w K mg base CX0 4 f fd ["word", "where"] spCanLookO := by
  have T := T0.b
  refine F.ok scCanLook (fun vs H Q E h => ?_) (fun cdv A outer s H vs Q E hr h => ?_)
  · obtain ⟨a, b, rfl, _⟩ := h
    rfl
  · obtain ⟨a, b, rfl, hk, q⟩ := h
    have e1 : ∀ a b : Str, decide (V.str a = V.str b) = decide (a = b) := fun a b => decide_eq_decide.mpr ⟨V.str.inj, fun q => by rw [q]⟩
    by_cases hi : ∃ i, b = .int i
    · obtain ⟨i, rfl⟩ := hi
      refine ⟨_, pss_cons (ps_if (pt_not (pt_val (pe_callB call_isi (by rfl) T.isinstance (by decide +kernel) (pa_cons (pv 0) (pa_cons (pe_bltn (v := .ty "str") (by rfl) T.str (by decide +kernel) rfl) pa_nil))))) (pss_one (ps_ret pe_bl)) (pss_nil))
            (pss_cons (ps_if (pt_cmpR op_eq (pv 0) pe_str (nomark _)) (pss_one (ps_ret (pe_call GIsPath (hr.mono (by decide)) rfl aIsPath.m aIsPath.k aIsPath.b .nil pass0 (pa_cons (pv 1) pa_nil)))) (pss_nil))
            (pss_cons (ps_if (pt_cmpR op_eq (pv 0) pe_str (nomark _)) (pss_one (ps_ret (pe_call GIsPlace (hr.mono (by decide)) rfl aIsPlace.m aIsPlace.k aIsPlace.b .nil pass0 (pa_cons (pv 1) pa_nil)))) (pss_nil))
            (pss_one (ps_ret (pe_and (pe_cmpR op_eq (pv 0) pe_str (nomark _)) (pe_one (pe_call GIsNameO (hr.mono (by decide)) rfl aIsName.m aIsName.k aIsName.b .nil pass0 (pa_cons (pv 1) pa_nil)))))))), ?_⟩
      refine ⟨_, rfl, _, _, .type "str", .type "str", true, rfl, .ty "str", .base (.str _), kit_ty (by decide +kernel), _, rfl, iteF ⟨_, rfl, rfl, _, rfl, ?_⟩⟩
      rw [e1]
      cases hk with
      | se5 => exact iteF ⟨_, rfl, rfl, _, rfl, iteF ⟨_, rfl, rfl, _, rfl, iteT ⟨_, rfl, _, rfl, q H (Same.refl H)⟩⟩⟩
      | oth h1 h2 h3 =>
        rw [decide_eq_false h1]
        refine iteF ⟨_, rfl, rfl, _, rfl, ?_⟩
        rw [e1, decide_eq_false h2]
        refine iteF ⟨_, rfl, rfl, _, rfl, ?_⟩
        rw [e1, decide_eq_false h3]
        exact iteF (q H (Same.refl H))
    · refine ⟨_, pss_cons (ps_if (pt_not (pt_val (pe_callB call_isi (by rfl) T.isinstance (by decide +kernel) (pa_cons (pv 0) (pa_cons (pe_bltn (v := .ty "str") (by rfl) T.str (by decide +kernel) rfl) pa_nil))))) (pss_one (ps_ret pe_bl)) (pss_nil))
            (pss_cons (ps_if (pt_cmpR op_eq (pv 0) pe_str (nomark _)) (pss_one (ps_ret (pe_call GIsPath (hr.mono (by decide)) rfl aIsPath.m aIsPath.k aIsPath.b .nil pass0 (pa_cons (pv 1) pa_nil)))) (pss_nil))
            (pss_cons (ps_if (pt_cmpR op_eq (pv 0) pe_str (nomark _)) (pss_one (ps_ret (pe_call GIsPlace (hr.mono (by decide)) rfl aIsPlace.m aIsPlace.k aIsPlace.b .nil pass0 (pa_cons (pv 1) pa_nil)))) (pss_nil))
            (pss_one (ps_ret (pe_and (pe_cmpR op_eq (pv 0) pe_str (nomark _)) (pe_one (pe_call GIsName (hr.mono (by decide)) rfl aIsName.m aIsName.k aIsName.b .nil pass0 (pa_cons (pv 1) pa_nil)))))))), ?_⟩
      refine ⟨_, rfl, _, _, .type "str", .type "str", true, rfl, .ty "str", .base (.str _), kit_ty (by decide +kernel), _, rfl, iteF ⟨_, rfl, rfl, _, rfl, ?_⟩⟩
      rw [e1]
      cases hk with
      | se5 i => exact absurd ⟨i, rfl⟩ hi
      | rd h => exact iteT ⟨_, rfl, _, rfl, .inr ⟨_, rfl, h⟩, q⟩
      | ls0 => exact iteF ⟨_, rfl, rfl, _, rfl, iteT ⟨_, rfl, _, rfl, .inl rfl, q⟩⟩
      | ls h n => exact iteF ⟨_, rfl, rfl, _, rfl, iteT ⟨_, rfl, _, rfl, .inr ⟨_, rfl, h, n⟩, q⟩⟩
      | @se z h s =>
        refine iteF ⟨_, rfl, rfl, _, rfl, iteF ⟨_, rfl, rfl, _, rfl, iteT ⟨_, rfl, z, rfl, s, fun H1 s1 => ?_⟩⟩⟩
        show Q (.bl (decide (IsNm z))) H1
        rw [decide_eq_false h]
        exact q H1 s1
      | oth h1 h2 h3 =>
        rw [decide_eq_false h1]
        refine iteF ⟨_, rfl, rfl, _, rfl, ?_⟩
        rw [e1, decide_eq_false h2]
        refine iteF ⟨_, rfl, rfl, _, rfl, ?_⟩
        rw [e1, decide_eq_false h3]
        exact iteF (q H (Same.refl H))
theorem ok_asLookO {f fR fC : Addr} {fd fdR fdC : FuncData} (F : Fun K "as_look" "as_look" sAsLook f fd) (T : TB mg) (aRow : At K mg "is_row" fR fdR ["thing", "size"]) (aCanLook : At K mg "can_look" fC fdC ["word", "where"])
    (GRow : FnOk P w K mg base CX0 1 fR fdR ["thing", "size"] spRow) (GRowO : FnOk P w K mg base CX0 1 fR fdR ["thing", "size"] spRowO) (GCanLook : FnOk P w K mg base CX0 4 fC fdC ["word", "where"] spCanLookO) : FnOk P w K mg base CX0 5 f fd ["thing"] spAsLookO := by
  refine F.ok scAsLook (fun vs H Q E h => ?_) (fun cdv A outer s H vs Q E hr h => ?_)
  · obtain ⟨v, rfl, _⟩ := h
    rfl
  · obtain ⟨v, rfl, hv, q⟩ := h
    cases hv with
    | no hn =>
      refine ⟨_, pss_cons (ps_if (PW.pt (pw_and (pt_val (pe_call GRowO (hr.mono (by decide)) rfl aRow.m aRow.k aRow.b .nil pass0 (pa_cons (pv 0) (pa_cons pe_int pa_nil)))) (pw_and (pt_val (pe_callB call_isi (by rfl) T.isinstance (by decide +kernel) (pa_cons (pe_ix ix_row (pv 0) pe_int (fun _ _ => rfl)) (pa_cons (pe_bltn (v := .ty "str") (by rfl) T.str (by decide +kernel) rfl) pa_nil)))) (pw_and1 (pt_cmpR op_eq (pe_ix ix_row (pv 0) pe_int (fun _ _ => rfl)) pe_str (nomark _)))))) (pss_one (ps_ret (pe_tup (pa_cons pe_str pa_nil)))) (pss_nil))
            (pss_cons (ps_if (PW.pt (pw_and (pt_val (pe_call GRowO (hr.mono (by decide)) rfl aRow.m aRow.k aRow.b .nil pass0 (pa_cons (pv 0) (pa_cons pe_int pa_nil)))) (pw_and1 (pt_val (pe_call GCanLook (hr.mono (by decide)) rfl aCanLook.m aCanLook.k aCanLook.b .nil pass0 (pa_cons (pe_ix ix_row (pv 0) pe_int (fun _ _ => rfl)) (pa_cons (pe_ix ix_row (pv 0) pe_int (fun _ _ => rfl)) pa_nil))))))) (pss_one (ps_ret (pe_tup (pa_cons (pe_ix ix_row (pv 0) pe_int (fun _ _ => rfl)) (pa_cons (pe_ix ix_row (pv 0) pe_int (fun _ _ => rfl)) pa_nil))))) (pss_nil))
            (pss_one (ps_ret pe_non))), ?_⟩
      exact ⟨_, rfl, v, 1, rfl, hn, fun H1 s1 => ⟨_, rfl, iteF ⟨_, rfl, v, 2, rfl, hn.up s1, fun H2 s2 => ⟨_, rfl, iteF (q H2 (s1.trans s2))⟩⟩⟩⟩
    | @row xs hv o =>
      refine ⟨_, pss_cons (ps_if (PW.pt (pw_and (pt_val (pe_call GRow (hr.mono (by decide)) rfl aRow.m aRow.k aRow.b .nil pass0 (pa_cons (pv 0) (pa_cons pe_int pa_nil)))) (pw_and (pt_val (pe_callB call_isi (by rfl) T.isinstance (by decide +kernel) (pa_cons (pe_ix ix_row (pv 0) pe_int (fun _ _ => rfl)) (pa_cons (pe_bltn (v := .ty "str") (by rfl) T.str (by decide +kernel) rfl) pa_nil)))) (pw_and1 (pt_cmpR op_eq (pe_ix ix_row (pv 0) pe_int (fun _ _ => rfl)) pe_str (nomark _)))))) (pss_one (ps_ret (pe_tup (pa_cons pe_str pa_nil)))) (pss_nil))
            (pss_cons (ps_if (PW.pt (pw_and (pt_val (pe_call GRow (hr.mono (by decide)) rfl aRow.m aRow.k aRow.b .nil pass0 (pa_cons (pv 0) (pa_cons pe_int pa_nil)))) (pw_and1 (pt_val (pe_call GCanLook (hr.mono (by decide)) rfl aCanLook.m aCanLook.k aCanLook.b .nil pass0 (pa_cons (pe_ix ix_row (pv 0) pe_int (fun _ _ => rfl)) (pa_cons (pe_ix ix_row (pv 0) pe_int (fun _ _ => rfl)) pa_nil))))))) (pss_one (ps_ret (pe_tup (pa_cons (pe_ix ix_row (pv 0) pe_int (fun _ _ => rfl)) (pa_cons (pe_ix ix_row (pv 0) pe_int (fun _ _ => rfl)) pa_nil))))) (pss_nil))
            (pss_one (ps_ret pe_non))), ?_⟩
      refine ⟨_, rfl, v, _, 1, rfl, hv, fun H1 s1 => ⟨_, rfl, ?_⟩⟩
      cases o with
      | zero => exact iteN (by decide) ⟨_, rfl, v, _, 2, rfl, hv.up s1, fun H2 s2 => ⟨_, rfl, iteN (by decide) (q H2 (s1.trans s2))⟩⟩
      | @one z h =>
        refine iteY rfl ⟨_, rfl, _, 0, _, hv.up s1, rfl, atI_nat (j := 0) rfl, _, _, .type "str", .type "str", true, rfl, .ty "str", .base (.str _), kit_ty (by decide +kernel), _, rfl, iteT ⟨_, rfl, _, 0, _, hv.up s1, rfl, atI_nat (j := 0) rfl, rfl, _, rfl, ?_⟩⟩
        rw [decide_eq_false (show ¬ V.str z = V.str "tool" from fun q => h (V.str.inj q))]
        exact iteF ⟨_, rfl, v, _, 2, rfl, hv.up s1, fun H2 s2 => ⟨_, rfl, iteN (by show ¬ ((1 : Nat) : Int) = 2; decide) (q H2 (s1.trans s2))⟩⟩
      | @two a b h =>
        refine iteN (by show ¬ ((2 : Nat) : Int) = 1; decide) ⟨_, rfl, v, _, 2, rfl, hv.up s1, fun H2 s2 => ⟨_, rfl, iteY rfl ?_⟩⟩
        have v2 := (hv.up s1).up s2
        exact ⟨_, rfl, _, 0, _, v2, rfl, atI_nat (j := 0) rfl, _, rfl, _, 1, _, v2, rfl, atI_nat (j := 1) rfl, a, b, rfl, h, fun H3 s3 => ⟨_, rfl, iteF (q H3 ((s1.trans s2).trans s3))⟩⟩
      | three a b c => exact iteN (by show ¬ ((3 : Nat) : Int) = 1; decide) ⟨_, rfl, v, _, 2, rfl, hv.up s1, fun H2 s2 => ⟨_, rfl, iteN (by show ¬ ((3 : Nat) : Int) = 2; decide) (q H2 (s1.trans s2))⟩⟩
end
end R3

set_option maxHeartbeats 3900000
namespace R3
open PySem PySem.Spec PyProof.Rows L2 TL
open C8 (pss_cut tCut pe_gc)
open CB XW
/-! what is no sight -/
theorem FnOk_or {P : Program} {w : World} {K : PySem.W.Frag} {mg : Str → Option Value} {base : Heap} {CX : CXT} {k : Nat} {f : Addr} {fd : FuncData} {ps : List Str} {sp sp' : Sp} (F : FnOk P w K mg base CX k f fd ps sp) (G : FnOk P w K mg base CX k f fd ps sp') : FnOk P w K mg base CX k f fd ps (fun vs H Q E => sp vs H Q E ∨ sp' vs H Q E) :=
  ⟨fun vs H Q E h => h.elim (F.len vs H Q E) (G.len vs H Q E), fun A outer s H args us vs Q E hr he hb hv h => h.elim (F.run A outer s H args us vs Q E hr he hb hv) (G.run A outer s H args us vs Q E hr he hb hv)⟩
def EnB (x : V) (b : Bool) : Prop := (∃ z, x = .str z ∧ Sh z ∧ Sh (Txt.removesuffix z "/") ∧ b = decide (IsNm (Txt.removesuffix z "/"))) ∨ (b = false ∧ ∃ i, x = .int i)
inductive NoLs (H : Hp) (v : V) : Prop
  | row (h : NoRow H v)
  | bad {zs : List (V × Bool)} (h : RowAt H v (zs.map (·.1))) (e : ∀ z ∈ zs, EnB z.1 z.2) (a : zs.all (·.2) = false) (l : zs.length ≤ 1000)
  | two {a b : Str × Bool} (h : RowAt H v [entV a, entV b]) (ha : IsNm a.1) (hb : IsNm b.1) (n : ¬ a.1.cps.toList < b.1.cps.toList)
theorem NoLs.up {H H' : Hp} {v : V} (h : NoLs H v) (s : Same H H') : NoLs H' v := by
  cases h with
  | row h => exact .row (h.up s)
  | bad h e a l => exact .bad (h.up s) e a l
  | two h ha hb n => exact .two (h.up s) ha hb n
/-- an answer that the look cannot have -/
inductive AnNo (H : Hp) (v : V) : Lk → Prop
  | tlN (e : v = .non) : AnNo H v .tl
  | lsN (e : v = .non) : AnNo H v (.ls [])
  | lsB {p : List Str} (h : NoLs H v) (n : v ≠ .non) : AnNo H v (.ls p)
  | lsE {p : List Str} (h : RowAt H v []) (n : p ≠ []) : AnNo H v (.ls p)
  | rd {p : List Str} (h : NoText H v) (n : v ≠ .non) : AnNo H v (.rd p)
  | se {z : Str} (h : NoText H v) (n : v ≠ .non) : AnNo H v (.se z)
  | tl (h : NoText H v) (n : v ≠ .non) : AnNo H v .tl
theorem AnNo.up {H H' : Hp} {k : Lk} {v : V} (h : AnNo H v k) (s : Same H H') : AnNo H' v k := by
  cases h with
  | tlN e => exact .tlN e
  | lsN e => exact .lsN e
  | lsB h n => exact .lsB (h.up s) n
  | lsE h n => exact .lsE (h.up s) n
  | rd h n => exact .rd (h.up s) n
  | se h n => exact .se (h.up s) n
  | tl h n => exact .tl (h.up s) n
inductive SgNo (H : Hp) (v : V) : Prop
  | no (h : NoRow H v)
  | len {xs : List V} (h : RowAt H v xs) (n : xs.length ≠ 2)
  | look {x y : V} (h : RowAt H v [x, y]) (o : OddL H x)
  | ans {x y : V} {k : Lk} (h : RowAt H v [x, y]) (hx : RowAt H x (lkV k)) (ok : LkOk k) (n : AnNo H y k)
theorem SgNo.up {H H' : Hp} {v : V} (h : SgNo H v) (s : Same H H') : SgNo H' v := by
  cases h with
  | no h => exact .no (h.up s)
  | len h n => exact .len (h.up s) n
  | look h o => exact .look (h.up s) (o.up s)
  | ans h hx ok n => exact .ans (h.up s) (hx.up s) ok (n.up s)
def spIsEntryG : Sp := fun vs H Q _ => ∃ x b, vs = [x] ∧ EnB x b ∧ ∀ H', Same H H' → Q (.bl b) H'
def spIsListingO : Sp := fun vs H Q _ => ∃ v, vs = [v] ∧ NoLs H v ∧ ∀ H', Same H H' → Q (.bl false) H'
def spIsListing2 : Sp := fun vs H Q E => spIsListing vs H Q E ∨ spIsListingO vs H Q E
def spCanShowO : Sp := fun vs H Q _ => ∃ t va k, vs = [.ref t, va] ∧ H t = some (.tup (lkV k)) ∧ LkOk k ∧ AnNo H va k ∧ ∀ H', Same H H' → Q (.bl false) H'
def spAsLook2 : Sp := fun vs H Q E => spAsLook vs H Q E ∨ spAsLookO vs H Q E
def spAsSightO : Sp := fun vs H Q _ => ∃ v, vs = [v] ∧ SgNo H v ∧ ∀ H', Same H H' → Q .non H'
def spAsSight2 : Sp := fun vs H Q E => spAsSight vs H Q E ∨ spAsSightO vs H Q E
section
variable {P : Program} {w : World} {K : PySem.W.Frag} {mg : Str → Option Value} {base : Heap}
theorem ok_isEntryG {f fN : Addr} {fd fdN : FuncData} (F : Fun K "is_entry" "is_entry" sIsEntry f fd) (T0 : TPk mg) (aIsName : At K mg "is_name" fN fdN ["thing"]) (GIsName : FnOk P w K mg base CX0 1 fN fdN ["thing"] spIsName) : FnOk P w K mg base CX0 2 f fd ["thing"] spIsEntryG := by
  have T := T0.b
  obtain ⟨t1, mSTROKE⟩ := T0.STROKE
  refine F.ok scIsEntry (fun vs H Q E h => ?_) (fun cdv A outer s H vs Q E hr h => ?_)
  · obtain ⟨x, b, rfl, _⟩ := h
    rfl
  · obtain ⟨x, b, rfl, hx, k⟩ := h
    refine ⟨_, pss_one (ps_ret (pe_and (pe_callB call_isi (by rfl) T.isinstance (by decide +kernel) (pa_cons (pv 0) (pa_cons (pe_bltn (v := .ty "str") (by rfl) T.str (by decide +kernel) rfl) pa_nil))) (pe_one (pe_call GIsName (hr.mono (by decide)) rfl aIsName.m aIsName.k aIsName.b .nil pass0 (pa_cons (pe_bm PySem.F.plainAttrs_str PySem.F.slot_str_removesuffix PySem.F.type_str_removesuffix mt_removesuffix (pv 0) (pa_cons (pe_glob (v := .str "/") rfl mSTROKE ⟨_, rfl⟩) pa_nil)) pa_nil))))), ?_⟩
    rcases hx with ⟨z, rfl, hz, hr2, rfl⟩ | ⟨rfl, i, rfl⟩
    · exact ⟨_, rfl, _, _, .type "str", .type "str", true, rfl, .ty "str", .base (.str _), kit_ty (by decide +kernel), _, rfl, iteT ⟨_, rfl, rfl, z, "/", rfl, rfl, hz.line, _, rfl, hr2, fun H1 s1 => k H1 s1⟩⟩
    · exact ⟨_, rfl, _, _, .type "int", .type "str", false, rfl, .ty "str", .base (.int _), kit_ty (by decide +kernel), _, rfl, iteF (k H (Same.refl H))⟩
theorem ok_isListingO {f fE : Addr} {fd fdE : FuncData} (F : Fun K "is_listing" "is_listing" sIsListing f fd) (T0 : TPk mg) (aIsEntry : At K mg "is_entry" fE fdE ["thing"]) (GIsEntry : FnOk P w K mg base CX0 2 fE fdE ["thing"] spIsEntryG) : FnOk P w K mg base CX0 3 f fd ["thing"] spIsListingO := by
  have T := T0.b
  obtain ⟨t1, mSTROKE⟩ := T0.STROKE
  refine F.ok scIsListing (fun vs H Q E h => ?_) (fun cdv A outer s H vs Q E hr h => ?_)
  · obtain ⟨v, rfl, _⟩ := h
    rfl
  · obtain ⟨v, rfl, hv, k⟩ := h
    cases hv with
    | row hv =>
      refine ⟨_, pss_cons (ps_if (PW.pt (pw_or (pt_not (pt_val (pe_callB isi_LT2 (by rfl) T.isinstance (by decide +kernel) (pa_cons (pv 0) (pa_cons (pe_tup (pa_cons (pe_bltn (v := .ty "list") (by rfl) T.list (by decide +kernel) rfl) (pa_cons (pe_bltn (v := .ty "tuple") (by rfl) T.tuple (by decide +kernel) rfl) pa_nil))) pa_nil))))) (pw_or1 (pt_not (pt_val (pe_callB (cr_all rfl) (by rfl) T.all boot_all (pa_cons (pe_lc (own := [("entry", 2)]) (g := gName 2) (tt := tYes) rfl scIsListing.nd (pi_seqv (pv 0)) (blkOk_by (own := [("entry", 2)]) (N := ["thing", "names", "entry", "one", "other"]) (sc := defScope sIsListing) (by decide +kernel)) (fun _ _ _ _ _ => (pg_name (i := 2) scIsListing.nd rfl (Or.inl rfl))) (fun _ _ _ _ _ => pts_nil) (fun _ _ _ _ _ => (by exact (pe_call GIsEntry (hr.mono (by decide)) rfl aIsEntry.m aIsEntry.k aIsEntry.b .nil pass0 (pa_cons (pv 2) pa_nil))))) pa_nil))))))) (pss_one (ps_ret pe_bl)) (pss_nil))
              (pss_cons (ps_setLc (i := 1) (own := [("entry", 2)]) (g := gName 2) (tt := tYes) rfl scIsListing.nd rfl rfl (sw_true rfl rfl rfl (by decide +kernel)) (pi_seqv (pv 0)) (blkOk_by (own := [("entry", 2)]) (N := ["thing", "names", "entry", "one", "other"]) (sc := defScope sIsListing) (by decide +kernel)) (fun _ _ _ _ _ => (pg_name (i := 2) scIsListing.nd rfl (Or.inl rfl))) (fun _ _ _ _ _ => pts_nil) (fun _ _ _ _ _ => (by exact (pe_bmK K rfl PySem.F.plainAttrs_str PySem.F.slot_str_removesuffix PySem.F.type_str_removesuffix mt_removesuffix (pv 2) (pa_cons (pe_glob (v := .str "/") rfl mSTROKE ⟨_, rfl⟩) pa_nil)))))
              (pss_one (ps_ret (pe_callB (cr_all rfl) (by rfl) T.all boot_all (pa_cons (pe_lc (own := [("one", 3), ("other", 4)]) (g := gTup K 2 (gCons (gName 3) (gCons (gName 4) gNil))) (tt := tYes) rfl scIsListing.nd (pi_zip (by rfl) T.zip (pa_cons (pv 1) (pa_cons (pe_slice sl_list (pv 1) (po_some pe_int) po_none) pa_nil))) (blkOk_by (own := [("one", 3), ("other", 4)]) (N := ["thing", "names", "entry", "one", "other"]) (sc := defScope sIsListing) (by decide +kernel)) (fun _ _ _ _ _ => (pg_tupK (K0 := K) rfl rfl (pgs_cons (pg_name (i := 3) scIsListing.nd rfl (Or.inl rfl)) (pgs_cons (pg_name (i := 4) scIsListing.nd rfl (Or.inl rfl)) pgs_nil)))) (fun _ _ _ _ _ => pts_nil) (fun _ _ _ _ _ => (by exact (pe_cmpR op_lt_str (pv 3) (pv 4) (nomark _))))) pa_nil))))), ?_⟩
      exact ⟨_, rfl, by show 2 ≤ sizeLine; decide, fun tp ht => ⟨v, tp, rfl, upd_same, hv.up (same_mk ht), _, rfl, iteT (k _ (same_mk ht))⟩⟩
    | @bad zs hv he ha hl =>
      refine ⟨_, pss_cons (ps_if (PW.pt (pw_or (pt_not (pt_val (pe_callB isi_LT (by rfl) T.isinstance (by decide +kernel) (pa_cons (pv 0) (pa_cons (pe_tup (pa_cons (pe_bltn (v := .ty "list") (by rfl) T.list (by decide +kernel) rfl) (pa_cons (pe_bltn (v := .ty "tuple") (by rfl) T.tuple (by decide +kernel) rfl) pa_nil))) pa_nil))))) (pw_or1 (pt_not (pt_val (pe_callB (cr_all rfl) (by rfl) T.all boot_all (pa_cons (pe_lc (own := [("entry", 2)]) (g := gName 2) (tt := tYes) rfl scIsListing.nd (pi_seqv (pv 0)) (blkOk_by (own := [("entry", 2)]) (N := ["thing", "names", "entry", "one", "other"]) (sc := defScope sIsListing) (by decide +kernel)) (fun _ _ _ _ _ => (pg_name (i := 2) scIsListing.nd rfl (Or.inl rfl))) (fun _ _ _ _ _ => pts_nil) (fun _ _ _ _ _ => (by exact (pe_call GIsEntry (hr.mono (by decide)) rfl aIsEntry.m aIsEntry.k aIsEntry.b .nil pass0 (pa_cons (pv 2) pa_nil))))) pa_nil))))))) (pss_one (ps_ret pe_bl)) (pss_nil))
              (pss_cons (ps_setLc (i := 1) (own := [("entry", 2)]) (g := gName 2) (tt := tYes) rfl scIsListing.nd rfl rfl (sw_true rfl rfl rfl (by decide +kernel)) (pi_seqv (pv 0)) (blkOk_by (own := [("entry", 2)]) (N := ["thing", "names", "entry", "one", "other"]) (sc := defScope sIsListing) (by decide +kernel)) (fun _ _ _ _ _ => (pg_name (i := 2) scIsListing.nd rfl (Or.inl rfl))) (fun _ _ _ _ _ => pts_nil) (fun _ _ _ _ _ => (by exact (pe_bmK K rfl PySem.F.plainAttrs_str PySem.F.slot_str_removesuffix PySem.F.type_str_removesuffix mt_removesuffix (pv 2) (pa_cons (pe_glob (v := .str "/") rfl mSTROKE ⟨_, rfl⟩) pa_nil)))))
              (pss_one (ps_ret (pe_callB (cr_all rfl) (by rfl) T.all boot_all (pa_cons (pe_lc (own := [("one", 3), ("other", 4)]) (g := gTup K 2 (gCons (gName 3) (gCons (gName 4) gNil))) (tt := tYes) rfl scIsListing.nd (pi_zip (by rfl) T.zip (pa_cons (pv 1) (pa_cons (pe_slice sl_list (pv 1) (po_some pe_int) po_none) pa_nil))) (blkOk_by (own := [("one", 3), ("other", 4)]) (N := ["thing", "names", "entry", "one", "other"]) (sc := defScope sIsListing) (by decide +kernel)) (fun _ _ _ _ _ => (pg_tupK (K0 := K) rfl rfl (pgs_cons (pg_name (i := 3) scIsListing.nd rfl (Or.inl rfl)) (pgs_cons (pg_name (i := 4) scIsListing.nd rfl (Or.inl rfl)) pgs_nil)))) (fun _ _ _ _ _ => pts_nil) (fun _ _ _ _ _ => (by exact (pe_cmpR op_lt_str (pv 3) (pv 4) (nomark _))))) pa_nil))))), ?_⟩
      have hs : zs.length < 1000000 := Nat.lt_of_le_of_lt hl (by decide)
      refine ⟨_, rfl, by show 2 ≤ sizeLine; decide, fun tp ht => ⟨v, tp, true, rfl, upd_same, .inl ⟨rfl, _, hv.up (same_mk ht)⟩, _, rfl, iteF ?_⟩⟩
      refine all_row zs (·.1) (·.2) rfl (hv.up (same_mk ht)) hs ?_ ?_
      · intro e he2 H2 s2 Q1 k1
        exact ⟨_, rfl, e.1, e.2, rfl, he e he2, fun H3 s3 => k1 H3 s3⟩
      intro H1 s1
      rw [ha]
      exact ⟨_, rfl, iteT (k _ ((same_mk ht).trans s1))⟩
    | @two a b hv na nb n =>
      refine ⟨_, pss_cons (ps_if (PW.pt (pw_or (pt_not (pt_val (pe_callB isi_LT (by rfl) T.isinstance (by decide +kernel) (pa_cons (pv 0) (pa_cons (pe_tup (pa_cons (pe_bltn (v := .ty "list") (by rfl) T.list (by decide +kernel) rfl) (pa_cons (pe_bltn (v := .ty "tuple") (by rfl) T.tuple (by decide +kernel) rfl) pa_nil))) pa_nil))))) (pw_or1 (pt_not (pt_val (pe_callB (cr_all rfl) (by rfl) T.all boot_all (pa_cons (pe_lc (own := [("entry", 2)]) (g := gName 2) (tt := tYes) rfl scIsListing.nd (pi_seqv (pv 0)) (blkOk_by (own := [("entry", 2)]) (N := ["thing", "names", "entry", "one", "other"]) (sc := defScope sIsListing) (by decide +kernel)) (fun _ _ _ _ _ => (pg_name (i := 2) scIsListing.nd rfl (Or.inl rfl))) (fun _ _ _ _ _ => pts_nil) (fun _ _ _ _ _ => (by exact (pe_call GIsEntry (hr.mono (by decide)) rfl aIsEntry.m aIsEntry.k aIsEntry.b .nil pass0 (pa_cons (pv 2) pa_nil))))) pa_nil))))))) (pss_one (ps_ret pe_bl)) (pss_nil))
              (pss_cons (ps_setLc (i := 1) (own := [("entry", 2)]) (g := gName 2) (tt := tYes) rfl scIsListing.nd rfl rfl (sw_true rfl rfl rfl (by decide +kernel)) (pi_seqv (pv 0)) (blkOk_by (own := [("entry", 2)]) (N := ["thing", "names", "entry", "one", "other"]) (sc := defScope sIsListing) (by decide +kernel)) (fun _ _ _ _ _ => (pg_name (i := 2) scIsListing.nd rfl (Or.inl rfl))) (fun _ _ _ _ _ => pts_nil) (fun _ _ _ _ _ => (by exact (pe_bmK K rfl PySem.F.plainAttrs_str PySem.F.slot_str_removesuffix PySem.F.type_str_removesuffix mt_removesuffix (pv 2) (pa_cons (pe_glob (v := .str "/") rfl mSTROKE ⟨_, rfl⟩) pa_nil)))))
              (pss_one (ps_ret (pe_callB (cr_all rfl) (by rfl) T.all boot_all (pa_cons (pe_lc (own := [("one", 3), ("other", 4)]) (g := gTup K 2 (gCons (gName 3) (gCons (gName 4) gNil))) (tt := tYes) rfl scIsListing.nd (pi_zip (by rfl) T.zip (pa_cons (pv 1) (pa_cons (pe_slice sl_list (pv 1) (po_some pe_int) po_none) pa_nil))) (blkOk_by (own := [("one", 3), ("other", 4)]) (N := ["thing", "names", "entry", "one", "other"]) (sc := defScope sIsListing) (by decide +kernel)) (fun _ _ _ _ _ => (pg_tupK (K0 := K) rfl rfl (pgs_cons (pg_name (i := 3) scIsListing.nd rfl (Or.inl rfl)) (pgs_cons (pg_name (i := 4) scIsListing.nd rfl (Or.inl rfl)) pgs_nil)))) (fun _ _ _ _ _ => pts_nil) (fun _ _ _ _ _ => (by exact (pe_cmpR op_lt_str (pv 3) (pv 4) (nomark _))))) pa_nil))))), ?_⟩
      have hv : RowAt H v ([a, b].map entV) := hv
      have nm : ∀ e ∈ [a, b], IsNm e.1 := fun e he => by
        rcases List.mem_cons.mp he with rfl | he
        · exact na
        · rw [List.mem_singleton.mp he]
          exact nb
      have rm : ∀ e ∈ [a, b], (ent e.1 e.2).length ≤ 9 := fun e he => by
        have h8 := (nm e he).2.1
        rw [len_tl, tl_ent, List.length_append, ← len_tl]
        cases e.2 <;> simp <;> omega
      refine ⟨_, rfl, by show 2 ≤ sizeLine; decide, fun tp ht => ⟨v, tp, true, rfl, upd_same, .inl ⟨rfl, _, hv.up (same_mk ht)⟩, _, rfl, iteF ?_⟩⟩
      refine all_row [a, b] entV (fun _ => true) rfl (hv.up (same_mk ht)) (by show 2 < 1000000; decide) ?_ ?_
      · intro e he H2 s2 Q1 k1
        refine ⟨_, rfl, _, true, rfl, .inl ⟨_, rfl, Nat.le_trans (rm e he) (by decide), ?_, ?_⟩, fun H3 s3 => k1 H3 s3⟩
        · rw [rms_ent (nm e he)]
          exact nm_sh (nm e he)
        · rw [rms_ent (nm e he), decide_eq_true (nm e he)]
      intro H1 s1
      refine ⟨_, rfl, iteF ?_⟩
      have sa := (same_mk ht).trans s1
      refine set_row [a, b] entV (fun e => .str e.1) rfl (hv.up sa) (by show 2 < 1000000; decide) ?_ ?_
      · intro e he H2 s2 Q1 k1
        refine ⟨_, rfl, rfl, ent e.1 e.2, "/", rfl, rfl, ?_, ?_⟩
        · exact Nat.le_trans (rm e he) (by decide)
        · rw [rms_ent (nm e he)]
          exact k1 H2 (Same.refl H2)
      intro D H2 s2 hD hD2
      refine ⟨_, rfl, _, rfl, 1, rfl, D, _, rfl, SqL.of hD2, fun p hp => ?_⟩
      have hD3 := same_mk (o := .lst (cutV ([a, b].map fun e => V.str e.1) (some 1) none)) hp _ _ hD2
      refine ⟨D, p, _, _, rfl, SqL.of hD3, SqL.of upd_same, fun D2 hD2' => ?_⟩
      rw [cut_1] at hD2' ⊢
      rw [cut_1] at hD3
      refine lcW2 (n := 1) (walk_zip rfl) (by decide) [.bl false] rfl (by decide) hD2' (fun H' s' => ⟨s'.seq (SqL.of hD3), s'.seq (SqL.of upd_same)⟩) ?_ ?_
      · intro m x x' y H4 hy ex ex' s4 Q1 k1
        cases m with
        | zero =>
          cases ex
          cases ex'
          cases hy
          refine ⟨_, rfl, _, rfl, a.1, b.1, rfl, rfl, ?_⟩
          rw [decide_eq_false n]
          exact k1 H4 (Same.refl H4)
        | succ m => simp at hy
      · intro H5 s5 hD5
        exact all_of [false] id hD5 (k H5 ((sa.trans s2).trans ((same_mk hp).trans s5)))
theorem ok_canShowO {f fL : Addr} {fd fdL : FuncData} (F : Fun K "can_show" "can_show" sCanShow f fd) (T0 : TPk mg) (aIsListing : At K mg "is_listing" fL fdL ["thing"]) (GIsListing : FnOk P w K mg base CX0 3 fL fdL ["thing"] spIsListing2) : FnOk P w K mg base CX0 4 f fd ["look", "answer"] spCanShowO := by
  have T := T0.b
  obtain ⟨t1, mROOT⟩ := T0.ROOT
  refine F.ok scCanShow (fun vs H Q E h => ?_) (fun cdv A outer s H vs Q E hr h => ?_)
  · obtain ⟨t, va, k, rfl, _⟩ := h
    rfl
  · have hu := hr.units
    obtain ⟨t, va, k, rfl, ht, hk, n, q⟩ := h
    refine ⟨_, pss_cons (ps_set (i := 2) scCanShow.nd rfl (Or.inl rfl) (pe_ix ix_tup (pv 0) pe_int (fun _ _ => rfl)))
            (pss_cons (ps_if (pt_cmp (pc_isN (pv 1))) (pss_one (ps_ret (pe_and (pe_cmpR op_ne (pv 2) pe_str (nomark _)) (pe_one (pe_cmpR (op_neD hu) (pv 0) (pe_tup (pa_cons pe_str (pa_cons (pe_glob (v := .str "") rfl mROOT ⟨_, rfl⟩) pa_nil))) (nomark _)))))) (pss_nil))
            (pss_cons (ps_if (pt_cmpR op_eq (pv 2) pe_str (nomark _)) (pss_one (ps_ret (pe_and (pe_call GIsListing (hr.mono (by decide)) rfl aIsListing.m aIsListing.k aIsListing.b .nil pass0 (pa_cons (pv 1) pa_nil)) (pe_one (pe_or (pe_cmpR op_gt (pe_callB call_len_row (by rfl) T.len PySem.boot_len (pa_cons (pv 1) pa_nil)) pe_int (nomark _)) (pe_one (pe_cmpR op_eq (pe_ix ix_tup (pv 0) pe_int (fun _ _ => rfl)) (pe_glob (v := .str "") rfl mROOT ⟨_, rfl⟩) (nomark _)))))))) (pss_nil))
            (pss_one (ps_ret (pe_callB call_isi (by rfl) T.isinstance (by decide +kernel) (pa_cons (pv 1) (pa_cons (pe_bltn (v := .ty "str") (by rfl) T.str (by decide +kernel) rfl) pa_nil))))))), ?_⟩
    have q0 := q H (Same.refl H)
    have notext : ∀ {z : Str}, NoText H va → va ≠ .non → z ≠ "list" → ∀ {R : VK}, R (.bl false) H → True := fun _ _ _ _ _ => trivial
    have e1 : ∀ a b : Str, decide (V.str a = V.str b) = decide (a = b) := fun a b => decide_eq_decide.mpr ⟨V.str.inj, fun q => by rw [q]⟩
    cases n with
    | tlN e =>
      subst e
      exact ⟨_, rfl, t, _, 0, _, rfl, rfl, SqT.of ht, atI_nat (j := 0) rfl, _, rfl, _, rfl, iteT ⟨_, rfl, rfl, _, rfl, iteF q0⟩⟩
    | lsN e =>
      subst e
      refine ⟨_, rfl, t, _, 0, _, rfl, rfl, SqT.of ht, atI_nat (j := 0) rfl, _, rfl, _, rfl, iteT ⟨_, rfl, rfl, _, rfl, iteT ⟨_, rfl, by show 2 ≤ sizeLine; decide, fun p hp => ?_⟩⟩⟩
      have s1 := same_mk (o := .tup [.str "list", .str ""]) hp
      refine ⟨strD ["list", ""], strD ["list", ""], .tup (SqT.of (s1 _ _ ht)) (dp_strs ["list", ""]), .tup (SqT.of upd_same) (dp_strs ["list", ""]), shaped_strs _ (by decide +kernel), shaped_strs _ (by decide +kernel), ?_⟩
      rw [eqv_str2]
      exact q _ s1
    | @lsB p h n =>
      exact ⟨_, rfl, t, _, 0, _, rfl, rfl, SqT.of ht, atI_nat (j := 0) rfl, _, rfl, _, rfl, iteN n ⟨_, rfl, rfl, _, rfl, iteY rfl ⟨_, rfl, .inr ⟨va, rfl, h, fun H1 s1 => ⟨_, rfl, iteF (q H1 s1)⟩⟩⟩⟩⟩
    | @lsE p h n =>
      have nn : va ≠ .non := fun e => by
        obtain ⟨a, e2, _⟩ := h
        rw [e] at e2
        cases e2
      refine ⟨_, rfl, t, _, 0, _, rfl, rfl, SqT.of ht, atI_nat (j := 0) rfl, _, rfl, _, rfl, iteN nn ⟨_, rfl, rfl, _, rfl, iteY rfl ⟨_, rfl, .inl ⟨va, [], rfl, h, ⟨(fun e he => by cases he), .nil, Nat.zero_le _⟩, fun H1 s1 => ⟨_, rfl, iteT ⟨_, rfl, va, [], rfl, h.up s1, _, _, rfl, rfl, _, rfl, iteN (by decide) ?_⟩⟩⟩⟩⟩⟩
      refine ⟨_, rfl, t, _, 1, _, rfl, rfl, SqT.of (s1 _ _ ht), atI_nat (j := 1) rfl, rfl, ?_⟩
      rw [e1, decide_eq_false (js_ne hk.1 n)]
      exact q H1 s1
    | @rd p h n =>
      obtain ⟨ty, hty, hk2⟩ := h.ty (K := K)
      exact ⟨_, rfl, t, _, 0, _, rfl, rfl, SqT.of ht, atI_nat (j := 0) rfl, _, rfl, _, rfl, iteN n ⟨_, rfl, rfl, _, rfl, iteN (by decide +kernel) ⟨_, rfl, _, _, .type ty, .type "str", false, rfl, .ty "str", hty, hk2, q0⟩⟩⟩
    | @se z h n =>
      obtain ⟨ty, hty, hk2⟩ := h.ty (K := K)
      exact ⟨_, rfl, t, _, 0, _, rfl, rfl, SqT.of ht, atI_nat (j := 0) rfl, _, rfl, _, rfl, iteN n ⟨_, rfl, rfl, _, rfl, iteN (by decide +kernel) ⟨_, rfl, _, _, .type ty, .type "str", false, rfl, .ty "str", hty, hk2, q0⟩⟩⟩
    | tl h n =>
      obtain ⟨ty, hty, hk2⟩ := h.ty (K := K)
      exact ⟨_, rfl, t, _, 0, _, rfl, rfl, SqT.of ht, atI_nat (j := 0) rfl, _, rfl, _, rfl, iteN n ⟨_, rfl, rfl, _, rfl, iteN (by decide +kernel) ⟨_, rfl, _, _, .type ty, .type "str", false, rfl, .ty "str", hty, hk2, q0⟩⟩⟩
theorem ok_asSightO {f fR fL fS : Addr} {fd fdR fdL fdS : FuncData} (F : Fun K "as_sight" "as_sight" sAsSight f fd) (T : TB mg) (aRow : At K mg "is_row" fR fdR ["thing", "size"]) (aAsLook : At K mg "as_look" fL fdL ["thing"]) (aCanShow : At K mg "can_show" fS fdS ["look", "answer"])
    (GRow : FnOk P w K mg base CX0 1 fR fdR ["thing", "size"] spRow2) (GAsLook : FnOk P w K mg base CX0 5 fL fdL ["thing"] spAsLook2) (GCanShow : FnOk P w K mg base CX0 4 fS fdS ["look", "answer"] spCanShowO) : FnOk P w K mg base CX0 6 f fd ["thing"] spAsSightO := by
  refine F.ok scAsSight (fun vs H Q E h => ?_) (fun cdv A outer s H vs Q E hr h => ?_)
  · obtain ⟨v, rfl, _⟩ := h
    rfl
  · obtain ⟨v, rfl, hv, q⟩ := h
    refine ⟨_, pss_cons (ps_if (pt_not (pt_val (pe_call GRow (hr.mono (by decide)) rfl aRow.m aRow.k aRow.b .nil pass0 (pa_cons (pv 0) (pa_cons pe_int pa_nil))))) (pss_one (ps_ret pe_non)) (pss_nil))
            (pss_cons (ps_set (i := 1) scAsSight.nd rfl (Or.inl rfl) (pe_call GAsLook (hr.mono (by decide)) rfl aAsLook.m aAsLook.k aAsLook.b .nil pass0 (pa_cons (pe_ix ix_row (pv 0) pe_int (fun _ _ => rfl)) pa_nil)))
            (pss_cons (ps_if (PW.pt (pw_or (pt_cmp (pc_isN (pv 1))) (pw_or1 (pt_not (pt_val (pe_call GCanShow (hr.mono (by decide)) rfl aCanShow.m aCanShow.k aCanShow.b .nil pass0 (pa_cons (pv 1) (pa_cons (pe_ix ix_row (pv 0) pe_int (fun _ _ => rfl)) pa_nil)))))))) (pss_one (ps_ret pe_non)) (pss_nil))
            (pss_cons (ps_if (pt_val (pe_callB isi_LT (by rfl) T.isinstance (by decide +kernel) (pa_cons (pe_ix ix_row (pv 0) pe_int (fun _ _ => rfl)) (pa_cons (pe_tup (pa_cons (pe_bltn (v := .ty "list") (by rfl) T.list (by decide +kernel) rfl) (pa_cons (pe_bltn (v := .ty "tuple") (by rfl) T.tuple (by decide +kernel) rfl) pa_nil))) pa_nil)))) (pss_one (ps_ret (pe_tup (pa_cons (pv 1) (pa_cons (pe_callTy call_tup_row (by rfl) T.tuple (by decide +kernel) (pa_cons (pe_ix ix_row (pv 0) pe_int (fun _ _ => rfl)) pa_nil)) pa_nil))))) (pss_nil))
            (pss_one (ps_ret (pe_tup (pa_cons (pv 1) (pa_cons (pe_ix ix_row (pv 0) pe_int (fun _ _ => rfl)) pa_nil)))))))), ?_⟩
    cases hv with
    | no h => exact ⟨_, rfl, .inr ⟨v, 2, rfl, h, fun H1 s1 => ⟨_, rfl, iteT (q H1 s1)⟩⟩⟩
    | @len xs h n =>
      refine ⟨_, rfl, .inl ⟨v, xs, 2, rfl, h, fun H1 s1 => ⟨_, rfl, ?_⟩⟩⟩
      rw [decide_eq_false (show ¬ (xs.length : Int) = 2 from fun e => n (by omega))]
      exact iteT (q H1 s1)
    | @look x y h o =>
      exact ⟨_, rfl, .inl ⟨v, _, 2, rfl, h, fun H1 s1 => ⟨_, rfl, iteF ⟨_, rfl, _, 0, _, h.up s1, rfl, atI_nat (j := 0) rfl, .inr ⟨x, rfl, o.up s1, fun H2 s2 => ⟨_, rfl, _, rfl, iteT (q H2 (s1.trans s2))⟩⟩⟩⟩⟩⟩
    | @ans x y k h hx ok n =>
      refine ⟨_, rfl, .inl ⟨v, _, 2, rfl, h, fun H1 s1 => ⟨_, rfl, iteF ⟨_, rfl, _, 0, _, h.up s1, rfl, atI_nat (j := 0) rfl, .inl ⟨x, k, rfl, hx.up s1, ok, fun t H2 s2 ht => ?_⟩⟩⟩⟩⟩
      have s12 := s1.trans s2
      exact ⟨_, rfl, _, rfl, iteN (by intro z; cases z) ⟨_, rfl, _, rfl, _, 1, _, h.up s12, rfl, atI_nat (j := 1) rfl, t, y, k, rfl, ht, ok, n.up s12, fun H3 s3 => ⟨_, rfl, iteT (q H3 (s12.trans s3))⟩⟩⟩
end
end R3

set_option maxHeartbeats 3900000
/-! enumerate of a tuple -/
namespace ET
open PySem PySem.Spec PyProof.Rows L2
abbrev itObj (l : Addr) : Obj := { cls := .type "tuple_iterator", data := .fields #[.ref l, .int 0 0] }
abbrev enObj (it : Addr) : Obj := { cls := .type "enumerate", data := .fields #[.none, .bool false, .ref it, rawInt 0, .none, .none] }
theorem meets_enumT (l : Addr) (its : Array Value) (n : Nat) (dct : Option Addr) (sl : Array (Option Value)) :
    Meets (Builtin.«enumerate.__new__» ⟨[.type "enumerate", .ref l], []⟩) (fun _ R s => s.heap.get? l = some { cls := .type "tuple", dict := dct, data := .seq its n, slots := sl } ∧
      R (.ok (.ret (.ref (s.heap.push (itObj l)).objs.size))) { s with heap := (s.heap.push (itObj l)).push (enObj s.heap.objs.size) }) :=
  .of_wp fun prog w A R s ha => by
    obtain ⟨hp, gg, dd, tk, os⟩ := s
    obtain ⟨hl, ha⟩ := ha
    have isub := sub_enumerate
    have hT : Heap.IsTuple (Shared.heap ⟨hp, gg, dd, tk, os⟩) l its := ⟨_, hl, rfl, n, rfl⟩
    wp_walk using AutoSeq1.wpAny_loadPart' hl
    refine wpAny_stack_any fun stk => wpAny_pure ?_
    split
    · rename_i c _ _ _ _ _
      cases (c == Value.type "enumerate") <;> (wp_walk using AutoSeq1.wpAny_loadPart' hl, wpAny_pyIter_tuple hT; exact ⟨_, rfl, ha⟩)
    · wp_walk using AutoSeq1.wpAny_loadPart' hl, wpAny_pyIter_tuple hT
      exact ⟨_, rfl, ha⟩
theorem call_enumT {prog : Program} {w : World} {A : Around} {E : Value → Shared → Prop} {s : Shared} {l : Addr} {its : Array Value} {Q : Value → Shared → Prop} (hL : s.heap.IsTuple l its)
    (h : ∀ h', IsEnum h' (s.heap.objs.size + 1) s.heap.objs.size 0 .none → h'.IsTupleIter s.heap.objs.size l 0 → (∀ b o, s.heap.get? b = some o → h'.get? b = some o) → Q (.ref (s.heap.objs.size + 1)) { s with heap := h' }) :
    wpAny (model prog w) A (call (.type "enumerate") [.ref l]) Q E s := by
  obtain ⟨⟨c, dct, dt, sl⟩, hl, hc, n, hd⟩ := hL
  obtain rfl : c = .type "tuple" := hc
  obtain rfl : dt = .seq its n := hd
  refine callType_new F.called_enumerate (by decide) (F.typeCall_enumerate_1 _) (F.newCall_enumerate_1 _) (fun obj => F.args_object_init_2 obj _) F.entry_enumerate_new (meets_enumT l its n dct sl) ⟨hl, ?_⟩
  have ez : (s.heap.push (itObj l)).objs.size = s.heap.objs.size + 1 := Heap.size_push ..
  show _ ∧ _
  rw [ez]
  have en : IsEnum ((s.heap.push (itObj l)).push (enObj s.heap.objs.size)) (s.heap.objs.size + 1) s.heap.objs.size 0 .none := by
    have q := Heap.get?_push_size (s.heap.push (itObj l)) (o := enObj s.heap.objs.size) rfl
    rw [ez] at q
    exact q
  exact ⟨⟨_, en, rfl⟩, h _ en ⟨_, Heap.get?_push_of_some _ (Heap.get?_push_size _ rfl), rfl, rfl⟩ fun b o x => Heap.get?_push_of_some _ (Heap.get?_push_of_some _ x)⟩
/-- the things of the tuple at a, each in a new pair with its place -/
def Itu (K : PySem.W.Frag) (a : Addr) (xs : List V) : It :=
  ⟨fun i H => SqT K H a xs ∧ i < xs.length, fun i H v H' => ∃ T x, v = .ref T ∧ H T = none ∧ H' = upd H T (.tup [.int (i : Nat), x]) ∧ xs[i]? = some x, fun i H => SqT K H a xs ∧ xs.length ≤ i⟩
theorem turn_enumT {P : Program} {w : World} {K : PySem.W.Frag} {elts : List Expr} {kk : Nat} {tpos : Pos} (a e it : Addr) (xs : List V) :
    Turn P w K (.Tuple elts kk tpos) (Itu K a xs) [e, it] e (fun i h => (∃ old, IsEnum h e it ((i : Nat) : Int) old) ∧ h.IsTupleIter it a i ∧ e ≠ it ∧ a ≠ it ∧ a ≠ e ∧ i ≤ xs.length) where
  mem := by simp
  obj := fun i h st b hb => by
    obtain ⟨⟨old, he⟩, ⟨o, ho, hc, hd⟩, _⟩ := st
    rcases (show b = e ∨ b = it by simpa using hb) with rfl | rfl
    · exact ⟨_, he, fun v q => nomatch q⟩
    · exact ⟨o, ho, fun v q => by rw [hd] at q; cases q⟩
  keep := fun i h h' st k => by
    obtain ⟨⟨old, he⟩, ⟨o, ho, r⟩, hne⟩ := st
    exact ⟨⟨old, k e (by simp) _ he⟩, ⟨o, k it (by simp) _ ho, r⟩, hne⟩
  item := by
    intro X hP hw hK hc i pins s σ H E I hf st hg
    subst hP hw hK
    obtain ⟨⟨old, he⟩, hit, hne, na, nb, nle⟩ := st
    obtain ⟨hq, ilt⟩ := hg
    have hx : xs[i]? = some xs[i] := List.getElem?_eq_getElem ilt
    generalize xs[i] = x at hx
    obtain ⟨its, rv, p, hz⟩ := I.tuple hq
    obtain ⟨u, hu, ru⟩ := rv.get hx
    have hel : e < s.heap.objs.size := Heap.lt_size he
    have hil : it < s.heap.objs.size := by obtain ⟨_, q, _⟩ := hit; exact Heap.lt_size q
    have pt : s.heap.IsTuple a its.toArray := p
    have D := Draws.tuple (prog := X.prog) (w := X.w) (A := X.A.in1) (I.ok.hd hc) it a na its.toArray
    have hlt : i < its.toArray.size := by
      have := (List.getElem?_eq_some_iff.mp hu).1
      simpa using this
    have nef : e ∉ [it, a] := by
      simp only [List.mem_cons, List.not_mem_nil, or_false, not_or]
      exact ⟨hne, fun z => nb z.symm⟩
    refine wpAny_pyNext_enum_itemD D he ⟨hit, pt⟩ hlt hne nef fun v h' tk hv ho hit' hT hsz hk => ?_
    have ev : v = u := by
      have hv2 : its[i]? = some v := by simpa using hv
      rw [hu] at hv2
      exact (Option.some.inj hv2).symm
    subst ev
    refine ⟨_, rfl, wpAny_letOwnedTupleGo_enum (s := { s with heap := h', toks := tk + 1 }) ho fun h'' he' sb => ?_⟩
    have away : ∀ b, b ∉ [e, it] → b ≠ e ∧ b ≠ it := fun b hb => ⟨fun z => hb (by simp [z]), fun z => hb (by simp [z])⟩
    have hT2 : h''.get? s.heap.objs.size = some { cls := .type "tuple", data := .seq #[.int i tk, v] } := (sb.2 _ (Nat.ne_of_gt hel)).trans hT
    have I1 : Inv X pins σ (upd H s.heap.objs.size (.tup [.int (i : Nat), x])) { s with heap := h'', toks := tk + 1 } := by
      refine I.turnedNew (ch := [e, it]) (fun b ob hb q => ?_) hf (Nat.le_refl _) ?_
      · exact (sb.2 b (away b hb).1).trans (hk b ob (away b hb).1 (away b hb).2 q)
      · exact ⟨by show 2 ≤ sizeLine; decide, [.int i tk, v], .cons ⟨_, rfl⟩ (.cons ru .nil), ⟨_, hT2, rfl, _, rfl⟩⟩
    refine ⟨.ref s.heap.objs.size, _, I1, rfl, ⟨s.heap.objs.size, x, rfl, I.hok.fresh (Nat.le_refl _), rfl, hx⟩, ⟨⟨v, ?_⟩, ?_, hne, na, nb, ilt⟩, fun b hb => ?_⟩
    · rw [show ((i + 1 : Nat) : Int) = (i : Int) + 1 by omega]
      exact he'
    · obtain ⟨⟨o, h1, h2⟩, _⟩ := hit'
      exact ⟨o, (sb.2 it (Ne.symm hne)).trans h1, h2⟩
    · have lt : b < s.heap.objs.size := by
        rcases (show b = e ∨ b = it by simpa using hb) with z | z
        · rw [z]; exact hel
        · rw [z]; exact hil
      rw [upd_ne (Nat.ne_of_lt lt)]
      exact (hf b hb).1
  done := by
    intro X hP hw hK hc i pins s σ H E I hf st hg
    subst hP hw hK
    obtain ⟨⟨old, he⟩, hit, hne, na, nb, nle⟩ := st
    obtain ⟨hq, hx⟩ := hg
    obtain ⟨its, rv, p, hz⟩ := I.tuple hq
    obtain ⟨f0, f1, f2, f3, f4, f5⟩ := hf it (by simp)
    have D := Draws.tuple (prog := X.prog) (w := X.w) (A := X.A.in1) (I.ok.hd hc) it a na its.toArray
    have hl := rv.length
    have ei : i = its.toArray.size := by
      have e1 : its.toArray.size = its.length := by simp
      rw [e1, ← hl]
      exact Nat.le_antisymm nle hx
    have pt : s.heap.IsTuple a its.toArray := p
    rw [ei] at hit
    exact wpAny_pyNext_enum_endD D he ⟨hit, pt⟩ fun h' eb => ⟨rfl, I.turned (t' := s.toks) (fun b o hb q => eb b o hb q) f0 f1 f3 f4 f5⟩
  self := fun A i s Q E st h => let ⟨⟨_, he⟩, _⟩ := st; wpAny_pyIter_enum he h
/-- for (i, x) in enumerate(e), e a tuple -/
def iEnumT (K : PySem.W.Frag) (ta : TA) : TI := fun σ H R => ta σ H fun vs H1 => ∃ a xs, vs = [.ref a] ∧ SqT K H1 a xs ∧ R (Itu K a xs) H1
theorem pi_enumT {X : Cx} {e : Expr} {ta : TA} {p pos tpos : Pos} {elts : List Expr} {kk : Nat} (hg : Gl X "enumerate") (hm : X.mg "enumerate" = none) (ha : PA X [e] ta) (hs : starEach [e] X.env = [(false, eval e X.env)] := by rfl) :
    PI X (.Tuple elts kk tpos) (.Call (.Name "enumerate" p) [e] [] pos) (iEnumT X.K ta) := by
  refine ⟨fun pins s σ H R I h => ?_⟩
  refine Call_ (ld_blt I hg hm boot_enumerate (PyProof.Rows.callWith_type1 (thn (ha.run pos pins s σ H _ I h) fun us s1 ⟨vs, H1, I1, r1, a, xs, ex, hq, q⟩ => ?_) hs rfl))
  subst ex
  obtain rfl : us = [Value.ref a] := by
    cases r1 with
    | cons r rr =>
      cases rr
      cases r
      rfl
  obtain ⟨its, rv, p', hz⟩ := I1.tuple hq
  have pt : s1.heap.IsTuple a its.toArray := p'
  have al : a < s1.heap.objs.size := by obtain ⟨_, z, _⟩ := pt; exact Heap.lt_size z
  refine call_enumT pt fun h' he hit hk => wpAny_pyIter_enum he ?_
  have I2 : Inv X pins σ H1 { s1 with heap := h' } := I1.kept (t' := s1.toks) hk
  refine ⟨s1.heap.objs.size + 1, [s1.heap.objs.size + 1, s1.heap.objs.size], _, _, H1, rfl, I2, turn_enumT a (s1.heap.objs.size + 1) s1.heap.objs.size xs, ⟨⟨.none, he⟩, hit, Nat.succ_ne_self _, Nat.ne_of_lt al, Nat.ne_of_lt (Nat.lt_succ_of_lt al), Nat.zero_le _⟩, fun b hb => ?_, q⟩
  have le : s1.heap.objs.size ≤ b := by
    rcases (show b = s1.heap.objs.size + 1 ∨ b = s1.heap.objs.size by simpa using hb) with z | z
    · rw [z]; exact Nat.le_add_right _ _
    · rw [z]; exact Nat.le_refl _
  exact I1.fpOk le (I1.hok.fresh le)
theorem walk_enumT {K : PySem.W.Frag} {a : Addr} {xs : List V} : Walk (Itu K a xs) xs.length (fun H => SqT K H a xs) (YPair (fun i => some (.int (i : Nat))) (fun i => xs[i]?)) := by
  refine ⟨fun i _ hi q => ⟨q, hi⟩, fun _ q => ⟨q, Nat.le_refl _⟩, fun i H v H' _ q y => ?_⟩
  obtain ⟨T, x, h1, h2, h3, h4⟩ := y
  exact ⟨T, .int (i : Nat), x, h1, h2, h3, rfl, h4⟩
end ET

set_option maxHeartbeats 3900000
/-! zip of a list and a tuple -/
namespace ZL
open PySem PySem.Spec PyProof.Rows L2
theorem nd {x y : Nat} (h : x < y ∨ y < x) : x ≠ y := by omega
/-- the pairs of the list at a and the tuple at b -/
def Izt (K : PySem.W.Frag) (a b : Addr) (xs ys : List V) : It where
  go i H := (SqL K H a xs ∧ SqT K H b ys) ∧ i < xs.length ∧ i < ys.length
  yld i H v H' := ∃ T x y, v = .ref T ∧ H T = none ∧ H' = upd H T (.tup [x, y]) ∧ xs[i]? = some x ∧ ys[i]? = some y
  stop i H := (SqL K H a xs ∧ SqT K H b ys) ∧ (xs.length ≤ i ∨ ys.length ≤ i)
structure Zst (z tI tO p q a b n m i : Nat) (h : Heap) : Prop where
  z : IsZip h z tI tO .none
  tI : IsTupOf2 h tI (.ref p) (.ref q)
  tO : ∃ u v, IsTupOf2 h tO u v
  p : h.IsListIter p a i
  q : h.IsTupleIter q b i
  n : i ≤ n
  m : i ≤ m
theorem turn_zipLT {P : Program} {w : World} {K : PySem.W.Frag} {elts : List Expr} {kk : Nat} {tpos : Pos} {g a b : Nat} (xs ys : List V) (ha : a < g) (hb : b < g) :
    Turn P w K (.Tuple elts kk tpos) (Izt K a b xs ys) [g + 4, g + 2, g + 3, g, g + 1] (g + 4) (fun i h => Zst (g + 4) (g + 2) (g + 3) g (g + 1) a b xs.length ys.length i h) where
  mem := by simp
  obj := fun i h st c hc => by
    have cs : c = g + 4 ∨ c = g + 2 ∨ c = g + 3 ∨ c = g ∨ c = g + 1 := by simpa using hc
    obtain ⟨u, v, hO⟩ := st.tO
    obtain ⟨o1, e1, _, d1⟩ := st.p
    obtain ⟨o2, e2, _, d2⟩ := st.q
    rcases cs with rfl | rfl | rfl | rfl | rfl
    · exact ⟨_, st.z, fun v x => nomatch x⟩
    · exact ⟨_, st.tI, fun v x => nomatch x⟩
    · exact ⟨_, hO, fun v x => nomatch x⟩
    · exact ⟨o1, e1, fun v x => by rw [d1] at x; cases x⟩
    · exact ⟨o2, e2, fun v x => by rw [d2] at x; cases x⟩
  keep := fun i h h' st k => by
    obtain ⟨u, v, hO⟩ := st.tO
    exact ⟨k _ (by simp) _ st.z, k _ (by simp) _ st.tI, ⟨u, v, k _ (by simp) _ hO⟩, st.p.at fun o => k _ (by simp) o, st.q.at fun o => k _ (by simp) o, st.n, st.m⟩
  item := by
    intro X hP hw hK hc i pins s σ H E I hf st hg
    subst hP hw hK
    obtain ⟨⟨qx, qy⟩, lx, ly⟩ := hg
    obtain ⟨its, rv, pl, _⟩ := I.list qx
    obtain ⟨its2, rv2, pt, _⟩ := I.tuple qy
    have pt : s.heap.IsTuple b its2.toArray := pt
    have hx : xs[i]? = some xs[i] := List.getElem?_eq_getElem lx
    have hy : ys[i]? = some ys[i] := List.getElem?_eq_getElem ly
    generalize xs[i] = x at hx
    generalize ys[i] = y at hy
    obtain ⟨ux, hux, rux⟩ := rv.get hx
    obtain ⟨uy, huy, ruy⟩ := rv2.get hy
    have gl : g + 4 < s.heap.objs.size := Heap.lt_size st.z
    have D1 := Draws.list (prog := X.prog) (w := X.w) (A := X.A.in1) (I.ok.hd hc) g a (Nat.ne_of_lt ha) its.toArray
    have D2 := Draws.tuple (prog := X.prog) (w := X.w) (A := X.A.in1) (I.ok.hd hc) (g + 1) b (nd (by omega)) its2.toArray
    have S : ZipSep2 (g + 4) (g + 2) (g + 3) g (g + 1) [g, a] [g + 1, b] := by
      constructor <;> (try simp only [List.mem_cons, List.not_mem_nil, or_false, not_or, true_or]) <;> first | exact nd (by omega) | exact ⟨nd (by omega), nd (by omega)⟩
    obtain ⟨u0, v0, hO⟩ := st.tO
    have n1 : i < its.toArray.size := by
      have := (List.getElem?_eq_some_iff.mp hux).1
      simpa using this
    have n2 : i < its2.toArray.size := by
      have := (List.getElem?_eq_some_iff.mp huy).1
      simpa using this
    refine wpAny_pyNext_zipD2_item S D1 D2 st.z st.tI hO ⟨st.p, pl.isList⟩ ⟨st.q, pt⟩ n1 n2 fun v1 v2 h' tk hv1 hv2 z' tO' s1' s2' hT hsz hk => ?_
    obtain rfl : v1 = ux := by
      have : its[i]? = some v1 := by simpa using hv1
      exact Option.some.inj (this.symm.trans hux)
    obtain rfl : v2 = uy := by
      have : its2[i]? = some v2 := by simpa using hv2
      exact Option.some.inj (this.symm.trans huy)
    refine ⟨_, rfl, wpAny_letOwnedTupleGo_zip (s := { s with heap := h', toks := tk }) z' fun h'' z'' sb => ?_⟩
    have far : ∀ c, c ∉ [g + 4, g + 2, g + 3, g, g + 1] → c ≠ g + 4 ∧ c ≠ g + 3 ∧ c ≠ g ∧ c ≠ g + 1 := fun c hc => by
      simp only [List.mem_cons, List.not_mem_nil, or_false, not_or] at hc
      exact ⟨hc.1, hc.2.2.1, hc.2.2.2.1, hc.2.2.2.2⟩
    have mk : h''.get? s.heap.objs.size = some { cls := .type "tuple", data := .seq #[v1, v2] } := (sb.2 _ (nd (by omega))).trans hT
    have J : Inv X pins σ (upd H s.heap.objs.size (.tup [x, y])) { s with heap := h'', toks := tk } := by
      refine I.turnedNew (ch := [g + 4, g + 2, g + 3, g, g + 1]) (fun c o hc q => ?_) hf (Nat.le_refl _) ⟨by show 2 ≤ sizeLine; decide, [v1, v2], .cons rux (.cons ruy .nil), ⟨_, mk, rfl, _, rfl⟩⟩
      obtain ⟨c1, c2, c3, c4⟩ := far c hc
      exact (sb.2 c c1).trans (hk c o c1 c2 c3 c4 q)
    refine ⟨.ref s.heap.objs.size, _, J, rfl, ⟨s.heap.objs.size, x, y, rfl, I.hok.fresh (Nat.le_refl _), rfl, hx, hy⟩, ⟨z'', ?_, ⟨v1, v2, ?_⟩, ?_, ?_, lx, ly⟩, fun c hc => ?_⟩
    · exact (sb.2 _ (nd (by omega))).trans (hk _ _ (nd (by omega)) (nd (by omega)) (nd (by omega)) (nd (by omega)) st.tI)
    · exact (sb.2 _ (nd (by omega))).trans tO'
    · exact s1'.1.at fun o q => (sb.2 _ (nd (by omega))).trans q
    · exact s2'.1.at fun o q => (sb.2 _ (nd (by omega))).trans q
    · have : c < s.heap.objs.size := by
        have cs : c = g + 4 ∨ c = g + 2 ∨ c = g + 3 ∨ c = g ∨ c = g + 1 := by simpa using hc
        rcases cs with rfl | rfl | rfl | rfl | rfl <;> exact Nat.lt_of_le_of_lt (by omega) gl
      rw [upd_ne (Nat.ne_of_lt this)]
      exact (hf c hc).1
  done := by
    intro X hP hw hK hc i pins s σ H E I hf st hg
    subst hP hw hK
    obtain ⟨⟨qx, qy⟩, over⟩ := hg
    obtain ⟨its, rv, pl, _⟩ := I.list qx
    obtain ⟨its2, rv2, pt, _⟩ := I.tuple qy
    have pt : s.heap.IsTuple b its2.toArray := pt
    have D1 := Draws.list (prog := X.prog) (w := X.w) (A := X.A.in1) (I.ok.hd hc) g a (Nat.ne_of_lt ha) its.toArray
    have D2 := Draws.tuple (prog := X.prog) (w := X.w) (A := X.A.in1) (I.ok.hd hc) (g + 1) b (nd (by omega)) its2.toArray
    have S : ZipSep2 (g + 4) (g + 2) (g + 3) g (g + 1) [g, a] [g + 1, b] := by
      constructor <;> (try simp only [List.mem_cons, List.not_mem_nil, or_false, not_or, true_or]) <;> first | exact nd (by omega) | exact ⟨nd (by omega), nd (by omega)⟩
    obtain ⟨u0, v0, hO⟩ := st.tO
    have l1 : its.toArray.size = xs.length := by
      rw [rv.length]
      simp
    have l2 : its2.toArray.size = ys.length := by
      rw [rv2.length]
      simp
    have := st.n
    have := st.m
    refine wpAny_pyNext_zipD2_end S D1 D2 st.z st.tI hO ⟨st.p, pl.isList⟩ ⟨st.q, pt⟩ (by omega) (by omega) (by omega) fun h' tk hk => ⟨rfl, ?_⟩
    refine I.turnedL (ch := [g + 4, g + 2, g + 3, g, g + 1]) (fun c o hc q => ?_) hf
    simp only [List.mem_cons, List.not_mem_nil, or_false, not_or] at hc
    exact hk c o hc.1 hc.2.2.1 hc.2.2.2.1 hc.2.2.2.2 q
  self := fun A i s Q E st h => wpAny_pyIter_zip st.z h
/-- for (x, y) in zip(e, e2), e a list, e2 a tuple -/
def iZipLT (K : PySem.W.Frag) (ta : TA) : TI := fun σ H R => ta σ H fun vs H1 => ∃ a b xs ys, vs = [.ref a, .ref b] ∧ (SqL K H1 a xs ∧ SqT K H1 b ys) ∧ R (Izt K a b xs ys) H1
theorem pi_zipLT {X : Cx} {e e2 : Expr} {ta : TA} {p pos tpos : Pos} {elts : List Expr} {kk : Nat} (hg : Gl X "zip") (hm : X.mg "zip" = none) (ha : PA X [e, e2] ta)
    (hs : starEach [e, e2] X.env = (false, eval e X.env) :: starEach [e2] X.env := by rfl) (hpl : (backTo pos (starEach [e2] X.env)).any (·.1) = false := by rfl) :
    PI X (.Tuple elts kk tpos) (.Call (.Name "zip" p) [e, e2] [] pos) (iZipLT X.K ta) := by
  constructor
  intro pins s σ H R I h
  refine Call_ (ld_blt I hg hm boot_zip (PyProof.Rows.callWith_type1 (thn (ha.run pos pins s σ H _ I h) fun us s1 got => ?_) hs hpl))
  obtain ⟨vs, H1, J, rr, a, b, xs, ys, rfl, ⟨qx, qy⟩, k⟩ := got
  obtain rfl : us = [Value.ref a, Value.ref b] := by
    cases rr with
    | cons r1 rr =>
      cases rr with
      | cons r2 rr =>
        cases rr
        cases r1
        cases r2
        rfl
  obtain ⟨its, rv, pl, _⟩ := J.list qx
  obtain ⟨its2, rv2, pt, _⟩ := J.tuple qy
  have pt : s1.heap.IsTuple b its2.toArray := pt
  have la : a < s1.heap.objs.size := pl.lt
  have lb : b < s1.heap.objs.size := by
    obtain ⟨_, q, _⟩ := pt
    exact Heap.lt_size q
  refine zip_begins2 (begins_list a its.toArray) (begins_tuple b its2.toArray) pl.isList pt fun h' hz hI hO h1 h2 hsz hk => wpAny_pyIter_zip hz ?_
  refine ⟨s1.heap.objs.size + 4, _, _, _, H1, rfl, J.kept (t' := s1.toks) hk, turn_zipLT xs ys la lb, ⟨hz, hI, ⟨_, _, hO⟩, ⟨_, h1, rfl, rfl⟩, ⟨_, h2, rfl, rfl⟩, Nat.zero_le _, Nat.zero_le _⟩, fun c hc => ?_, k⟩
  have cs : c = s1.heap.objs.size + 4 ∨ c = s1.heap.objs.size + 2 ∨ c = s1.heap.objs.size + 3 ∨ c = s1.heap.objs.size ∨ c = s1.heap.objs.size + 1 := by simpa using hc
  have : s1.heap.objs.size ≤ c := by rcases cs with rfl | rfl | rfl | rfl | rfl <;> first | exact Nat.le_add_right _ _ | exact Nat.le_refl _
  exact J.fpOk this (J.hok.fresh this)
theorem walk_zipLT {K : PySem.W.Frag} {a b : Addr} {xs ys : List V} {n : Nat} (hn : n = min xs.length ys.length) : Walk (Izt K a b xs ys) n (fun H => SqL K H a xs ∧ SqT K H b ys) (YPair (fun i => xs[i]?) (fun i => ys[i]?)) := by
  refine ⟨fun i _ hi q => ⟨q, by omega, by omega⟩, fun _ q => ⟨q, by subst hn; omega⟩, fun i H v H' _ q y => ?_⟩
  obtain ⟨T, x, y, h1, h2, h3, h4, h5⟩ := y
  exact ⟨T, x, y, h1, h2, h3, h4, h5⟩
end ZL

set_option maxHeartbeats 3900000
/-! comprehensions over pairs whose things are told by what is true of them -/
namespace LR
open PySem PySem.Spec PyProof.Rows L2
open CB ZL
section
variable {J : It} {n : Nat} {G : Hp → Prop} {K : PySem.W.Frag} {fx fy : Nat → Option V} {i j : Nat} {te : TE} {σ : L2.St} {H1 : Hp} {D : Addr} {Qd : Hp → Prop}
theorem lcR2 (w : Walk J n G (YPair fx fy)) (hij : i ≠ j) (R : Nat → V → Hp → Prop) (mono : ∀ i y H H', TupS H H' → R i y H → R i y H') (hs : n < 1000000) (hD : H1 D = none) (hG : ∀ H', Same H1 H' → G H')
    (turn : ∀ (m : Nat) (x x' : V) (H2 : Hp), m < n → fx m = some x → fy m = some x' → Same H1 H2 → ∀ Q1 : VK, (∀ y H4, Same H2 H4 → R m y H4 → Q1 y H4) → te (((wipe σ [i, j]).set i (some x)).set j (some x')) H2 Q1)
    (hd : ∀ ys H', ys.length = n → Same H1 H' → H' D = some (.lst ys) → (∀ i y, ys[i]? = some y → R i y H') → Qd H') :
    ∃ W : Nat → Nat → Hp → Prop, (∃ m, W 0 m (upd H1 D (.lst []))) ∧ ∀ k m H, W k m H →
      (J.stop k H ∧ Qd H) ∨ (J.go k H ∧ ∃ Nx : Hp → Prop, (∀ H', Nx H' → ∃ m', m' < m ∧ W (k + 1) m' H') ∧ ∀ x H', J.yld k H x H' → gTup K 2 (gCons (gName i) (gCons (gName j) gNil)) x (wipe σ [i, j]) H' fun σ2 H2 => wipe σ2 [i, j] = wipe σ [i, j] ∧ tYes σ2 H2 fun b H3 =>
        if b = true then te σ2 H3 fun y H4 => ∃ acc, H4 D = some (.lst acc) ∧ acc.length < sizeLine ∧ Nx (upd H4 D (.lst (acc ++ [y]))) else Nx H3) := by
  refine lc_it w (fun k H' => Same H1 H' ∧ ∃ ys, ys.length = k ∧ H' D = some (.lst ys) ∧ ∀ m y, ys[m]? = some y → R m y H') ⟨same_mk hD, [], rfl, upd_same, fun m y h => by cases h⟩ (fun k H' _ q => hG H' q.1) ?_ ?_
  · rintro m x H2 H3 hm ⟨s2, ys, hl, hd2, hr⟩ ⟨T, x1, x2, rfl, hT, rfl, e1, e2⟩
    refine ⟨T, _, rfl, SqT.of upd_same, rfl, x1, _, rfl, x2, _, rfl, rfl, wipe2 hij x1 x2, ?_⟩
    have s3 : Same H2 (upd H2 T (.tup [x1, x2])) := same_mk hT
    refine turn m x1 x2 _ hm e1 e2 (s2.trans s3) _ fun v H4 s4 r => ?_
    have hd4 := s4 _ _ (s3 _ _ hd2)
    have up : TupS H4 (upd H4 D (.lst (ys ++ [v]))) := fun b xs h => by
      rw [upd_ne (ne_of h hd4 (by intro z; cases z))]
      exact h
    refine ⟨_, hd4, Nat.lt_of_lt_of_le (show ys.length < 1000000 by omega) (by decide), same_ch ((s2.trans s3).trans s4) hD, ys ++ [v], by rw [List.length_append, hl]; rfl, upd_same, fun q z hq => ?_⟩
    by_cases e : q < ys.length
    · rw [List.getElem?_append_left e] at hq
      exact mono _ _ _ _ up (mono _ _ _ _ (TupS.of (s3.trans s4)) (hr q z hq))
    · rw [List.getElem?_append_right (by omega)] at hq
      have lt := (List.getElem?_eq_some_iff.mp hq).1
      rw [List.length_singleton] at lt
      have eq : q = ys.length := by omega
      subst eq
      rw [Nat.sub_self] at hq
      cases hq
      rw [hl]
      exact mono _ _ _ _ up r
  · rintro H' ⟨s, ys, hl, h, hr⟩
    exact hd ys H' hl s h hr
end
section
variable {K : PySem.W.Frag} {i j ia ib : Nat} {te : TE} {σ : L2.St} {H : Hp} {Q : VK} {a b : Addr}
/-- over zip(x, y), x a list, y a tuple -/
theorem lcR_zipLT (xs ys : List V) (hij : i ≠ j) (R : Nat → V → Hp → Prop) (mono : ∀ i y H H', TupS H H' → R i y H → R i y H')
    (ha : σ[ia]? = some (some (.ref a))) (hb : σ[ib]? = some (some (.ref b))) (hx : H a = some (.lst xs)) (hy : H b = some (.tup ys)) (hl : xs.length = ys.length) (hs : xs.length < 1000000)
    (turn : ∀ (m : Nat) (x y : V) (H2 : Hp), xs[m]? = some x → ys[m]? = some y → Same H H2 → ∀ Q1 : VK, (∀ v H4, Same H2 H4 → R m v H4 → Q1 v H4) → te (((wipe σ [i, j]).set i (some x)).set j (some y)) H2 Q1)
    (hd : ∀ D zs H', zs.length = xs.length → Same H H' → H D = none → H' D = some (.lst zs) → (∀ i v, zs[i]? = some v → R i v H') → Q (.ref D) H') :
    tLc (iZipLT K (tCons (tVar ia) (tCons (tVar ib) tNil))) (gTup K 2 (gCons (gName i) (gCons (gName j) gNil))) tYes te [i, j] σ H Q := by
  refine ⟨_, ha, _, hb, a, b, xs, ys, rfl, ⟨SqL.of hx, SqT.of hy⟩, fun D hD => ?_⟩
  refine lcR2 (K := K) (walk_zipLT (K := K) (a := a) (b := b) (n := xs.length) (by omega)) hij R mono hs hD (fun H' s => ⟨s.seq (SqL.of hx), sameT s (SqT.of hy)⟩) ?_ (fun zs H' l s h2 r => hd D zs H' l s hD h2 r)
  intro m x y H2 hm ex ey s Q1 k
  exact turn m x y H2 ex ey s Q1 k
end
/-- all but what stands at D stays -/
def ButD (D : Addr) (H H' : Hp) : Prop := ∀ b o, H b = some o → b ≠ D → H' b = some o
theorem ButD.of {D : Addr} {H H' : Hp} (s : Same H H') : ButD D H H' := fun b o h _ => s b o h
section
variable {J : It} {n : Nat} {G : Hp → Prop} {Y : Nat → Hp → V → Hp → Prop} {j : Nat} {te : TE} {σ : L2.St} {H1 : Hp} {D : Addr} {Qd : Hp → Prop}
/-- as lcR; the things may be lists of their own -/
theorem lcRD (w : Walk J n G Y) (R : Nat → V → Hp → Prop) (mono : ∀ i y H H', ButD D H H' → R i y H → R i y H') (hs : n < 1000000) (hD : H1 D = none) (hG : ∀ H', Same H1 H' → G H')
    (turn : ∀ (i : Nat) (x : V) (H2 H3 : Hp), i < n → Same H1 H2 → (∃ acc, H2 D = some (.lst acc)) → Y i H2 x H3 → ∀ Q1 : VK, (∀ y H4, Same H2 H4 → R i y H4 → Q1 y H4) → te ((wipe σ [j]).set j (some x)) H3 Q1)
    (hd : ∀ ys H', ys.length = n → Same H1 H' → H' D = some (.lst ys) → (∀ i y, ys[i]? = some y → R i y H') → Qd H') :
    ∃ W : Nat → Nat → Hp → Prop, (∃ m, W 0 m (upd H1 D (.lst []))) ∧ ∀ i m H, W i m H →
      (J.stop i H ∧ Qd H) ∨ (J.go i H ∧ ∃ Nx : Hp → Prop, (∀ H', Nx H' → ∃ m', m' < m ∧ W (i + 1) m' H') ∧ ∀ x H', J.yld i H x H' → gName j x (wipe σ [j]) H' fun σ2 H2 => wipe σ2 [j] = wipe σ [j] ∧ tYes σ2 H2 fun b H3 =>
        if b = true then te σ2 H3 fun y H4 => ∃ acc, H4 D = some (.lst acc) ∧ acc.length < sizeLine ∧ Nx (upd H4 D (.lst (acc ++ [y]))) else Nx H3) := by
  refine lc_it w (fun i H' => Same H1 H' ∧ ∃ ys, ys.length = i ∧ H' D = some (.lst ys) ∧ ∀ m y, ys[m]? = some y → R m y H') ⟨same_mk hD, [], rfl, upd_same, fun m y h => by cases h⟩ (fun i H' _ q => hG H' q.1) ?_ ?_
  · rintro i x H2 H3 hi ⟨s2, ys, hl, hd2, hr⟩ y
    refine ⟨wipe1 x, turn i x H2 H3 hi s2 ⟨_, hd2⟩ y _ fun v H4 s4 r => ?_⟩
    have hd4 := s4 _ _ hd2
    have up : ButD D H4 (upd H4 D (.lst (ys ++ [v]))) := fun b o h nb => (upd_ne nb).trans h
    refine ⟨_, hd4, Nat.lt_of_lt_of_le (show ys.length < 1000000 by omega) (by decide), same_ch (s2.trans s4) hD, ys ++ [v], by rw [List.length_append, hl]; rfl, upd_same, fun m z hm => ?_⟩
    by_cases e : m < ys.length
    · rw [List.getElem?_append_left e] at hm
      exact mono _ _ _ _ up (mono _ _ _ _ (ButD.of s4) (hr m z hm))
    · rw [List.getElem?_append_right (by omega)] at hm
      have lt := (List.getElem?_eq_some_iff.mp hm).1
      rw [List.length_singleton] at lt
      have eq : m = ys.length := by omega
      subst eq
      rw [Nat.sub_self] at hm
      cases hm
      rw [hl]
      exact mono _ _ _ _ up r
  · rintro H' ⟨s, ys, hl, h, hr⟩
    exact hd ys H' hl s h hr
end
/-- a loop over a name that holds a tuple or a list -/
theorem for_row {K : PySem.W.Frag} {v : V} {xs : List V} {q : Nat} {g : TG} {tb : TS} {D : Ends} {σ : L2.St} {H : Hp} (hq : σ[q]? = some (some v)) (h : RowAt H v xs) (Pv : Nat → L2.St → Hp → Prop) (h0 : Pv 0 σ H) (keep : ∀ i τ H', Pv i τ H' → ∀ a o, v = .ref a → H a = some o → H' a = some o)
    (turn : ∀ i x τ H', i < xs.length → Pv i τ H' → xs[i]? = some x → g x τ H' fun σ2 H2 => tb { D with nx := Pv (i + 1), ct := Pv (i + 1), bk := D.nx } σ2 H2) (done : ∀ τ H', Pv xs.length τ H' → D.nx τ H') :
    tFor (iSeqV K q) g tb D σ H := by
  obtain ⟨a, rfl, h1 | h1⟩ := h
  · refine ⟨a, hq, .inl ⟨_, SqT.of h1, for_it (walk_tup (K := K) (a := a) (xs := xs)) Pv h0 (fun i τ H' _ p => SqT.of (keep i τ H' p _ _ rfl h1)) ?_ done⟩⟩
    rintro i x τ H' _ hi p ⟨rfl, hx⟩
    exact turn i x τ _ hi p hx
  · refine ⟨a, hq, .inr ⟨_, SqL.of h1, for_it (walk_list (K := K) (a := a) (xs := xs)) Pv h0 (fun i τ H' _ p => SqL.of (keep i τ H' p _ _ rfl h1)) ?_ done⟩⟩
    rintro i x τ H' _ hi p ⟨rfl, hx⟩
    exact turn i x τ _ hi p hx
section
variable {α : Type} {J : It} {n : Nat} {G : Hp → Prop} {Y : Nat → Hp → V → Hp → Prop} {tt : TT} {te : TE} {σ : L2.St} {H1 : Hp} {D : Addr} {Qd : Hp → Prop} {j : Nat}
/-- [g z for z in zs if f z] -/
theorem lcFM (w : Walk J n G Y) (zs : List α) (u g : α → V) (f : α → Bool) (hn : zs.length = n) (hs : n < 1000000) (hY : ∀ i H x H', Y i H x H' → H' = H ∧ (zs.map u)[i]? = some x) (hD : H1 D = none) (hG : ∀ H', Same H1 H' → G H')
    (test : ∀ z ∈ zs, ∀ (H2 : Hp), Same H1 H2 → ∀ Q1 : Bool → Hp → Prop, (∀ H3, Same H2 H3 → Q1 (f z) H3) → tt ((wipe σ [j]).set j (some (u z))) H2 Q1)
    (elt : ∀ z ∈ zs, f z = true → ∀ (H2 : Hp), Same H1 H2 → ∀ Q1 : VK, (∀ H3, Same H2 H3 → Q1 (g z) H3) → te ((wipe σ [j]).set j (some (u z))) H2 Q1)
    (hd : ∀ H', Same H1 H' → H' D = some (.lst ((zs.filter f).map g)) → Qd H') :
    ∃ W : Nat → Nat → Hp → Prop, (∃ m, W 0 m (upd H1 D (.lst []))) ∧ ∀ i m H, W i m H →
      (J.stop i H ∧ Qd H) ∨ (J.go i H ∧ ∃ Nx : Hp → Prop, (∀ H', Nx H' → ∃ m', m' < m ∧ W (i + 1) m' H') ∧ ∀ x H', J.yld i H x H' → gName j x (wipe σ [j]) H' fun σ2 H2 => wipe σ2 [j] = wipe σ [j] ∧ tt σ2 H2 fun b H3 =>
        if b = true then te σ2 H3 fun y H4 => ∃ acc, H4 D = some (.lst acc) ∧ acc.length < sizeLine ∧ Nx (upd H4 D (.lst (acc ++ [y]))) else Nx H3) := by
  subst hn
  refine lc_it w (fun i H' => Same H1 H' ∧ H' D = some (.lst (((zs.take i).filter f).map g))) ⟨same_mk hD, upd_same⟩ (fun i H' _ q => hG H' q.1) ?_ ?_
  · rintro i x H2 H3 hi ⟨s2, hd2⟩ y
    obtain ⟨rfl, hx⟩ := hY i H2 x H3 y
    rw [List.getElem?_map, List.getElem?_eq_getElem hi] at hx
    cases hx
    have hm : zs[i] ∈ zs := List.getElem_mem hi
    have tk : zs.take (i + 1) = zs.take i ++ [zs[i]] := by
      rw [List.take_succ, List.getElem?_eq_getElem hi]
      rfl
    refine ⟨wipe1 _, test zs[i] hm _ s2 _ fun H4 s4 => ?_⟩
    cases hf : f zs[i] with
    | true =>
      refine iteT (elt _ hm hf _ (s2.trans s4) _ fun H5 s5 => ⟨_, s5 _ _ (s4 _ _ hd2), ?_, same_ch ((s2.trans s4).trans s5) hD, ?_⟩)
      · rw [List.length_map]
        have h1 := List.length_filter_le f (zs.take i)
        rw [List.length_take] at h1
        exact Nat.lt_of_lt_of_le (show _ < 1000000 by omega) (by decide)
      · rw [upd_same, tk, List.filter_append, List.filter_cons_of_pos hf, List.filter_nil, List.map_append]
        rfl
    | false =>
      refine iteF ⟨s2.trans s4, ?_⟩
      rw [tk, List.filter_append, List.filter_cons_of_neg (by rw [hf]; decide), List.filter_nil, List.append_nil]
      exact s4 _ _ hd2
  · rintro H' ⟨s, h⟩
    rw [List.take_length] at h
    exact hd H' s h
end
end LR

set_option maxHeartbeats 3900000
/-! for i, x in enumerate(a name that holds a tuple or a list) -/
namespace ER
open PySem PySem.Spec PyProof.Rows L2 TL
open CB
def iEnumV (K : PySem.W.Frag) (i : Nat) : TI := fun σ H R => ∃ a, σ[i]? = some (some (.ref a)) ∧ ((∃ xs, SqT K H a xs ∧ R (ET.Itu K a xs) H) ∨ ∃ xs, SqL K H a xs ∧ R (Ite K a) H)
theorem pi_enumV {X : Cx} {e : Expr} {i : Nat} {p pos tpos : Pos} {elts : List Expr} {kk : Nat} (hg : Gl X "enumerate") (hm : X.mg "enumerate" = none) (ha : PE X e (tVar i)) (hs : starEach [e] X.env = [(false, eval e X.env)] := by rfl) :
    PI X (.Tuple elts kk tpos) (.Call (.Name "enumerate" p) [e] [] pos) (iEnumV X.K i) := by
  refine ⟨fun pins s σ H R I h => ?_⟩
  obtain ⟨a, hi, ⟨xs, q, r⟩ | ⟨xs, q, r⟩⟩ := h
  · exact (ET.pi_enumT hg hm (pa_cons ha pa_nil hs) hs).run pins s σ H R I ⟨_, hi, a, xs, rfl, q, r⟩
  · exact (pi_enum hg hm (pa_cons ha pa_nil hs) hs).run pins s σ H R I ⟨_, hi, a, xs, rfl, q, r⟩
theorem for_enumV {K : PySem.W.Frag} {v : V} {xs : List V} {q : Nat} {g : TG} {tb : TS} {D : Ends} {σ : L2.St} {H : Hp} (hq : σ[q]? = some (some v)) (h : RowAt H v xs) (Pv : Nat → L2.St → Hp → Prop) (h0 : Pv 0 σ H) (keep : ∀ i τ H', Pv i τ H' → ∀ a o, v = .ref a → H a = some o → H' a = some o)
    (turn : ∀ i x T τ H', i < xs.length → Pv i τ H' → xs[i]? = some x → H' T = none → g (.ref T) τ (upd H' T (.tup [.int (i : Nat), x])) fun σ2 H2 => tb { D with nx := Pv (i + 1), ct := Pv (i + 1), bk := D.nx } σ2 H2) (done : ∀ τ H', Pv xs.length τ H' → D.nx τ H') :
    tFor (iEnumV K q) g tb D σ H := by
  obtain ⟨a, rfl, h1 | h1⟩ := h
  · refine ⟨a, hq, .inl ⟨_, SqT.of h1, for_it (ET.walk_enumT (K := K) (a := a) (xs := xs)) Pv h0 (fun i τ H' _ p => SqT.of (keep i τ H' p _ _ rfl h1)) ?_ done⟩⟩
    rintro i x τ H' H2 hi p ⟨T, y0, y1, rfl, hT, rfl, hy0, hy1⟩
    cases hy0
    exact turn i y1 T τ _ hi p hy1 hT
  · refine ⟨a, hq, .inr ⟨_, SqL.of h1, for_it (walk_enum (K := K) (a := a) (xs := xs)) Pv h0 (fun i τ H' _ p => SqL.of (keep i τ H' p _ _ rfl h1)) ?_ done⟩⟩
    rintro i x τ H' H2 hi p ⟨T, y0, y1, rfl, hT, rfl, hy0, hy1⟩
    cases hy0
    exact turn i y1 T τ _ hi p hy1 hT
end ER

set_option maxHeartbeats 3900000
namespace R3
open PySem PySem.Spec PyProof.Rows L2 TL
open C8 (pss_cut tCut pe_gc)
open CB XW
abbrev sFirst : Stmt := top 35
abbrev sTog : Stmt := top 37
abbrev sSIni : Stmt := inClass (top 3) 0
abbrev sAIni : Stmt := inClass (top 4) 0
/-! the first two that bar each other -/
def Bar (ss : List (Lk × An)) (i j : Nat) : Prop := ∃ a b, ss[i]? = some a ∧ ss[j]? = some b ∧ barsM a b = true
def FstAp (ss : List (Lk × An)) : Option (Nat × Nat) → Prop
  | none => ∀ i j, i < j → ¬ Bar ss i j
  | some p => p.1 < p.2 ∧ Bar ss p.1 p.2 ∧ ∀ i j, i < j → (i < p.1 ∨ (i = p.1 ∧ j < p.2)) → ¬ Bar ss i j
theorem FstAp.det {ss : List (Lk × An)} {o o' : Option (Nat × Nat)} (h : FstAp ss o) (h' : FstAp ss o') : o = o' := by
  cases o with
  | none =>
    cases o' with
    | none => rfl
    | some p => exact absurd h'.2.1 (h _ _ h'.1)
  | some p =>
    cases o' with
    | none => exact absurd h.2.1 (h' _ _ h.1)
    | some q =>
      obtain ⟨i, j⟩ := p
      obtain ⟨i', j'⟩ := q
      obtain ⟨a1, a2, a3⟩ := h
      obtain ⟨b1, b2, b3⟩ := h'
      have e1 : ¬ (i' < i ∨ (i' = i ∧ j' < j)) := fun z => a3 _ _ b1 z b2
      have e2 : ¬ (i < i' ∨ (i = i' ∧ j < j')) := fun z => b3 _ _ a1 z a2
      dsimp only at *
      have : i = i' := by omega
      subst this
      have : j = j' := by omega
      subst this
      rfl
def pairV (H : Hp) (v : V) : Option (Nat × Nat) → Prop
  | none => v = .non
  | some p => ∃ t, v = .ref t ∧ H t = some (.tup [.int (p.1 : Int), .int (p.2 : Int)])
def spFirst : Sp := fun vs H Q _ => ∃ D ss, vs = [.ref D] ∧ SisL H D ss ∧ ss.length ≤ 1000 ∧ (∀ s ∈ ss, SiOk' s) ∧ ∀ v o H', Same H H' → FstAp ss o → pairV H' v o → Q v H'
def spTog (CA : Addr) : Sp := fun vs H Q E => ∃ D ss, vs = [.ref D] ∧ SisL H D ss ∧ ss.length ≤ 1000 ∧ (∀ s ∈ ss, SiOk' s) ∧ ∀ o, FstAp ss o → (o = none → ∀ H', Same H H' → Q .non H') ∧ ∀ p, o = some p → EWant2 H "first" "second" CA (.int (p.1 : Int)) (.int (p.2 : Int)) E
theorem SiAt.tup {H H' : Hp} {v : V} {s : Lk × An} (h : SiAt H v s) (e : TupS H H') : SiAt H' v s := by
  obtain ⟨t, u, va, rfl, h1, h2, h3⟩ := h
  refine ⟨t, u, va, rfl, e _ _ h1, e _ _ h2, ?_⟩
  obtain ⟨k, a⟩ := s
  cases a with
  | no => exact h3
  | tx z => exact h3
  | es l =>
    obtain ⟨b, e1, e2⟩ := h3
    exact ⟨b, e1, e _ _ e2⟩
theorem tupS_put {H : Hp} {p : Addr} {u w : HO} (h : H p = some u) (n : ∀ xs, u ≠ .tup xs) : TupS H (upd H p w) := fun b xs e => by
  rw [upd_ne fun z => by rw [z, h] at e; exact n xs (Option.some.inj e)]
  exact e
theorem TupS.trans {H H1 H2 : Hp} (a : TupS H H1) (b : TupS H1 H2) : TupS H H2 := fun c xs e => b c xs (a c xs e)
/-! sights of a run -/
def SgO (H : Hp) (v : V) : Option (Lk × An) → Prop
  | none => SgNo H v
  | some s => SiIn H v s ∧ SiOk' s
theorem SgO.up {H H' : Hp} {v : V} {o : Option (Lk × An)} (h : SgO H v o) (s : Same H H') : SgO H' v o := by
  cases o with
  | none => exact SgNo.up h s
  | some x => exact ⟨SiIn.up h.1 s, h.2⟩
def Okp (os : List (Option (Lk × An))) : Prop := (∀ o ∈ os, ∃ s, o = some s) ∧ os.Pairwise fun a b => ∀ s t, a = some s → b = some t → s.1 ≠ t.1
def Bad (os : List (Option (Lk × An))) (i : Nat) : Prop := Okp (os.take i) ∧ ∃ o, os[i]? = some o ∧ (o = none ∨ ∃ s t, o = some s ∧ some t ∈ os.take i ∧ t.1 = s.1)
theorem Bad.le {os : List (Option (Lk × An))} {j : Nat} (b : Bad os j) {i : Nat} (h : Okp (os.take i)) : i ≤ j := by
  obtain ⟨_, o, e, q⟩ := b
  refine Nat.le_of_not_lt fun lt => ?_
  have m : (os.take i)[j]? = some o := by rw [List.getElem?_take_of_lt lt, e]
  rcases q with rfl | ⟨s, t, rfl, ht, et⟩
  · obtain ⟨s, z⟩ := h.1 _ (List.mem_of_getElem? m)
    cases z
  · obtain ⟨k, hk⟩ := List.getElem?_of_mem ht
    have kj : k < j := by
      refine Nat.lt_of_not_le fun z => ?_
      rw [List.getElem?_eq_none (by rw [List.length_take]; omega)] at hk
      cases hk
    rw [List.getElem?_take_of_lt kj] at hk
    have hk2 : (os.take i)[k]? = some (some t) := by rw [List.getElem?_take_of_lt (by omega), hk]
    obtain ⟨l1, g1⟩ := List.getElem?_eq_some_iff.mp hk2
    obtain ⟨l2, g2⟩ := List.getElem?_eq_some_iff.mp m
    have := List.pairwise_iff_getElem.mp h.2 k j l1 l2 kj
    exact this t s g1 g2 et
theorem okp_snoc {os : List (Option (Lk × An))} {i : Nat} {s : Lk × An} (h : Okp (os.take i)) (e : os[i]? = some (some s)) (n : ∀ t, some t ∈ os.take i → t.1 ≠ s.1) : Okp (os.take (i + 1)) := by
  have tk : os.take (i + 1) = os.take i ++ [some s] := by
    rw [List.take_succ, e]
    rfl
  rw [tk]
  refine ⟨fun o ho => ?_, List.pairwise_append.mpr ⟨h.2, List.pairwise_singleton _ _, fun a ha b hb x y ex ey => ?_⟩⟩
  · rcases List.mem_append.mp ho with ho | ho
    · exact h.1 o ho
    · exact ⟨s, List.mem_singleton.mp ho⟩
  · rw [List.mem_singleton.mp hb] at ey
    cases ey
    subst ex
    exact n x ha
def Sgs (H : Hp) (xs : List V) (os : List (Option (Lk × An))) : Prop := xs.length = os.length ∧ ∀ (i : Nat) (x : V) (o : Option (Lk × An)), xs[i]? = some x → os[i]? = some o → SgO H x o
def spSOR (CS : Addr) : Sp := fun vs H Q E => ∃ v xs os, vs = [v] ∧ RowAt H v xs ∧ Sgs H xs os ∧ os.length ≤ 1000 ∧
  ((∃ ss : List (Lk × An), os = ss.map some ∧ (ss.map (·.1)).Nodup ∧ ∀ D H', Same H H' → H D = none → SisL H' D ss → Q (.ref D) H') ∨ ∃ i, Bad os i ∧ EWant H "index" CS (.int (i : Int)) E)
theorem okp_of {ss : List (Lk × An)} (h : (ss.map (·.1)).Nodup) : Okp (ss.map some) := by
  refine ⟨fun o ho => ?_, ?_⟩
  · obtain ⟨s, _, rfl⟩ := List.mem_map.mp ho
    exact ⟨s, rfl⟩
  · rw [List.pairwise_map]
    unfold List.Nodup at h
    rw [List.pairwise_map] at h
    refine h.imp fun {a b} ne s t es et => ?_
    cases es
    cases et
    exact ne
theorem take_some {os : List (Option (Lk × An))} {i : Nat} (h : Okp (os.take i)) : ∃ ss : List (Lk × An), os.take i = ss.map some := by
  generalize os.take i = l at h
  clear i
  have h1 := h.1
  clear h
  induction l with
  | nil => exact ⟨[], rfl⟩
  | cons a r ih =>
    obtain ⟨s, rfl⟩ := h1 a List.mem_cons_self
    obtain ⟨ss, e⟩ := ih fun o ho => h1 o (List.mem_cons_of_mem _ ho)
    exact ⟨s :: ss, by rw [e]; rfl⟩
theorem some_map_inj {l m : List (Lk × An)} (h : l.map some = m.map some) : l = m := by
  have := congrArg (List.filterMap id) h
  simpa [List.filterMap_map] using this
section
variable {P : Program} {w : World} {K : PySem.W.Frag} {mg : Str → Option Value} {base : Heap} {CS CA fS fA : Addr} {fdS fdA : FuncData}
abbrev BSig (K : PySem.W.Frag) (mg : Str → Option Value) (C f : Addr) : Prop := ECl K mg "BadSight" "index" C f
abbrev BApart (K : PySem.W.Frag) (mg : Str → Option Value) (C f : Addr) : Prop := ECl2 K mg "Apart" "first" "second" C f
theorem scSIni : FnScope ["self", "index"] ["self", "index"] (defScope sSIni) := ⟨rfl, rfl, rfl, by decide +kernel, rfl, by decide +kernel, by decide +kernel⟩
theorem ok_sini {f : Addr} {fd : FuncData} (F : Fun K "__init__" "BadSight.__init__" sSIni f fd) (B : BSig K mg CS fS) : FnOk P w K mg base CX0 1 f fd ["self", "index"] (spEIni "index" CS) := by
  refine F.ok scSIni (fun vs H Q E h => ?_) (fun cdv A outer s H vs Q E hr h => ?_)
  · obtain ⟨a, x, rfl, _⟩ := h
    rfl
  · obtain ⟨a, x, rfl, ha, k⟩ := h
    exact ⟨_, pss_one (ps_ost (pv 0) (pv 1) rfl), _, rfl, _, rfl, a, CS, rfl, B.ox, B.no, .inl ⟨ha, fun dx hdx hne => k dx hdx hne⟩⟩
theorem scAIni : FnScope ["self", "first", "second"] ["self", "first", "second"] (defScope sAIni) := ⟨rfl, rfl, rfl, by decide +kernel, rfl, by decide +kernel, by decide +kernel⟩
theorem ok_aini {f : Addr} {fd : FuncData} (F : Fun K "__init__" "Apart.__init__" sAIni f fd) (B : BApart K mg CA fA) : FnOk P w K mg base CX0 1 f fd ["self", "first", "second"] (spEIni2 "first" "second" CA) := by
  refine F.ok scAIni (fun vs H Q E h => ?_) (fun cdv A outer s H vs Q E hr h => ?_)
  · obtain ⟨a, x, y, rfl, _⟩ := h
    rfl
  · obtain ⟨a, x, y, rfl, ha, k⟩ := h
    exact ⟨_, pss_cons (ps_ost (pv 0) (pv 1) rfl) (pss_one (ps_ost (pv 0) (pv 2) rfl)), _, rfl, _, rfl, a, CA, rfl, B.ox, B.no1, .inl ⟨ha, fun d h1 h2 => ⟨_, rfl, _, rfl, a, CA, rfl, B.ox, B.no2, .inr ⟨d, _, upd_same, by rw [upd_ne h2]; exact upd_same, by show 1 ≤ 900; decide, k d h1 h2⟩⟩⟩⟩
theorem scFirst : FnScope ["sights", "first", "one", "second"] ["sights"] (defScope sFirst) := ⟨rfl, rfl, rfl, by decide +kernel, rfl, by decide +kernel, by decide +kernel⟩
theorem ok_first {f fB : Addr} {fd fdB : FuncData} (F : Fun K "first_apart" "first_apart" sFirst f fd) (T : TB mg) (aBarE : At K mg "bar_each_other" fB fdB ["one", "other"]) (GBarE : FnOk P w K mg base CX0 7 fB fdB ["one", "other"] spBarE) : FnOk P w K mg base CX0 8 f fd ["sights"] spFirst := by
  refine F.ok scFirst (fun vs H Q E h => ?_) (fun cdv A outer s H vs Q E hr h => ?_)
  · obtain ⟨D, ss, rfl, _⟩ := h
    rfl
  · obtain ⟨D, ss, rfl, ⟨vs, hD, vl, hv⟩, hl, ok, k⟩ := h
    refine ⟨_, pss_cons (ps_for PassesOwn.never rfl (pi_enum rfl T.enumerate (pa_cons (pv 0) pa_nil)) (pg_tup rfl (pgs_cons (pg_name (i := 1) scFirst.nd rfl (Or.inl rfl)) (pgs_cons (pg_name (i := 2) scFirst.nd rfl (Or.inl rfl)) pgs_nil))) (pss_one (ps_for PassesOwn.never rfl (pi_range2 rfl T.range (pa_cons (pe_op op_add (pv 1) pe_int) (pa_cons (pe_callB call_len_seq (by rfl) T.len PySem.boot_len (pa_cons (pv 0) pa_nil)) pa_nil))) (pg_name (i := 3) scFirst.nd rfl (Or.inl rfl)) (pss_one (ps_if (pt_val (pe_call GBarE (hr.mono (by decide)) rfl aBarE.m aBarE.k aBarE.b .nil pass0 (pa_cons (pv 2) (pa_cons (pe_ix ix_list (pv 0) (pv 3) (fun _ _ => rfl)) pa_nil)))) (pss_one (ps_ret (pe_tup (pa_cons (pv 1) (pa_cons (pv 3) pa_nil))))) (pss_nil))))))
            (pss_one (ps_ret pe_non)), ?_⟩
    refine ⟨_, rfl, D, vs, rfl, SqL.of hD, for_it (walk_enum (K := K) (a := D) (xs := vs)) (fun i σ H' => ∃ x1 x2 x3, σ = [some (.ref D), x1, x2, x3] ∧ Same H H' ∧ ∀ i' j', i' < j' → i' < i → ¬ Bar ss i' j')
      ⟨_, _, _, rfl, Same.refl H, fun i' j' _ h => absurd h (Nat.not_lt_zero _)⟩ (fun i σ H' _ q => by obtain ⟨_, _, _, _, s, _⟩ := q; exact s.seq (SqL.of hD)) ?_ ?_⟩
    · rintro i _ _ H1 H2 hi ⟨x1, x2, x3, rfl, s1, before⟩ ⟨T3, y0, y1, rfl, hT, rfl, hy0, hy1⟩
      cases hy0
      have hc : ss[i]? = some ss[i] := List.getElem?_eq_getElem (by omega)
      have s2 := same_mk (o := .tup [.int (i : Nat), y1]) hT
      have hT2 := upd_same (H := H1) (a := T3) (o := .tup [.int (i : Nat), y1])
      have s12 := s1.trans s2
      generalize upd H1 T3 (.tup [.int (i : Nat), y1]) = H3 at s2 hT2 s12 ⊢
      refine ⟨T3, _, rfl, SqT.of hT2, rfl, _, _, rfl, _, _, rfl, rfl, ?_⟩
      have vm : (vs.length : Int) < 2 ^ 62 := by omega
      refine ⟨_, rfl, _, _, rfl, rfl, _, rfl, D, _, rfl, .inl (SqL.of (s12 _ _ hD)), (i : Int) + 1, _, rfl, ⟨by omega, by omega, by omega, vm⟩, for_range (lo := (i : Int) + 1) (n := ((vs.length : Int) - ((i : Int) + 1)).toNat) (fun j σ H' => ∃ x3, σ = [some (.ref D), some (.int (i : Nat)), some y1, x3] ∧ Same H H' ∧ (∀ i' j', i' < j' → i' < i → ¬ Bar ss i' j') ∧ ∀ j', i < j' → j' < i + 1 + j → ¬ Bar ss i j')
        ⟨_, rfl, s12, before, fun j' h1 h2 => by omega⟩ ?_ ?_⟩
      · rintro j _ H4 hj ⟨x3, rfl, s4, before, row⟩
        have lt : i + 1 + j < vs.length := by omega
        have e2 : ss[i + 1 + j]? = some ss[i + 1 + j] := List.getElem?_eq_getElem (by omega)
        have e3 : vs[i + 1 + j]? = some vs[i + 1 + j] := List.getElem?_eq_getElem lt
        have ej : (i : Int) + 1 + (j : Int) = ((i + 1 + j : Nat) : Int) := by omega
        rw [ej]
        refine ⟨_, rfl, _, rfl, _, rfl, D, _, _, _, rfl, rfl, SqL.of (s4 _ _ hD), atI_nat (j := i + 1 + j) e3, y1, _, ss[i], ss[i + 1 + j], rfl, (hv _ _ _ hy1 hc).up s4, (hv _ _ _ e3 e2).up s4, ok _ (List.mem_of_getElem? hc), ok _ (List.mem_of_getElem? e2), fun H5 s5 => ⟨_, rfl, ?_⟩⟩
        have s45 := s4.trans s5
        by_cases bb : barsM ss[i] ss[i + 1 + j] = true
        · rw [bb]
          refine iteT ⟨_, rfl, _, rfl, by show 2 ≤ sizeLine; decide, fun t ht => k _ (some (i, i + 1 + j)) _ (same_ch s45 (s45.free ht)) ⟨by show i < i + 1 + j; omega, ⟨_, _, hc, e2, bb⟩, fun i' j' lt2 h => ?_⟩ ⟨t, rfl, upd_same⟩⟩
          rcases h with h | ⟨rfl, h⟩
          · exact before i' j' lt2 h
          · exact row j' lt2 h
        · rw [Bool.not_eq_true] at bb
          rw [bb]
          refine iteF ⟨_, rfl, s45, before, fun j' h1 h2 => ?_⟩
          rcases Nat.lt_or_ge j' (i + 1 + j) with h3 | h3
          · exact row j' h1 h3
          · obtain rfl : j' = i + 1 + j := by omega
            rintro ⟨a, b, ha, hb, z⟩
            rw [hc] at ha
            rw [e2] at hb
            cases ha
            cases hb
            rw [bb] at z
            cases z
      · rintro σ H4 ⟨x3, rfl, s4, before, row⟩
        refine ⟨_, _, _, rfl, s4, fun i' j' lt h => ?_⟩
        rcases Nat.lt_or_ge i' i with h1 | h1
        · exact before i' j' lt h1
        · obtain rfl : i' = i := by omega
          intro b
          refine row j' lt ?_ b
          obtain ⟨_, z, _, hz, _⟩ := id b
          have := (List.getElem?_eq_some_iff.mp hz).1
          omega
    · rintro σ H1 ⟨x1, x2, x3, rfl, s1, before⟩
      refine k .non none H1 s1 (fun i' j' lt b => ?_) rfl
      refine before i' j' lt ?_ b
      obtain ⟨a, _, ha, _⟩ := b
      have := (List.getElem?_eq_some_iff.mp ha).1
      omega
theorem scTog : FnScope ["plain", "pair"] ["plain"] (defScope sTog) := ⟨rfl, rfl, rfl, by decide +kernel, rfl, by decide +kernel, by decide +kernel⟩
theorem ok_tog {f fF : Addr} {fd fdF : FuncData} (F : Fun K "check_together" "check_together" sTog f fd) (T : TB mg) (aFirst : At K mg "first_apart" fF fdF ["sights"]) (GFirst : FnOk P w K mg base CX0 8 fF fdF ["sights"] spFirst)
    (BA : BApart K mg CA fA) (bBA : L2.Binds K fdA ["self", "first", "second"] []) (GBA : FnOk P w K mg base CX0 1 fA fdA ["self", "first", "second"] (spEIni2 "first" "second" CA)) : FnOk P w K mg base (CX P w) 9 f fd ["plain"] (spTog CA) := by
  refine F.okX scTog (fun vs H Q E h => ?_) (fun cdv A outer s H vs Q E hr h => ?_)
  · obtain ⟨D, ss, rfl, _⟩ := h
    rfl
  · obtain ⟨D, ss, rfl, hD, hl, ok, k⟩ := h
    refine ⟨_, pss_cons (ps_set (i := 1) scTog.nd rfl (Or.inl rfl) (pe_call GFirst (hr.mono (by decide)) rfl aFirst.m aFirst.k aFirst.b .nil pass0 (pa_cons (pv 0) pa_nil)))
            (pss_one (ps_if (pt_cmp (pc_notN (pv 1))) (pss_one (ps_raise rfl (takes_of rfl rfl rfl rfl) (pmk_oex BA.ox BA.iC BA.tI GBA (hr.mono (by decide)) bBA .nil pass0 rfl BA.mg (pa_cons (pe_ix ix_tup (pv 1) pe_int (fun _ _ => rfl)) (pa_cons (pe_ix ix_tup (pv 1) pe_int (fun _ _ => rfl)) pa_nil))))) (pss_nil))), ?_⟩
    refine ⟨_, rfl, D, ss, rfl, hD, hl, ok, fun v o H1 s1 fa pv => ?_⟩
    obtain ⟨k1, k2⟩ := k o fa
    cases o with
    | none =>
      cases (show v = .non from pv)
      exact ⟨_, rfl, _, rfl, iteF (k1 rfl H1 s1)⟩
    | some p =>
      obtain ⟨t, rfl, ht⟩ := pv
      refine ⟨_, rfl, _, rfl, iteT ?_⟩
      refine ⟨_, rfl, t, _, 0, _, rfl, rfl, SqT.of ht, atI_nat (j := 0) rfl, _, rfl, t, _, 1, _, rfl, rfl, SqT.of ht, atI_nat (j := 1) rfl, by show 2 ≤ 1000; decide, fun b hb => ⟨b, _, _, rfl, upd_same, fun dx hdx hne => ⟨rfl, eraise2_at s1 hb hdx hne (k2 p rfl)⟩⟩⟩
end
end R3

set_option maxHeartbeats 3900000
namespace FI
open PySem PySem.Spec PyProof.Rows L2 TL RP
open C8 (pss_cut tCut pe_gc)
open CB
structure Fine (d : PyData) (dep n : Nat) : Prop where
  sh : d.showable = true
  dp : d.depth ≤ dep
  sz : d.shown.length ≤ n
theorem piled_le : ∀ (ts : List Str) (n : Nat), (∀ t ∈ ts, t.length ≤ n) → piled ts ≤ ts.length * (n + 2)
  | [], n, _ => by
    rw [piled_nil]
    omega
  | t :: r, n, h => by
    have ih := piled_le r n fun u hu => h u (List.mem_cons_of_mem _ hu)
    have h1 := h t List.mem_cons_self
    rw [piled_cons, List.length_cons, Nat.succ_mul]
    omega
theorem listText_le (ts : List Str) (n : Nat) (h : ∀ t ∈ ts, t.length ≤ n) : (listText ts).length ≤ 2 + ts.length * (n + 2) := by
  have pl := piled_le ts n h
  cases ts with
  | nil =>
    show 2 ≤ 2 + 0 * (n + 2)
    omega
  | cons t r =>
    have e : (listText (t :: r)).length = (textFrom 1 (("[" : Str) ++ (if 0 > 0 then ", " else "" : String) ++ t) r).length + 1 := by
      show ((textFrom 0 "[" (t :: r)) ++ ("]" : String)).length = _
      rw [strLen_append]
      rfl
    rw [e, textFrom_length_pos r 1 _ (by decide), strLen_append, strLen_append]
    rw [piled_cons] at pl
    have e1 : (("[" : String) : Str).length = 1 := rfl
    have e2 : (((if 0 > 0 then ", " else "" : String)) : Str).length = 0 := rfl
    rw [e1, e2]
    omega
theorem tupText_le (a b : Str) (n : Nat) (ha : a.length ≤ n) (hb : b.length ≤ n) : (tupleText [a, b]).length ≤ 2 * n + 6 := by
  unfold tupleText
  rw [strLen_append, strLen_append]
  have h := join_length_add [a, b] (by simp)
  rw [piled_cons, piled_cons, piled_nil] at h
  have e1 : ((("(" : String) : Str)).length = 1 := rfl
  have e3 : (((if [a, b].length == 1 then ",)" else ")" : String) : Str)).length = 1 := rfl
  rw [e1, e3]
  omega
theorem shown_mem : ∀ {ds : List PyData} {t : Str}, t ∈ PyData.shownAll ds → ∃ d ∈ ds, t = d.shown
  | [], t, h => by simp [PyData.shownAll] at h
  | d :: r, t, h => by
    simp only [PyData.shownAll] at h
    rcases List.mem_cons.mp h with rfl | h
    · exact ⟨d, List.mem_cons_self, rfl⟩
    · obtain ⟨e, he, q⟩ := shown_mem h
      exact ⟨e, List.mem_cons_of_mem _ he, q⟩
theorem shownAll_len : ∀ ds : List PyData, (PyData.shownAll ds).length = ds.length
  | [] => by simp [PyData.shownAll]
  | d :: r => by simp [PyData.shownAll, shownAll_len r]
theorem showAll : ∀ ds : List PyData, (∀ d ∈ ds, d.showable = true) → PyData.showableAll ds = true
  | [], _ => by simp [PyData.showableAll]
  | d :: r, h => by simp [PyData.showableAll, h d List.mem_cons_self, showAll r fun u hu => h u (List.mem_cons_of_mem _ hu)]
theorem depAll (n : Nat) : ∀ ds : List PyData, (∀ d ∈ ds, d.depth ≤ n) → PyData.depthAll ds ≤ n
  | [], _ => by simp [PyData.depthAll]
  | d :: r, h => by
    have h1 := h d List.mem_cons_self
    have h2 := depAll n r fun u hu => h u (List.mem_cons_of_mem _ hu)
    simp only [PyData.depthAll]
    omega
theorem Fine.lst {ds : List PyData} {dep n m : Nat} (h : ∀ d ∈ ds, Fine d dep n) (hm : 2 + ds.length * (n + 2) ≤ m) : Fine (.list ds) (dep + 1) m := by
  refine ⟨?_, ?_, ?_⟩
  · simp only [PyData.showable]
    exact showAll ds fun d hd => (h d hd).sh
  · simp only [PyData.depth]
    exact Nat.succ_le_succ (depAll dep ds fun d hd => (h d hd).dp)
  · simp only [PyData.shown]
    have q := listText_le (PyData.shownAll ds) n fun t ht => by
      obtain ⟨d, hd, rfl⟩ := shown_mem ht
      exact (h d hd).sz
    rw [shownAll_len] at q
    exact Nat.le_trans q hm
theorem Fine.pair {a b : PyData} {dep n : Nat} (ha : Fine a dep n) (hb : Fine b dep n) : Fine (.tuple [a, b]) (dep + 1) (2 * n + 6) := by
  refine ⟨?_, ?_, ?_⟩
  · simp only [PyData.showable]
    exact showAll [a, b] fun d hd => by
      rcases List.mem_cons.mp hd with rfl | hd
      · exact ha.sh
      · rw [List.mem_singleton.mp hd]; exact hb.sh
  · simp only [PyData.depth]
    exact Nat.succ_le_succ (depAll dep [a, b] fun d hd => by
      rcases List.mem_cons.mp hd with rfl | hd
      · exact ha.dp
      · rw [List.mem_singleton.mp hd]; exact hb.dp)
  · simp only [PyData.shown, PyData.shownAll]
    exact tupText_le _ _ n ha.sz hb.sz
theorem fine_bool (b : Bool) : Fine (.bool b) 0 10 := ⟨by simp [PyData.showable], by simp [PyData.depth], by cases b <;> (simp only [PyData.shown]; decide)⟩
def strL (l : List Str) : PyData := .list (l.map .str)
theorem dq_strs {K : PySem.W.Frag} {H : Hp} : ∀ l : List Str, DqAll K H (l.map V.str) (l.map PyData.str)
  | [] => .nil
  | z :: r => .cons (.str z) (dq_strs r)
theorem dq_strL {K : PySem.W.Frag} {H : Hp} {a : Addr} {l : List Str} (h : H a = some (.lst (l.map V.str))) : Dq K H (.ref a) (strL l) := .lst h (dq_strs l)
theorem Fine.up {d : PyData} {a n b m : Nat} (h : Fine d a n) (h1 : a ≤ b) (h2 : n ≤ m) : Fine d b m := ⟨h.sh, Nat.le_trans h.dp h1, Nat.le_trans h.sz h2⟩
theorem tupTextN_le (ts : List Str) (n : Nat) (h : ∀ t ∈ ts, t.length ≤ n) : (tupleText ts).length ≤ 3 + ts.length * (n + 2) := by
  have pl := piled_le ts n h
  unfold tupleText
  rw [strLen_append, strLen_append]
  have e1 : ((("(" : String) : Str)).length = 1 := rfl
  have e3 : (((if ts.length == 1 then ",)" else ")" : String) : Str)).length ≤ 2 := by
    by_cases q : (ts.length == 1) = true
    · rw [if_pos q]
      exact Nat.le_refl _
    · rw [if_neg q]
      exact Nat.le_succ _
  by_cases e : ts = []
  · subst e
    have e4 : ((Str.ofString ", ").join ([] : List Str)).length = 0 := by decide +kernel
    rw [e1, e4]
    omega
  · have j := join_length_add ts e
    rw [e1]
    omega
theorem Fine.tup {ds : List PyData} {dep n m : Nat} (h : ∀ d ∈ ds, Fine d dep n) (hm : 3 + ds.length * (n + 2) ≤ m) : Fine (.tuple ds) (dep + 1) m := by
  refine ⟨?_, ?_, ?_⟩
  · simp only [PyData.showable]
    exact showAll ds fun d hd => (h d hd).sh
  · simp only [PyData.depth]
    exact Nat.succ_le_succ (depAll dep ds fun d hd => (h d hd).dp)
  · simp only [PyData.shown]
    have q := tupTextN_le (PyData.shownAll ds) n fun t ht => by
      obtain ⟨d, hd, rfl⟩ := shown_mem ht
      exact (h d hd).sz
    rw [shownAll_len] at q
    exact Nat.le_trans q hm
theorem fine_str {z : Str} {n : Nat} (hc : ∀ c ∈ tl z, c < 16 ^ 8) (hn : z.length ≤ n) : Fine (.str z) 0 (10 * n + 2) := by
  refine ⟨by simp [PyData.showable], by simp [PyData.depth], ?_⟩
  have q := PySem.StrLaws.reprText_len z hc
  simp only [PyData.shown]
  omega
theorem fine_non : Fine .none 0 10 := ⟨by simp [PyData.showable], by simp [PyData.depth], by simp only [PyData.shown]; decide⟩
end FI

set_option maxHeartbeats 3900000
/-! displays of data: what is written, all new -/
namespace DV
open PySem PySem.Spec PyProof.Rows L2 TL RP
open CB
inductive Dv
  | non
  | int (i : Int)
  | bl (b : Bool)
  | str (z : Str)
  | tup (l : List Dv)
  | lst (l : List Dv)
  | dct
mutual
/-- v is so made, of things that H0 does not hold -/
inductive Dat (H0 H : Hp) : V → Dv → Prop
  | non : Dat H0 H .non .non
  | int (i : Int) : Dat H0 H (.int i) (.int i)
  | bl (b : Bool) : Dat H0 H (.bl b) (.bl b)
  | str (z : Str) : Dat H0 H (.str z) (.str z)
  | tup {a : Addr} {xs : List V} {ds : List Dv} (n : H0 a = none) (h : H a = some (.tup xs)) (k : DatAll H0 H xs ds) : Dat H0 H (.ref a) (.tup ds)
  | lst {a : Addr} {xs : List V} {ds : List Dv} (n : H0 a = none) (h : H a = some (.lst xs)) (k : DatAll H0 H xs ds) : Dat H0 H (.ref a) (.lst ds)
  | dct {a : Addr} (n : H0 a = none) (h : H a = some (.dK [])) : Dat H0 H (.ref a) .dct
inductive DatAll (H0 H : Hp) : List V → List Dv → Prop
  | nil : DatAll H0 H [] []
  | cons {v : V} {vs : List V} {d : Dv} {ds : List Dv} (h : Dat H0 H v d) (k : DatAll H0 H vs ds) : DatAll H0 H (v :: vs) (d :: ds)
end
mutual
theorem Dat.up {H0 H H' : Hp} (e : ∀ a o, H0 a = none → H a = some o → (∀ ps, o ≠ .tbl ps) → H' a = some o) : ∀ {v : V} {d : Dv}, Dat H0 H v d → Dat H0 H' v d
  | _, _, .non => .non
  | _, _, .int i => .int i
  | _, _, .bl b => .bl b
  | _, _, .str z => .str z
  | _, _, .tup n h k => .tup n (e _ _ n h fun _ z => by cases z) (DatAll.up e k)
  | _, _, .lst n h k => .lst n (e _ _ n h fun _ z => by cases z) (DatAll.up e k)
  | _, _, .dct n h => .dct n (e _ _ n h fun _ z => by cases z)
theorem DatAll.up {H0 H H' : Hp} (e : ∀ a o, H0 a = none → H a = some o → (∀ ps, o ≠ .tbl ps) → H' a = some o) : ∀ {vs : List V} {ds : List Dv}, DatAll H0 H vs ds → DatAll H0 H' vs ds
  | _, _, .nil => .nil
  | _, _, .cons h k => .cons (Dat.up e h) (DatAll.up e k)
end
mutual
theorem Dat.base {H0 H1 H : Hp} (e : ∀ a, H0 a = none → H1 a = none) : ∀ {v : V} {d : Dv}, Dat H0 H v d → Dat H1 H v d
  | _, _, .non => .non
  | _, _, .int i => .int i
  | _, _, .bl b => .bl b
  | _, _, .str z => .str z
  | _, _, .tup n h k => .tup (e _ n) h (DatAll.base e k)
  | _, _, .lst n h k => .lst (e _ n) h (DatAll.base e k)
  | _, _, .dct n h => .dct (e _ n) h
theorem DatAll.base {H0 H1 H : Hp} (e : ∀ a, H0 a = none → H1 a = none) : ∀ {vs : List V} {ds : List Dv}, DatAll H0 H vs ds → DatAll H1 H vs ds
  | _, _, .nil => .nil
  | _, _, .cons h k => .cons (Dat.base e h) (DatAll.base e k)
end
mutual
theorem Dat.rebase {H0 H1 H : Hp} (e : ∀ a o, H0 a = none → H a = some o → H1 a = none) : ∀ {v : V} {d : Dv}, Dat H0 H v d → Dat H1 H v d
  | _, _, .non => .non
  | _, _, .int i => .int i
  | _, _, .bl b => .bl b
  | _, _, .str z => .str z
  | _, _, .tup n h k => .tup (e _ _ n h) h (DatAll.rebase e k)
  | _, _, .lst n h k => .lst (e _ _ n h) h (DatAll.rebase e k)
  | _, _, .dct n h => .dct (e _ _ n h) h
theorem DatAll.rebase {H0 H1 H : Hp} (e : ∀ a o, H0 a = none → H a = some o → H1 a = none) : ∀ {vs : List V} {ds : List Dv}, DatAll H0 H vs ds → DatAll H1 H vs ds
  | _, _, .nil => .nil
  | _, _, .cons h k => .cons (Dat.rebase e h) (DatAll.rebase e k)
end
mutual
def dvD : Dv → PyData
  | .non => .none
  | .int i => .int i
  | .bl b => .bool b
  | .str z => .str z
  | .tup l => .tuple (dvDs l)
  | .lst l => .list (dvDs l)
  | .dct => .dict []
def dvDs : List Dv → List PyData
  | [] => []
  | d :: r => dvD d :: dvDs r
end
mutual
theorem Dat.dq {K : PySem.W.Frag} {H0 H : Hp} : ∀ {v : V} {d : Dv}, Dat H0 H v d → Dq K H v (dvD d)
  | _, _, .non => .non
  | _, _, .int i => .int i
  | _, _, .bl b => .bl b
  | _, _, .str z => .str z
  | _, _, .tup n h k => .tup h (DatAll.dq k)
  | _, _, .lst n h k => .lst h (DatAll.dq k)
  | _, _, .dct n h => .dct h .nil
theorem DatAll.dq {K : PySem.W.Frag} {H0 H : Hp} : ∀ {vs : List V} {ds : List Dv}, DatAll H0 H vs ds → DqAll K H vs (dvDs ds)
  | _, _, .nil => .nil
  | _, _, .cons h k => .cons (Dat.dq h) (DatAll.dq k)
end
theorem Dat.same {H0 H H' : Hp} {v : V} {d : Dv} (h : Dat H0 H v d) (s : Same H H') : Dat H0 H' v d := h.up fun a o _ e _ => s a o e
theorem DatAll.same {H0 H H' : Hp} {v : List V} {d : List Dv} (h : DatAll H0 H v d) (s : Same H H') : DatAll H0 H' v d := h.up fun a o _ e _ => s a o e
theorem DatAll.length {H0 H : Hp} : ∀ {vs : List V} {ds : List Dv}, DatAll H0 H vs ds → vs.length = ds.length
  | _, _, .nil => rfl
  | _, _, .cons _ k => congrArg Nat.succ k.length
theorem DatAll.get {H0 H : Hp} : ∀ {vs : List V} {ds : List Dv}, DatAll H0 H vs ds → ∀ (i : Nat) (v : V), vs[i]? = some v → ∃ d, ds[i]? = some d ∧ Dat H0 H v d
  | _, _, .nil, i, v, e => by simp at e
  | _, _, .cons h k, 0, v, e => by cases e; exact ⟨_, rfl, h⟩
  | _, _, .cons h k, i + 1, v, e => k.get i v e
theorem DatAll.app {H0 H : Hp} : ∀ {vs us : List V} {ds es : List Dv}, DatAll H0 H vs ds → DatAll H0 H us es → DatAll H0 H (vs ++ us) (ds ++ es)
  | _, _, _, _, .nil, g => g
  | _, _, _, _, .cons h k, g => .cons h (k.app g)
theorem Dat.row {H0 H : Hp} {v : V} {ds : List Dv} (h : Dat H0 H v (.tup ds)) : ∃ xs, RowAt H v xs ∧ DatAll H0 H xs ds := by
  cases h with
  | tup n h k => exact ⟨_, ⟨_, rfl, .inl h⟩, k⟩
theorem Dat.rowL {H0 H : Hp} {v : V} {ds : List Dv} (h : Dat H0 H v (.lst ds)) : ∃ xs, RowAt H v xs ∧ DatAll H0 H xs ds := by
  cases h with
  | lst n h k => exact ⟨_, ⟨_, rfl, .inr h⟩, k⟩
mutual
def noLst : Dv → Bool
  | .lst _ => false
  | .tup l => noLsts l
  | _ => true
def noLsts : List Dv → Bool
  | [] => true
  | d :: r => noLst d && noLsts r
end
mutual
/-- where there is no list in it -/
theorem Dat.rebaseL {H0 H1 H : Hp} (e : ∀ a o, H0 a = none → H a = some o → (∀ xs, o ≠ .lst xs) → H1 a = none) : ∀ {v : V} {d : Dv}, noLst d = true → Dat H0 H v d → Dat H1 H v d
  | _, _, _, .non => .non
  | _, _, _, .int i => .int i
  | _, _, _, .bl b => .bl b
  | _, _, _, .str z => .str z
  | _, _, q, .tup n h k => .tup (e _ _ n h fun _ z => by cases z) h (DatAll.rebaseL e q k)
  | _, _, q, .lst n h k => by cases q
  | _, _, _, .dct n h => .dct (e _ _ n h fun _ z => by cases z) h
theorem DatAll.rebaseL {H0 H1 H : Hp} (e : ∀ a o, H0 a = none → H a = some o → (∀ xs, o ≠ .lst xs) → H1 a = none) : ∀ {vs : List V} {ds : List Dv}, noLsts ds = true → DatAll H0 H vs ds → DatAll H1 H vs ds
  | _, _, _, .nil => .nil
  | _, _, q, .cons h k => .cons (Dat.rebaseL e (Bool.and_eq_true_iff.mp q).1 h) (DatAll.rebaseL e (Bool.and_eq_true_iff.mp q).2 k)
end
def tDv (pre : L2.St → Prop) (f : L2.St → Dv) : TE := fun σ H Q => pre σ ∧ ∀ v H', Same H H' → Dat H H' v (f σ) → Q v H'
def tDvs (pre : L2.St → Prop) (f : L2.St → List Dv) (n : Nat) : TA := fun σ H Q => pre σ ∧ ∀ vs H', Same H H' → DatAll H H' vs (f σ) → vs.length = n → Q vs H'
section
variable {X : Cx} {e : Expr} {es : List Expr} {pos : Pos}
theorem de_of {t : TE} {pre : L2.St → Prop} {f : L2.St → Dv} (h : PE X e t) (i : ∀ σ H Q, tDv pre f σ H Q → t σ H Q) : PE X e (tDv pre f) := ⟨fun pins s σ H Q I q => h.run pins s σ H Q I (i σ H Q q)⟩
theorem de_non {j : Nat} : PE X (.Constant .none j pos) (tDv (fun _ => True) fun _ => .non) := de_of pe_non fun σ H Q h => h.2 _ H (Same.refl H) .non
theorem de_int {i : Int} {j : Nat} : PE X (.Constant (.int i) j pos) (tDv (fun _ => True) fun _ => .int i) := de_of pe_int fun σ H Q h => h.2 _ H (Same.refl H) (.int i)
theorem de_bl {b : Bool} {j : Nat} : PE X (.Constant (.bool b) j pos) (tDv (fun _ => True) fun _ => .bl b) := de_of pe_bl fun σ H Q h => h.2 _ H (Same.refl H) (.bl b)
theorem de_str {z : Str} {j : Nat} : PE X (.Constant (.str z) j pos) (tDv (fun _ => True) fun _ => .str z) := de_of pe_str fun σ H Q h => h.2 _ H (Same.refl H) (.str z)
/-- what a slot holds, if it is a text or a number -/
def slD (σ : L2.St) (i : Nat) : Dv := match σ[i]? with
  | some (some (.str z)) => .str z
  | some (some (.int k)) => .int k
  | _ => .non
theorem de_var {i : Nat} (h : PE X e (tVar i)) : PE X e (tDv (fun σ => (∃ z, σ[i]? = some (some (.str z))) ∨ ∃ k, σ[i]? = some (some (.int k))) fun σ => slD σ i) := de_of h fun σ H Q h => by
  obtain ⟨⟨z, hz⟩ | ⟨k, hk⟩, q⟩ := h
  · refine ⟨_, hz, q _ H (Same.refl H) ?_⟩
    show Dat H H _ (slD σ i)
    unfold slD
    rw [hz]
    exact .str z
  · refine ⟨_, hk, q _ H (Same.refl H) ?_⟩
    show Dat H H _ (slD σ i)
    unfold slD
    rw [hk]
    exact .int k
def catD : Dv → Dv → Dv
  | .str a, .str b => .str (a ++ b)
  | _, _ => .non
theorem de_cat {a b : Expr} {p1 p2 : L2.St → Prop} {f g : L2.St → Dv} (ha : PE X a (tDv p1 f)) (hb : PE X b (tDv p2 g)) : PE X (.BinOp a .Add b pos) (tDv (fun σ => p1 σ ∧ p2 σ ∧ ∃ x y, f σ = .str x ∧ g σ = .str y ∧ x.length + y.length ≤ sizeLine) fun σ => catD (f σ) (g σ)) :=
  de_of (pe_op op_add_str ha hb) fun σ H Q h => by
    obtain ⟨⟨h1, h2, x, y, ex, ey, hl⟩, q⟩ := h
    refine ⟨h1, fun v H1 s1 a1 => ⟨h2, fun u H2 s2 a2 => ?_⟩⟩
    rw [ex] at a1
    rw [ey] at a2
    cases a1
    cases a2
    refine ⟨x, y, rfl, rfl, hl, q _ H2 (s1.trans s2) ?_⟩
    show Dat H H2 _ (catD (f σ) (g σ))
    rw [ex, ey]
    exact .str _
theorem da_nil : PA X [] (tDvs (fun _ => True) (fun _ => []) 0) := ⟨fun pos pins s σ H Q I h => pa_nil.run pos pins s σ H Q I (h.2 [] H (Same.refl H) .nil rfl)⟩
theorem da_cons {p1 p2 : L2.St → Prop} {f : L2.St → Dv} {fs : L2.St → List Dv} {n : Nat} (ha : PE X e (tDv p1 f)) (hr : PA X es (tDvs p2 fs n)) (hs : starEach (e :: es) X.env = (false, eval e X.env) :: starEach es X.env := by rfl) :
    PA X (e :: es) (tDvs (fun σ => p1 σ ∧ p2 σ) (fun σ => f σ :: fs σ) (n + 1)) := ⟨fun pos pins s σ H Q I h => (pa_cons ha hr hs).run pos pins s σ H Q I (by
  obtain ⟨⟨h1, h2⟩, q⟩ := h
  exact ⟨h1, fun v H1 s1 a1 => ⟨h2, fun vs H2 s2 a2 l => q _ H2 (s1.trans s2) (.cons (a1.same s2) (a2.base fun a z => s1.free z)) (by rw [List.length_cons, l])⟩⟩)⟩
theorem de_tup {x1 : Nat} {p : L2.St → Prop} {fs : L2.St → List Dv} {n : Nat} (h : PA X es (tDvs p fs n)) (hn : n ≤ sizeLine := by decide) : PE X (.Tuple es x1 pos) (tDv p fun σ => .tup (fs σ)) := de_of (pe_tup h) fun σ H Q h => by
  obtain ⟨h1, q⟩ := h
  exact ⟨h1, fun vs H1 s1 a1 l => ⟨by rw [l]; exact hn, fun a ha => q _ _ (s1.trans (same_mk ha)) (.tup (s1.free ha) upd_same (a1.same (same_mk ha)))⟩⟩
theorem de_lst {p : L2.St → Prop} {fs : L2.St → List Dv} {n : Nat} (h : PA X es (tDvs p fs n)) (hn : n ≤ sizeLine := by decide) : PE X (.List es pos) (tDv p fun σ => .lst (fs σ)) := de_of (pe_lst h) fun σ H Q h => by
  obtain ⟨h1, q⟩ := h
  exact ⟨h1, fun vs H1 s1 a1 l => ⟨by rw [l]; exact hn, fun a ha => q _ _ (s1.trans (same_mk ha)) (.lst (s1.free ha) upd_same (a1.same (same_mk ha)))⟩⟩
theorem de_dct : PE X (.Dict [] [] pos) (tDv (fun _ => True) fun _ => .dct) := de_of pe_dnewK fun σ H Q h => fun a ha => h.2 _ _ (same_mk ha) (.dct ha upd_same)
end
end DV

set_option maxHeartbeats 3900000
/-! what is shown of displays is bounded -/
namespace FD
open PySem PySem.Spec PyProof.Rows L2 TL RP
open CB FI DV
/-- short texts -/
def ShS (n : Nat) (z : Str) : Prop := z.length ≤ n ∧ ∀ c ∈ tl z, c < 1114112
theorem ShS.cat {n m : Nat} {x y : Str} (h : ShS n x) (g : ShS m y) : ShS (n + m) (x ++ y) := by
  refine ⟨?_, fun c hc => ?_⟩
  · rw [strLen_append]
    exact Nat.add_le_add h.1 g.1
  · have e : tl (x ++ y) = tl x ++ tl y := by
      show ((x ++ y : Str).cps).toList = _
      exact Array.toList_append
    rw [e] at hc
    exact (List.mem_append.mp hc).elim (h.2 c) (g.2 c)
theorem ShS.le {n m : Nat} {x : Str} (h : ShS n x) (l : n ≤ m) : ShS m x := ⟨Nat.le_trans h.1 l, h.2⟩
mutual
def OkD : Dv → Prop
  | .non => True
  | .int i => Fine (.int i) 0 202
  | .bl _ => True
  | .str z => ShS 20 z
  | .tup l => OkDs l
  | .lst l => OkDs l
  | .dct => True
def OkDs : List Dv → Prop
  | [] => True
  | d :: r => OkD d ∧ OkDs r
end
mutual
def dpD : Dv → Nat
  | .tup l => dpDs l + 1
  | .lst l => dpDs l + 1
  | .dct => 1
  | _ => 0
def dpDs : List Dv → Nat
  | [] => 0
  | d :: r => max (dpD d) (dpDs r)
end
mutual
def bdD : Dv → Nat
  | .tup l => 3 + lnDs l * (bdDs l + 2)
  | .lst l => 3 + lnDs l * (bdDs l + 2)
  | _ => 202
def bdDs : List Dv → Nat
  | [] => 0
  | d :: r => max (bdD d) (bdDs r)
def lnDs : List Dv → Nat
  | [] => 0
  | _ :: r => lnDs r + 1
end
theorem lnDs_eq : ∀ l : List Dv, lnDs l = (dvDs l).length
  | [] => rfl
  | d :: r => by
    show lnDs r + 1 = (dvD d :: dvDs r).length
    rw [List.length_cons, lnDs_eq r]
mutual
theorem fineD : ∀ {d : Dv}, OkD d → Fine (dvD d) (dpD d) (bdD d)
  | .non, _ => fine_non.up (Nat.le_refl _) (by show 10 ≤ 202; decide)
  | .int i, h => h
  | .bl b, _ => (fine_bool b).up (Nat.le_refl _) (by show 10 ≤ 202; decide)
  | .str z, h => (fine_str (n := 20) (fun c hc => by have := h.2 c hc; omega) h.1)
  | .tup l, h => by
    have r := fineDs (l := l) h
    refine Fine.tup (n := bdDs l) r ?_
    show 3 + (dvDs l).length * (bdDs l + 2) ≤ 3 + lnDs l * (bdDs l + 2)
    rw [lnDs_eq]
    exact Nat.le_refl _
  | .lst l, h => by
    have r := fineDs (l := l) h
    refine Fine.lst (n := bdDs l) r ?_
    show 2 + (dvDs l).length * (bdDs l + 2) ≤ 3 + lnDs l * (bdDs l + 2)
    rw [lnDs_eq]
    omega
  | .dct, _ => ⟨by decide +kernel, by decide +kernel, by decide +kernel⟩
theorem fineDs : ∀ {l : List Dv}, OkDs l → ∀ x ∈ dvDs l, Fine x (dpDs l) (bdDs l)
  | [], _, x, hx => by cases hx
  | d :: r, h, x, hx => by
    have hx : x ∈ dvD d :: dvDs r := hx
    rcases List.mem_cons.mp hx with rfl | hx
    · exact (fineD (d := d) h.1).up (Nat.le_max_left _ _) (Nat.le_max_left _ _)
    · exact (fineDs (l := r) h.2 x hx).up (Nat.le_max_right _ _) (Nat.le_max_right _ _)
end
end FD

set_option maxHeartbeats 3900000
namespace R3
open PySem PySem.Spec PyProof.Rows L2 TL
open C8 (pss_cut tCut pe_gc)
open CB
/-- what stays while the stream is drawn from and one list grows -/
def But3 (st l p : Addr) (H H' : Hp) : Prop := ∀ b o, H b = some o → b ≠ st → b ≠ l → b ≠ p → H' b = some o
theorem But3.trans {st l p : Addr} {H H1 H2 : Hp} (a : But3 st l p H H1) (b : But3 st l p H1 H2) : But3 st l p H H2 := fun c o h n1 n2 n3 => b c o (a c o h n1 n2 n3) n1 n2 n3
theorem But.b3 {st l p : Addr} {H H1 : Hp} (a : But st l H H1) : But3 st l p H H1 := fun c o h n1 n2 _ => a c o h n1 n2
theorem But3.at {st l p : Addr} {H : Hp} {o : HO} : But3 st l p H (upd H p o) := fun c o' h n1 n2 n3 => by rw [upd_ne n3]; exact h
def SiK (st l : Addr) (H : Hp) (v : V) (s : Lk × An) : Prop := ∀ H', But st l H H' → SiIn H' v s
def SiK3 (st l p : Addr) (H : Hp) (v : V) (s : Lk × An) : Prop := ∀ H', But3 st l p H H' → SiIn H' v s
def AnK3 (st l p : Addr) (H : Hp) (v : V) (a : An) : Prop := ∀ H', But3 st l p H H' → AnIn H' v a
def spListed : Sp := fun vs H Q _ => ∃ (st l a : Addr) (c : Nat) (ss : List (Lk × An)), vs = [.ref st, .ref a] ∧ Strm H st l c ∧ c ≤ 900000 ∧ a ≠ st ∧ a ≠ l ∧ SisL H a ss ∧ ss.length ≤ 100 ∧
  ∀ (v : V) (xs : List V) (H' : Hp) (c' : Nat), (∀ H'', But st l H' H'' → RowAt H'' v xs) → xs.length = ss.length → (∀ (i : Nat) (x : V) (s : Lk × An), xs[i]? = some x → ss[i]? = some s → SiK st l H' x s) → But st l H H' → Strm H' st l c' → c' ≤ c + 2 * ss.length + 1 → Q v H'
theorem Strm.tup_ne {H : Hp} {st l : Addr} {c : Nat} {t : Addr} {xs : List V} (S : Strm H st l c) (h : H t = some (.tup xs)) : t ≠ st ∧ t ≠ l := by
  obtain ⟨ns, a, m, ⟨h1, h2⟩, _⟩ := S.ex
  exact ⟨ne_of h h1 (by intro z; cases z), ne_of h h2 (by intro z; cases z)⟩
section
variable {P : Program} {w : World} {K : PySem.W.Frag} {mg : Str → Option Value} {base : Heap} {fD : Addr} {fdD : FuncData}
end
end R3

set_option maxHeartbeats 3900000
/-! an own object made where its __init__ may raise -/
namespace MS
open PySem PySem.Spec PyProof.Rows L2 TL
section
variable {X : Cx} {CX : CXT} {k : Nat} {f C : Addr} {fd : FuncData} {ps : List Str} {sp : Sp} {E : L2.St → XK} {x : Str} {p pos : Pos} {e : Expr} {es : List Expr} {t : TA}
def tMakeS (C : Addr) (sp : Sp) (E : L2.St → XK) (t : TA) : TE := fun σ H Q => t σ H fun vs H1 => ∀ x dx, H1 x = Option.none → H1 dx = Option.none → dx ≠ x →
  sp (V.ref x :: vs) (upd (upd H1 dx (.own x)) x (.ins C dx [])) (fun v H2 => v = .non ∧ Q (.ref x) H2) (E σ)
theorem run_makeS {pins : List (Addr × Obj)} {σ : L2.St} {H : Hp} {s : Shared} {Q : VK} {us : List Value} {vs : List V} (M : Mk X.K C f) (F : FnOk X.prog X.w X.K X.mg X.base CX k f fd ps sp) (hr : Room (k + 1) X.A) (hb : L2.Binds X.K fd ps [])
    (hx : PassesAt CX X σ (E σ)) (I : Inv X pins σ H s) (r : Vals vs us)
    (h : ∀ x dx, H x = none → H dx = none → dx ≠ x → sp (.ref x :: vs) (upd (upd H dx (.own x)) x (.ins C dx [])) (fun v H2 => v = .non ∧ Q (.ref x) H2) (E σ)) :
    wpAny (model X.prog X.w) X.A (call (.ref C) us) (EP X pins σ Q) X.xe s := by
  have hq := h (s.heap.objs.size + 1) s.heap.objs.size (I.hok.fresh (Nat.le_succ _)) (I.hok.fresh (Nat.le_refl _)) (Nat.ne_of_lt (Nat.lt_succ_self _))
  have I2 := Inv.made (C := C) I
  have r2 : Vals (V.ref (s.heap.objs.size + 1) :: vs) (Value.ref (s.heap.objs.size + 1) :: us) := .cons rfl r
  have hl : (Value.ref (s.heap.objs.size + 1) :: us).length = ps.length := by
    have e := r2.length
    rw [F.len _ _ _ _ hq] at e
    exact e.symm
  have b := hb _ (Value.ref (s.heap.objs.size + 1) :: us) I2.kIn (by rw [List.append_nil]; exact hl)
  rw [List.append_nil] at b
  refine wpAny_call (make_map (f := f) I.kIn M.makes M.init (beq_iff_eq.mp M.fn) (codeAny_mono (F.run _ X.stack _ _ ⟨Value.ref (s.heap.objs.size + 1) :: us, []⟩ (Value.ref (s.heap.objs.size + 1) :: us) _ _ (E σ) (hr.make C us [])
    (I2.env0.make C us []) b r2 hq) fun r s' hq' => ?_))
  cases r with
  | error e => exact hx pins _ _ e s' I2 hq'
  | ok fl =>
    cases fl with
    | ret u =>
      obtain ⟨v, H', I3, rv, ev, q3⟩ := I2.after hq'
      subst ev
      exact ⟨rv, ⟨V.ref (s.heap.objs.size + 1), H', I3, rfl, q3⟩⟩
    | next => exact False.elim hq'
    | brk => exact False.elim hq'
    | cont => exact False.elim hq'
theorem pe_makeS (M : Mk X.K C f) (F : FnOk X.prog X.w X.K X.mg X.base CX k f fd ps sp) (hr : Room (k + 1) X.A) (hg : Gl X x) (hm : X.mg x = some (.ref C)) (hb : L2.Binds X.K fd ps []) (hx : ∀ σ, PassesAt CX X σ (E σ))
    (ha : PA X (e :: es) t) (hdb : (x == ("__debug__" : Str)) = false := by decide) (he : starEach (e :: es) X.env = (false, eval e X.env) :: starEach es X.env := by rfl) (hpl : (backTo pos (starEach es X.env)).any (·.1) = false := by rfl) :
    PE X (.Call (.Name x p) (e :: es) [] pos) (tMakeS C sp E t) := by
  refine ⟨fun pins s σ H Q I h => ?_⟩
  refine wpAny_Call_Name_kw (ld_glob I hg hm ?_ hdb)
  refine PySem.W.callWith_K (h₀ := X.base) I.ok.mod.kin M.kp (thn (ha.run pos pins s σ H _ I h) fun us s1 ⟨vs, H1, I1, r, q⟩ => ⟨I1.kIn, ?_⟩) he hpl
  exact run_makeS M F hr hb (hx σ) I1 r q
end
theorem pe_fldK {X : Cx} (K0 : PySem.W.Frag) (hK : X.K = K0) {e : Expr} {f : Str} {te : TE} {pos : Pos} (he : PE X e te) (hb : attributeBase e f X.env (eval e X.env) = eval e X.env) : PE X (.Attribute e f pos) (tFld K0 te f) := by
  subst hK
  exact pe_fld he hb
end MS

set_option maxHeartbeats 3900000
namespace R3
open PySem PySem.Spec PyProof.Rows L2 TL
open C8 (pss_cut tCut pe_gc)
open CB
abbrev sRoom : Stmt := top 63
abbrev sFiles : Stmt := top 65
abbrev sWorld : Stmt := top 66
abbrev sNin : Stmt := top 67
abbrev sShows : Stmt := top 68
/-- files: paths as lists of names, each with its text -/
abbrev Fs := List (List Str × Str)
def fsK (fs : Fs) : List (L2.Key × V) := fs.map fun e => (.inr (js e.1), .str e.2)
def room (fs : Fs) (p : List Str) : Bool := !(fs.any fun e => ben p e.1 || ben e.1 p)
/-- the text of a path put in -/
def putF (fs : Fs) (p : List Str) (t : Str) : Fs := if p ∈ fs.map (·.1) then fs.map (fun e => if e.1 = p then (e.1, t) else e) else fs ++ [(p, t)]
theorem putF_keys (fs : Fs) (p : List Str) (t : Str) : (putF fs p t).map (·.1) = if p ∈ fs.map (·.1) then fs.map (·.1) else fs.map (·.1) ++ [p] := by
  unfold putF
  by_cases h : p ∈ fs.map (·.1)
  · rw [if_pos h, if_pos h, List.map_map]
    refine List.map_congr_left fun e _ => ?_
    show (if e.1 = p then (e.1, t) else e).1 = e.1
    split <;> rfl
  · rw [if_neg h, if_neg h, List.map_append]
    rfl
theorem fsK_put {fs : Fs} {p : List Str} {t : Str} (hf : ∀ e ∈ fs, Nms e.1) (hp : Nms p) : putK (fsK fs) (.inr (js p)) (.str t) = fsK (putF fs p t) := by
  have key : ∀ e ∈ fs, decide ((Sum.inr (js e.1) : L2.Key) = .inr (js p)) = decide (e.1 = p) := fun e he => decide_eq_decide.mpr ⟨fun q => js_inj (hf e he) hp (Sum.inr.inj q), fun q => by rw [q]⟩
  have an : ((fsK fs).any fun kv => decide (kv.1 = (.inr (js p) : L2.Key))) = decide (p ∈ fs.map (·.1)) := by
    unfold fsK
    rw [List.any_map, Bool.eq_iff_iff, List.any_eq_true, decide_eq_true_iff, List.mem_map]
    constructor
    · rintro ⟨e, he, q⟩
      exact ⟨e, he, of_decide_eq_true ((key e he).symm.trans q)⟩
    · rintro ⟨e, he, q⟩
      exact ⟨e, he, (key e he).trans (decide_eq_true q)⟩
  unfold putK putF
  rw [an]
  by_cases h : p ∈ fs.map (·.1)
  · rw [if_pos (decide_eq_true h), if_pos h]
    unfold fsK
    rw [List.map_map, List.map_map]
    refine List.map_congr_left fun e he => ?_
    show (if (Sum.inr (js e.1) : L2.Key) = .inr (js p) then ((Sum.inr (js e.1) : L2.Key), V.str t) else (Sum.inr (js e.1), V.str e.2)) = (Sum.inr (js (if e.1 = p then (e.1, t) else e).1), V.str (if e.1 = p then (e.1, t) else e).2)
    by_cases q : e.1 = p
    · rw [if_pos q, if_pos (by rw [q])]
    · rw [if_neg q, if_neg fun z => q (of_decide_eq_true ((key e he).symm.trans (decide_eq_true z)))]
  · rw [if_neg (fun z => h (of_decide_eq_true z)), if_neg h]
    unfold fsK
    rw [List.map_append]
    rfl
/-- files that may stand together -/
structure GoodF (zs : List Str) (fs : Fs) : Prop where
  path : ∀ e ∈ fs, e.1 ≠ [] ∧ e.1.length ≤ 3 ∧ ∀ y ∈ e.1, y ∈ zs
  text : ∀ e ∈ fs, e.2 ∈ texts
  nd : (fs.map (·.1)).Nodup
  free : ∀ p ∈ fs.map (·.1), ∀ q ∈ fs.map (·.1), ben p q = false
theorem GoodF.put {zs : List Str} {fs : Fs} {p : List Str} {t : Str} (g : GoodF zs fs) (h1 : p ≠ []) (h2 : p.length ≤ 3) (h3 : ∀ y ∈ p, y ∈ zs) (ht : t ∈ texts) (r : room fs p = true) : GoodF zs (putF fs p t) := by
  have rm : ∀ q ∈ fs.map (·.1), ben p q = false ∧ ben q p = false := fun q hq => by
    obtain ⟨e, he, rfl⟩ := List.mem_map.mp hq
    unfold room at r
    rw [Bool.not_eq_true', List.any_eq_false] at r
    have := r e he
    simp only [Bool.or_eq_true, not_or, Bool.not_eq_true] at this
    exact this
  have self : ben p p = false := by
    cases q : ben p p with
    | false => rfl
    | true =>
      unfold ben at q
      rw [Bool.and_eq_true, decide_eq_true_iff] at q
      exact absurd q.2 (Nat.lt_irrefl _)
  have keys : ∀ q ∈ (putF fs p t).map (·.1), q ∈ fs.map (·.1) ∨ q = p := fun q hq => by
    rw [putF_keys] at hq
    split at hq
    · exact .inl hq
    · exact (List.mem_append.mp hq).imp id List.mem_singleton.mp
  refine ⟨fun e he => ?_, fun e he => ?_, ?_, fun a ha b hb => ?_⟩
  · rcases keys e.1 (List.mem_map_of_mem he) with q | q
    · obtain ⟨e', he', q⟩ := List.mem_map.mp q
      rw [← q]
      exact g.path e' he'
    · rw [q]
      exact ⟨h1, h2, h3⟩
  · unfold putF at he
    split at he
    · obtain ⟨e', he', rfl⟩ := List.mem_map.mp he
      split
      · exact ht
      · exact g.text e' he'
    · rcases List.mem_append.mp he with he | he
      · exact g.text e he
      · rw [List.mem_singleton.mp he]
        exact ht
  · rw [putF_keys]
    split
    · exact g.nd
    · rename_i h
      rw [List.nodup_append]
      refine ⟨g.nd, by simp, fun a ha b hb => ?_⟩
      rw [List.mem_singleton.mp hb]
      rintro rfl
      exact h ha
  · rcases keys a ha with ha1 | ea
    · rcases keys b hb with hb1 | eb
      · exact g.free a ha1 b hb1
      · rw [eb]
        exact (rm a ha1).2
    · rw [ea]
      rcases keys b hb with hb1 | eb
      · exact (rm b hb1).1
      · rw [eb]
        exact self
theorem putF_len (fs : Fs) (p : List Str) (t : Str) : (putF fs p t).length ≤ fs.length + 1 := by
  unfold putF
  split
  · rw [List.length_map]
    omega
  · rw [List.length_append]
    exact Nat.le_refl _
def spFiles : Sp := fun vs H Q _ => ∃ (st l p : Addr) (c : Nat) (zs : List Str) (most : Nat), vs = [.ref st, .ref p, .int most] ∧ Strm H st l c ∧ c ≤ 800000 ∧ Pool H st l p zs ∧ 0 < zs.length ∧ zs.length < 1000 ∧ (∀ z ∈ zs, IsNm z) ∧ most ≤ 50 ∧
  ∀ (d : Addr) (fs : Fs) (H' : Hp) (c' : Nat), H d = none → H' d = some (.dK (fsK fs)) → GoodF zs fs → fs.length ≤ most → But st l H H' → Strm H' st l c' → c' ≤ c + 1 + 5 * most → Q (.ref d) H'
def spRoom : Sp := fun vs H Q _ => ∃ d fs p, vs = [.ref d, .str (js p)] ∧ H d = some (.dK (fsK fs)) ∧ fs.length ≤ 1000 ∧ (∀ e ∈ fs, Nms e.1 ∧ e.1.length ≤ 100) ∧ Nms p ∧ p.length ≤ 100 ∧ ∀ H', Same H H' → Q (.bl (room fs p)) H'
section
variable {P : Program} {w : World} {K : PySem.W.Frag} {mg : Str → Option Value} {base : Heap} {fBe : Addr} {fdBe : FuncData}
theorem scRoom : FnScope ["_law_files_here", "_law_path_here", "_law_one"] ["_law_files_here", "_law_path_here"] (defScope sRoom) := ⟨rfl, rfl, rfl, by decide +kernel, rfl, by decide +kernel, by decide +kernel⟩
theorem ok_room {f : Addr} {fd : FuncData} (F : Fun K "_law_has_room" "_law_has_room" sRoom f fd) (T : TB mg) (aBe : At K mg "_law_beneath" fBe fdBe ["_law_path_here", "_law_other"]) (GBe : FnOk P w K mg base CX0 1 fBe fdBe ["_law_path_here", "_law_other"] spBeneath) :
    FnOk P w K mg base CX0 2 f fd ["_law_files_here", "_law_path_here"] spRoom := by
  refine F.ok scRoom (fun vs H Q E h => ?_) (fun cdv A outer s H vs Q E hr h => ?_)
  · obtain ⟨d, fs, p, rfl, _⟩ := h
    rfl
  · obtain ⟨d, fs, p, rfl, hd, fl, hf, hp, pl, k⟩ := h
    refine ⟨_, pss_one (ps_ret (pe_not (pe_callB (cr_any rfl) (by rfl) T.any boot_any (pa_cons (pe_lock (pe_lc (own := [("_law_one", 2)]) (g := gName 2) (tt := tYes) rfl scRoom.nd (pi_keys (pv 0)) (blkOk_by (own := [("_law_one", 2)]) (N := ["_law_files_here", "_law_path_here", "_law_one"]) (sc := defScope sRoom) (by decide +kernel)) (fun _ _ _ _ _ => (pg_name (i := 2) scRoom.nd rfl (Or.inl rfl))) (fun _ _ _ _ _ => pts_nil) (fun _ _ _ _ _ => (by exact (pe_or (pe_call GBe (hr.mono (by decide)) rfl aBe.m aBe.k aBe.b .nil pass0 (pa_cons (pv 1) (pa_cons (pv 2) pa_nil))) (pe_one (pe_call GBe (hr.mono (by decide)) rfl aBe.m aBe.k aBe.b .nil pass0 (pa_cons (pv 2) (pa_cons (pv 1) pa_nil))))))))) pa_nil)))), ?_⟩
    refine ⟨d, _, hd, trivial, fun od => ⟨_, rfl, d, od, rfl, .inl ⟨fsK fs, upd_same, fun D hD => ?_⟩⟩⟩
    refine lcW (walk_keys (kvs := fsK fs)) (fs.map fun e => .bl (ben p e.1 || ben e.1 p)) (by unfold fsK; rw [List.length_map, List.length_map]) (by unfold fsK; rw [List.length_map]; omega) hD (fun H' s => s _ _ upd_same) ?_ ?_
    · rintro i x y _ H3 hy s3 ⟨rfl, k0, v, hkv, rfl⟩ Q1 k1
      unfold fsK at hkv
      rw [List.getElem?_map] at hkv hy
      obtain ⟨e, he, ek⟩ := Option.map_eq_some_iff.mp hkv
      rw [he] at hy
      cases hy
      cases ek
      have hm := hf e (List.mem_of_getElem? he)
      refine ⟨_, rfl, _, rfl, p, e.1, rfl, hp, hm.1, hm.2, pl, fun H4 s4 => ⟨_, rfl, ?_⟩⟩
      have k1 : ∀ H4, Same H3 H4 → Q1 (.bl (ben p e.1 || ben e.1 p)) H4 := k1
      cases h1 : ben p e.1 with
      | true =>
        rw [h1] at k1
        exact iteT (k1 _ s4)
      | false =>
        rw [h1] at k1
        refine iteF ⟨_, rfl, _, rfl, e.1, p, rfl, hm.1, hp, pl, hm.2, fun H5 s5 => k1 _ (s4.trans s5)⟩
    · intro H1 s1 hD1
      have su : Same H (upd H1 d (.dK (fsK fs))) := fun b u hb => by
        by_cases e : b = d
        · rw [e] at hb ⊢
          rw [upd_same, ← hd]
          exact hb
        · rw [upd_ne e]
          exact s1 _ _ (by rw [upd_ne e]; exact hb)
      refine ⟨s1 _ _ upd_same, D, fs.map fun e => ben p e.1 || ben e.1 p, rfl, SqL.of ?_, _, rfl, ?_⟩
      · rw [upd_ne (fun e => by rw [e, upd_same] at hD; cases hD), hD1, List.map_map]
        rfl
      · rw [List.any_map]
        exact k _ su
theorem scFiles : FnScope ["_law_stream", "_law_pool_here", "_law_most", "_law_files_here", "_law_k", "_law_path_here"] ["_law_stream", "_law_pool_here", "_law_most"] (defScope sFiles) := ⟨rfl, rfl, rfl, by decide +kernel, rfl, by decide +kernel, by decide +kernel⟩
theorem ok_files {f fD fPa fTe fRo : Addr} {fd fdD fdPa fdTe fdRo : FuncData} (F : Fun K "_law_files" "_law_files" sFiles f fd) (T : TB mg) (aD : aD' K mg fD fdD) (GD : FnOk P w K mg base CX0 1 fD fdD ["_law_stream", "_law_many"] spDraw)
    (aPa : At K mg "_law_path" fPa fdPa ["_law_stream", "_law_pool_here", "_law_most"]) (GPa : FnOk P w K mg base CX0 3 fPa fdPa ["_law_stream", "_law_pool_here", "_law_most"] spPath)
    (aRoom : At K mg "_law_has_room" fRo fdRo ["_law_files_here", "_law_path_here"]) (GRoom : FnOk P w K mg base CX0 2 fRo fdRo ["_law_files_here", "_law_path_here"] spRoom)
    (aTe : At K mg "_law_text" fTe fdTe ["_law_stream"]) (GTe : FnOk P w K mg base CX0 2 fTe fdTe ["_law_stream"] spText) : FnOk P w K mg base CX0 4 f fd ["_law_stream", "_law_pool_here", "_law_most"] spFiles := by
  refine F.ok scFiles (fun vs H Q E h => ?_) (fun cdv A outer s H vs Q E hr h => ?_)
  · obtain ⟨st, l, p, c, zs, most, rfl, _⟩ := h
    rfl
  · obtain ⟨st, l, p, c, zs, most, rfl, S, hc, L, z0, z1, nm, hm, k⟩ := h
    have hu := hr.units
    have hu1 := Nat.lt_of_le_of_lt (Nat.add_le_add_left (show 1 ≤ 64 by decide) _) hr.units
    refine ⟨_, pss_cons (ps_set (i := 3) scFiles.nd rfl (Or.inl rfl) pe_dnewK)
            (pss_cons (ps_for PassesOwn.never rfl (pi_range1 rfl T.range (pa_cons (pe_call GD (hr.mono (by decide)) rfl aD.m aD.k aD.b .nil pass0 (pa_cons (pv 0) (pa_cons (pe_op op_add (pv 2) pe_int) pa_nil))) pa_nil)) (pg_name (i := 4) scFiles.nd rfl (Or.inl rfl)) (pss_cons (ps_set (i := 5) scFiles.nd rfl (Or.inl rfl) (pe_call GPa (hr.mono (by decide)) rfl aPa.m aPa.k aPa.b .nil pass0 (pa_cons (pv 0) (pa_cons (pv 1) (pa_cons pe_int pa_nil)))))
            (pss_one (ps_if (pt_val (pe_call GRoom (hr.mono (by decide)) rfl aRoom.m aRoom.k aRoom.b .nil pass0 (pa_cons (pv 3) (pa_cons (pv 5) pa_nil)))) (pss_one (ps_dput hu1 (pv 3) (pv 5) (pe_call GTe (hr.mono (by decide)) rfl aTe.m aTe.k aTe.b .nil pass0 (pa_cons (pv 0) pa_nil)) rfl)) (pss_nil)))))
            (pss_one (ps_ret (pv 3)))), ?_⟩
    refine fun d hd => ?_
    have nd := S.ne_new hd
    have s0 := same_mk (o := .dK []) hd
    refine ⟨_, rfl, _, rfl, _, _, rfl, rfl, st, l, c, _, rfl, S.up s0, by omega, by omega, by omega, fun n H1 n0 n1 B1 S1 => ?_⟩
    obtain ⟨n, rfl⟩ := Int.eq_ofNat_of_zero_le n0
    have d1 : H1 d = some (.dK (fsK [])) := B1 _ _ upd_same nd.1 nd.2
    refine ⟨n, rfl, by omega, by omega, for_range (lo := 0) (n := n) (fun i σ H' => ∃ x4 x5 fs c', σ = [some (.ref st), some (.ref p), some (.int most), some (.ref d), x4, x5] ∧ But st l H H' ∧ H' d = some (.dK (fsK fs)) ∧ GoodF zs fs ∧ fs.length ≤ i ∧ Strm H' st l c' ∧ c' ≤ c + 1 + 5 * i)
      ⟨none, none, [], c + 1, rfl, (But.same s0).trans B1, d1, ⟨by simp, by simp, by simp, by simp⟩, Nat.le_refl _, S1, by omega⟩ ?_ ?_⟩
    · rintro i _ H2 hi ⟨x4, x5, fs, c2, rfl, B2, h2, g, fl, S2, hc2⟩
      refine ⟨_, rfl, _, rfl, st, l, p, c2, zs, 3, rfl, S2, by omega, L.but B2, z0, z1, nm, by decide, by decide, fun ys H3 c3 y1 y3 yz B3 S3 hc3 => ?_⟩
      have hc3' : c3 ≤ c2 + 1 + 3 := hc3
      have h3 := B3 _ _ h2 nd.1 nd.2
      have ny : Nms ys := fun y hy => nm y (yz y hy)
      have yl : ys.length ≤ 3 := by omega
      have fe : ∀ e ∈ fs, Nms e.1 ∧ e.1.length ≤ 100 := fun e he => ⟨fun y hy => nm y ((g.path e he).2.2 y hy), by have := (g.path e he).2.1; omega⟩
      refine ⟨_, rfl, _, rfl, d, fs, ys, rfl, h3, by omega, fe, ny, by omega, fun H4 s4 => ⟨_, rfl, ite2 (fun hro => ?_) (fun _ => ?_)⟩⟩
      · refine ⟨_, rfl, st, l, c3, rfl, S3.up s4, by omega, fun t H5 ht B5 S5 => ?_⟩
        have h5 := B5 _ _ (s4 _ _ h3) nd.1 nd.2
        refine ⟨_, rfl, _, rfl, d, _, rfl, DPut.k (k := .inr (js ys)) h5 (Nat.lt_of_le_of_lt (show (fsK fs).length ≤ 50 by unfold fsK; rw [List.length_map]; omega) (by decide)), ?_⟩
        have hne : ys ≠ [] := by
          rintro rfl
          simp at y1
        rw [fsK_put (fun e he => (fe e he).1) ny]
        have B6 : But st l H H5 := (B2.trans (B3.trans (But.same s4))).trans B5
        refine ⟨_, _, putF fs ys t, c3 + 1, rfl, B6.put hd, upd_same, g.put hne yl yz ht hro, Nat.le_trans (putF_len fs ys t) (by omega), S5.put nd, by omega⟩
      · exact ⟨_, _, fs, c3, rfl, B2.trans (B3.trans (But.same s4)), s4 _ _ h3, g, by omega, S3.up s4, by omega⟩
    · rintro _ H2 ⟨x4, x5, fs, c2, rfl, B2, h2, g, fl, S2, hc2⟩
      exact ⟨_, rfl, k d fs H2 c2 hd h2 g (by omega) B2 S2 (by omega)⟩
end
end R3

set_option maxHeartbeats 3900000
namespace R3
open PySem PySem.Spec PyProof.Rows L2 TL
open C8 (pss_cut tCut pe_gc)
open CB
/-- settings: names, each with its text -/
abbrev Ss := List (Str × Str)
def ssK (ss : Ss) : List (L2.Key × V) := ss.map fun e => (.inr e.1, .str e.2)
structure GoodS (zs : List Str) (ss : Ss) : Prop where
  name : ∀ e ∈ ss, e.1 ∈ zs
  text : ∀ e ∈ ss, e.2 ∈ texts
  nd : (ss.map (·.1)).Nodup
theorem ssK_put {ss : Ss} {n : Str} {t : Str} (h : n ∉ ss.map (·.1)) : putK (ssK ss) (.inr n) (.str t) = ssK (ss ++ [(n, t)]) := by
  have an : ((ssK ss).any fun kv => decide (kv.1 = (.inr n : L2.Key))) = false := by
    unfold ssK
    rw [List.any_map, List.any_eq_false]
    intro e he q
    have : e.1 = n := Sum.inr.inj (of_decide_eq_true q)
    exact h (this ▸ List.mem_map_of_mem he)
  unfold putK
  rw [an, if_neg (by decide)]
  unfold ssK
  rw [List.map_append]
  rfl
def tools : List Str := ["", "1", "2"]
/-- a world as the law holds it -/
def WAt (H : Hp) (x : Addr) (fs : Fs) (ss : Ss) (z : Str) : Prop := ∃ d e, H x = some (.dK [(.inr "files", .ref d), (.inr "settings", .ref e), (.inr "tool", .str z)]) ∧ H d = some (.dK (fsK fs)) ∧ H e = some (.dK (ssK ss))
theorem WAt.same {H H' : Hp} {x : Addr} {fs : Fs} {ss : Ss} {z : Str} (h : WAt H x fs ss z) (s : Same H H') : WAt H' x fs ss z := by
  obtain ⟨d, e, h1, h2, h3⟩ := h
  exact ⟨d, e, s _ _ h1, s _ _ h2, s _ _ h3⟩
theorem dk_but {H H' : Hp} {st l a : Addr} {c : Nat} {kvs : List (L2.Key × V)} (S : Strm H st l c) (B : But st l H H') (h : H a = some (.dK kvs)) : H' a = some (.dK kvs) := by
  obtain ⟨ns, u, m, ⟨g1, g2⟩, _⟩ := S.ex
  exact B _ _ h (ne_of h g1 (by intro z; cases z)) (ne_of h g2 (by intro z; cases z))
theorem WAt.but {H H' : Hp} {st l x : Addr} {c : Nat} {fs : Fs} {ss : Ss} {z : Str} (h : WAt H x fs ss z) (S : Strm H st l c) (B : But st l H H') : WAt H' x fs ss z := by
  obtain ⟨d, e, h1, h2, h3⟩ := h
  exact ⟨d, e, dk_but S B h1, dk_but S B h2, dk_but S B h3⟩
theorem cut_takeW (xs : List V) (d : Nat) : cutV xs none (some (d : Int)) = xs.take d := by
  show (xs.drop (HT.sIx xs.length 0 none)).take (HT.sIx xs.length xs.length (some (d : Int)) - HT.sIx xs.length 0 none) = xs.take d
  rw [HT.sIx_none, HT.sIx_nat, List.drop_zero, Nat.sub_zero]
  by_cases h : d ≤ xs.length
  · rw [Nat.min_eq_left h]
  · rw [Nat.min_eq_right (by omega), List.take_of_length_le (Nat.le_refl _), List.take_of_length_le (by omega)]
theorem disp3 (u v t : V) : mergeK [] [((.inr "files" : L2.Key), u), (.inr "settings", v), (.inr "tool", t)] = [(.inr "files", u), (.inr "settings", v), (.inr "tool", t)] := by rfl
def spWorld : Sp := fun vs H Q _ => ∃ (st l p : Addr) (c : Nat) (zs : List Str) (most : Nat), vs = [.ref st, .ref p, .int most] ∧ Strm H st l c ∧ c ≤ 700000 ∧ Pool H st l p zs ∧ 0 < zs.length ∧ zs.length < 1000 ∧ (∀ z ∈ zs, IsNm z) ∧ zs.Nodup ∧ most ≤ 50 ∧
  ∀ (x : Addr) (fs : Fs) (ss : Ss) (z : Str) (H' : Hp) (c' : Nat), WAt H' x fs ss z → GoodF zs fs → fs.length ≤ most → GoodS zs ss → ss.length ≤ 2 → z ∈ tools → But st l H H' → Strm H' st l c' → c' ≤ c + 6 + 5 * most → Q (.ref x) H'
section
variable {P : Program} {w : World} {K : PySem.W.Frag} {mg : Str → Option Value} {base : Heap}
theorem scWorld : FnScope ["_law_stream", "_law_pool_here", "_law_most", "_law_settings", "_law_name"] ["_law_stream", "_law_pool_here", "_law_most"] (defScope sWorld) := ⟨rfl, rfl, rfl, by decide +kernel, rfl, by decide +kernel, by decide +kernel⟩
theorem ok_world {f fD fTe fFi : Addr} {fd fdD fdTe fdFi : FuncData} (F : Fun K "_law_world" "_law_world" sWorld f fd) (T : TB mg) (aD : aD' K mg fD fdD) (GD : FnOk P w K mg base CX0 1 fD fdD ["_law_stream", "_law_many"] spDraw)
    (aFiles : At K mg "_law_files" fFi fdFi ["_law_stream", "_law_pool_here", "_law_most"]) (GFiles : FnOk P w K mg base CX0 4 fFi fdFi ["_law_stream", "_law_pool_here", "_law_most"] spFiles)
    (aTe : At K mg "_law_text" fTe fdTe ["_law_stream"]) (GTe : FnOk P w K mg base CX0 2 fTe fdTe ["_law_stream"] spText) : FnOk P w K mg base CX0 5 f fd ["_law_stream", "_law_pool_here", "_law_most"] spWorld := by
  refine F.ok scWorld (fun vs H Q E h => ?_) (fun cdv A outer s H vs Q E hr h => ?_)
  · obtain ⟨st, l, p, c, zs, most, rfl, _⟩ := h
    rfl
  · obtain ⟨st, l, p, c, zs, most, rfl, S, hc, L, z0, z1, nm, znd, hm, k⟩ := h
    have hu := hr.units
    have hu1 := Nat.lt_of_le_of_lt (Nat.add_le_add_left (show 1 ≤ 64 by decide) _) hr.units
    refine ⟨_, pss_cons (ps_set (i := 3) scWorld.nd rfl (Or.inl rfl) pe_dnewK)
            (pss_cons (ps_for PassesOwn.never rfl (pi_list (pe_slice sl_list (pv 1) po_none (po_some pe_int))) (pg_name (i := 4) scWorld.nd rfl (Or.inl rfl)) (pss_one (ps_if (pt_cmpR op_eq (pe_call GD (hr.mono (by decide)) rfl aD.m aD.k aD.b .nil pass0 (pa_cons (pv 0) (pa_cons pe_int pa_nil))) pe_int (nomark _)) (pss_one (ps_dput hu1 (pv 3) (pv 4) (pe_call GTe (hr.mono (by decide)) rfl aTe.m aTe.k aTe.b .nil pass0 (pa_cons (pv 0) pa_nil)) rfl)) (pss_nil))))
            (pss_one (ps_ret (pe_disp (pps_cons pe_str (pe_call GFiles (hr.mono (by decide)) rfl aFiles.m aFiles.k aFiles.b .nil pass0 (pa_cons (pv 0) (pa_cons (pv 1) (pa_cons (pv 2) pa_nil)))) (pps_cons pe_str (pv 3) (pps_cons pe_str (pe_ix ix_list (pe_lst (pa_cons pe_str (pa_cons pe_str (pa_cons pe_str pa_nil)))) (pe_call GD (hr.mono (by decide)) rfl aD.m aD.k aD.b .nil pass0 (pa_cons (pv 0) (pa_cons pe_int pa_nil))) (fun _ _ => rfl)) pps_nil))) rfl rfl (by simp) (by decide))))), ?_⟩
    refine fun e he => ?_
    have ne := S.ne_new he
    have s0 := same_mk (o := .dK []) he
    refine ⟨_, rfl, 2, rfl, p, _, rfl, SqL.of (s0 _ _ L.h), fun q hq => ?_⟩
    rw [show cutV (zs.map V.str) none (some (2 : Int)) = (zs.take 2).map V.str from (cut_takeW _ 2).trans List.map_take.symm]
    have nq := (S.up s0).ne_new hq
    have s1 := s0.trans (same_mk (o := .lst ((zs.take 2).map V.str)) hq)
    have qe : q ≠ e := fun z => by rw [z, upd_same] at hq; cases hq
    have lt2 : (zs.take 2).length ≤ 2 := by rw [List.length_take]; omega
    refine ⟨q, rfl, ⟨_, SqL.of upd_same⟩, for_it (walk_list (K := K) (a := q) (xs := (zs.take 2).map V.str)) (fun i σ H' => ∃ x4 ss c', σ = [some (.ref st), some (.ref p), some (.int most), some (.ref e), x4] ∧ But st l H H' ∧ H' q = some (.lst ((zs.take 2).map V.str)) ∧ H' e = some (.dK (ssK ss)) ∧ GoodS zs ss ∧ ss.length ≤ i ∧ (∀ n ∈ ss.map (·.1), n ∈ (zs.take 2).take i) ∧ Strm H' st l c' ∧ c' ≤ c + 2 * i)
      ⟨none, [], c, rfl, But.same s1, upd_same, by rw [upd_ne qe.symm]; exact upd_same, ⟨by simp, by simp, by simp⟩, Nat.le_refl _, by simp, S.up s1, by omega⟩ (fun i σ H' _ q' => by obtain ⟨_, _, _, _, _, h, _⟩ := q'; exact SqL.of h) ?_ ?_⟩
    · rintro i x _ H2 H3 hi ⟨x4, ss, c2, rfl, B2, hq2, he2, g, sl, sub, S2, hc2⟩ ⟨rfl, hx⟩
      rw [List.length_map] at hi
      rw [List.getElem?_map, List.getElem?_eq_getElem hi] at hx
      cases hx
      have hnm : (zs.take 2)[i] ∈ zs := List.mem_of_mem_take (List.getElem_mem hi)
      have tk : (zs.take 2).take (i + 1) = (zs.take 2).take i ++ [(zs.take 2)[i]] := by
        rw [List.take_succ, List.getElem?_eq_getElem hi]
        rfl
      have sub' : ∀ n ∈ ss.map (·.1), n ∈ (zs.take 2).take (i + 1) := fun n hn => by
        rw [tk]
        exact List.mem_append_left _ (sub n hn)
      have new : (zs.take 2)[i] ∉ ss.map (·.1) := fun hn => by
        obtain ⟨j, hj, ej⟩ := List.getElem_of_mem (sub _ hn)
        rw [List.getElem_take] at ej
        have hj' : j < i := by
          rw [List.length_take] at hj
          omega
        have := (List.getElem_inj (znd.sublist (List.take_sublist 2 zs))).mp ej
        omega
      refine ⟨_, rfl, st, l, c2, 2, rfl, S2, by omega, by decide, by decide, fun n H3 n0 n1 B3 S3 => ⟨rfl, _, rfl, ite2 (fun _ => ?_) (fun _ => ?_)⟩⟩
      · refine ⟨_, rfl, st, l, c2 + 1, rfl, S3, by omega, fun t H4 ht B4 S4 => ?_⟩
        have he4 := B4 _ _ (B3 _ _ he2 ne.1 ne.2) ne.1 ne.2
        have hq4 := B4 _ _ (B3 _ _ hq2 nq.1 nq.2) nq.1 nq.2
        refine ⟨_, rfl, _, rfl, e, _, rfl, DPut.k (k := .inr (zs.take 2)[i]) he4 (Nat.lt_of_le_of_lt (show (ssK ss).length ≤ 2 by unfold ssK; rw [List.length_map]; omega) (by decide)), ?_⟩
        rw [ssK_put new]
        have B5 := B2.trans (B3.trans B4)
        refine ⟨_, ss ++ [((zs.take 2)[i], t)], c2 + 2, rfl, B5.put he, by rw [upd_ne qe]; exact hq4, upd_same, ⟨fun a ha => ?_, fun a ha => ?_, ?_⟩, by rw [List.length_append]; show ss.length + 1 ≤ i + 1; omega, fun n hn => ?_, S4.put ne, by omega⟩
        · rcases List.mem_append.mp ha with h | h
          · exact g.name a h
          · rw [List.mem_singleton.mp h]; exact hnm
        · rcases List.mem_append.mp ha with h | h
          · exact g.text a h
          · rw [List.mem_singleton.mp h]; exact ht
        · rw [List.map_append, List.nodup_append]
          refine ⟨g.nd, by simp, fun a ha b hb => ?_⟩
          rw [List.mem_singleton.mp hb]
          rintro rfl
          exact new ha
        · rw [List.map_append] at hn
          rcases List.mem_append.mp hn with h | h
          · exact sub' n h
          · rw [tk, List.mem_singleton.mp h]
            exact List.mem_append_right _ (List.mem_singleton.mpr rfl)
      · exact ⟨_, ss, c2 + 1, rfl, B2.trans B3, B3 _ _ hq2 nq.1 nq.2, B3 _ _ he2 ne.1 ne.2, g, by omega, sub', S3, by omega⟩
    · rintro _ H2 ⟨x4, ss, c2, rfl, B2, hq2, he2, g, sl, sub, S2, hc2⟩
      rw [List.length_map] at sl hc2
      refine fun x hx => ?_
      have nx := S2.ne_new hx
      have sx := same_mk (o := .dK []) hx
      refine ⟨_, rfl, _, rfl, _, rfl, st, l, p, c2, zs, most, rfl, S2.up sx, by omega, (L.but B2).but (But.same sx), z0, z1, nm, hm, fun d fs H3 c3 hd hd3 gf fl B3 S3 hc3 => ?_⟩
      have hx3 := B3 _ _ (upd_same (H := H2) (a := x) (o := .dK [])) nx.1 nx.2
      have he3 := B3 _ _ (sx _ _ he2) ne.1 ne.2
      refine ⟨_, rfl, by show 3 ≤ sizeLine; decide, fun r hr' => ?_⟩
      have sr := same_mk (o := .lst [.str "", .str "1", .str "2"]) hr'
      have nr := S3.ne_new hr'
      refine ⟨_, rfl, st, l, c3, 3, rfl, S3.up sr, by omega, by decide, by decide, fun n H4 n0 n1 B4 S4 => ?_⟩
      obtain ⟨n, rfl⟩ := Int.eq_ofNat_of_zero_le n0
      have hr4 := B4 _ _ (upd_same (H := H3) (a := r) (o := .lst [.str "", .str "1", .str "2"])) nr.1 nr.2
      have hx4 := B4 _ _ (sr _ _ hx3) nx.1 nx.2
      have he4 := B4 _ _ (sr _ _ he3) ne.1 ne.2
      have hd4 := dk_but (S3.up sr) B4 (sr _ _ hd3)
      have xe : x ≠ e := fun z => by rw [z, he2] at hx; cases hx
      have xd : x ≠ d := fun z => by rw [← z, upd_same] at hd; cases hd
      have BB : But st l H (upd H4 x (.dK [(.inr "files", .ref d), (.inr "settings", .ref e), (.inr "tool", .str (tools.getD n ""))])) := by
        have b1 : But st l H H4 := B2.trans ((But.same sx).trans (B3.trans ((But.same sr).trans B4)))
        intro b u hb h1 h2
        have hbx : b ≠ x := fun z => by rw [z] at hb; rw [B2 _ _ hb (z ▸ h1) (z ▸ h2)] at hx; cases hx
        rw [upd_ne hbx]
        exact b1 b u hb h1 h2
      have fin : ∀ z, z = tools.getD n "" → z ∈ tools → Q (.ref x) (upd H4 x (.dK [(.inr "files", .ref d), (.inr "settings", .ref e), (.inr "tool", .str z)])) := fun z ez hz => by
        subst ez
        exact k x fs ss _ _ (c3 + 1) ⟨d, e, upd_same, by rw [upd_ne xd.symm]; exact hd4, by rw [upd_ne xe.symm]; exact he4⟩ gf fl g (by omega) hz BB (S4.put nx) (by omega)
      have n3 : n = 0 ∨ n = 1 ∨ n = 2 := by omega
      rcases n3 with rfl | rfl | rfl
      · exact ⟨r, _, ((0 : Nat) : Int), _, rfl, rfl, SqL.of hr4, atI_nat rfl, hx4, [(.inr "files", .ref d), (.inr "settings", .ref e), (.inr "tool", .str "")], rfl, by show 3 ≤ 15; decide, by rw [disp3]; exact fin _ rfl (by decide +kernel)⟩
      · exact ⟨r, _, ((1 : Nat) : Int), _, rfl, rfl, SqL.of hr4, atI_nat rfl, hx4, [(.inr "files", .ref d), (.inr "settings", .ref e), (.inr "tool", .str "1")], rfl, by show 3 ≤ 15; decide, by rw [disp3]; exact fin _ rfl (by decide +kernel)⟩
      · exact ⟨r, _, ((2 : Nat) : Int), _, rfl, rfl, SqL.of hr4, atI_nat rfl, hx4, [(.inr "files", .ref d), (.inr "settings", .ref e), (.inr "tool", .str "2")], rfl, by show 3 ≤ 15; decide, by rw [disp3]; exact fin _ rfl (by decide +kernel)⟩
end
end R3

set_option maxHeartbeats 3900000
namespace R3
open PySem PySem.Spec PyProof.Rows L2 TL
open C8 (pss_cut tCut pe_gc)
open CB
/-! d != {} -/
def rNeE : R2 := fun x y H Q => ∃ a b kvs, x = .ref a ∧ y = .ref b ∧ H a = some (.dK kvs) ∧ H b = some (.dK []) ∧ Q (.bl (!kvs.isEmpty)) H
theorem op_neE {X : Cx} (hu : X.A.units < cLine) : OpR X (compareOp .NotEq) rNeE := by
  intro pins s σ H x y v u Q I rx ry h
  obtain ⟨a, b, ks, rfl, rfl, ea, eb, q⟩ := h
  cases rx
  cases ry
  obtain ⟨_, ya, va, ra, da⟩ := (show ObjOk X.prog X.w H s.heap a (.dK ks) from I.hok a _ ea)
  obtain ⟨_, yb, vb, rb, db⟩ := (show ObjOk X.prog X.w H s.heap b (.dK []) from I.hok b _ eb)
  have l1 := ra.length
  have l2 := rb.length
  have hits : va.length = vb.length → PySem.W.KeqHits X.A.in1 s vb va true := fun e => by
    cases va with
    | nil => exact .nil
    | cons z r => rw [← l2] at e; cases e
  refine PySem.W.keq_ne (knd := mixKind X.prog X.w) (r := true) ya yb da db hu hits ⟨.bl _, H, I, rfl, ?_⟩
  have e : (va.length == vb.length && true) = ks.isEmpty := by
    rw [← l1, ← l2]
    cases ks <;> rfl
  rw [e]
  exact q
/-- what lies beneath a folder: names, each with whether it is a folder itself -/
abbrev Nm := List (Str × Bool)
def nmK (fm : Nm) : List (L2.Key × V) := fm.map fun e => (.inr e.1, .str (ent e.1 e.2))
/-- the name n beneath q, as a folder or as a file -/
def Has (fs : Fs) (q : List Str) (n : Str) (b : Bool) : Prop := ∃ e ∈ fs, ∃ r, e.1 = q ++ n :: r ∧ b = decide (r ≠ [])
structure Fm (fs : Fs) (q : List Str) (fm : Nm) : Prop where
  nd : (fm.map (·.1)).Nodup
  has : ∀ n b, (n, b) ∈ fm ↔ Has fs q n b
def addN (fm : Nm) (n : Str) (b : Bool) : Nm := if n ∈ fm.map (·.1) then fm else fm ++ [(n, b)]
theorem nm_put {fm : Nm} {n : Str} {b : Bool} (h : ∀ c, (n, c) ∈ fm → c = b) : putK (nmK fm) (.inr n) (.str (ent n b)) = nmK (addN fm n b) := by
  have an : ((nmK fm).any fun kv => decide (kv.1 = (.inr n : L2.Key))) = decide (n ∈ fm.map (·.1)) := by
    unfold nmK
    rw [List.any_map, Bool.eq_iff_iff, List.any_eq_true, decide_eq_true_iff, List.mem_map]
    constructor
    · rintro ⟨e, he, q⟩
      exact ⟨e, he, Sum.inr.inj (of_decide_eq_true q)⟩
    · rintro ⟨e, he, q⟩
      exact ⟨e, he, decide_eq_true (by show (Sum.inr e.1 : L2.Key) = .inr n; rw [q])⟩
  unfold putK addN
  rw [an]
  by_cases hn : n ∈ fm.map (·.1)
  · rw [if_pos (decide_eq_true hn), if_pos hn]
    unfold nmK
    rw [List.map_map]
    refine List.map_congr_left fun e he => ?_
    show (if (Sum.inr e.1 : L2.Key) = .inr n then ((Sum.inr e.1 : L2.Key), V.str (ent n b)) else (Sum.inr e.1, V.str (ent e.1 e.2))) = (Sum.inr e.1, V.str (ent e.1 e.2))
    by_cases q : e.1 = n
    · have hb : e.2 = b := h e.2 (by rw [← q]; exact he)
      rw [if_pos (by rw [q]), q, hb]
    · rw [if_neg fun z => q (Sum.inr.inj z)]
  · rw [if_neg (fun z => hn (of_decide_eq_true z)), if_neg hn]
    unfold nmK
    rw [List.map_append]
    rfl
theorem has_one {zs : List Str} {fs : Fs} (g : GoodF zs fs) {q : List Str} {n : Str} {b c : Bool} (h1 : Has fs q n b) (h2 : Has fs q n c) : b = c := by
  obtain ⟨e1, m1, r1, p1, rfl⟩ := h1
  obtain ⟨e2, m2, r2, p2, rfl⟩ := h2
  have f1 := g.free _ (List.mem_map_of_mem m1) _ (List.mem_map_of_mem m2)
  have f2 := g.free _ (List.mem_map_of_mem m2) _ (List.mem_map_of_mem m1)
  by_cases a1 : r1 = []
  · by_cases a2 : r2 = []
    · rw [a1, a2]
    · have : ben e2.1 e1.1 = true := ben_iff.mpr ⟨r2, a2, by rw [p1, p2, a1]; simp⟩
      rw [this] at f2
      cases f2
  · by_cases a2 : r2 = []
    · have : ben e1.1 e2.1 = true := ben_iff.mpr ⟨r1, a1, by rw [p1, p2, a2]; simp⟩
      rw [this] at f1
      cases f1
    · rw [decide_eq_true a1, decide_eq_true a2]
theorem has_take {fs : Fs} {i : Nat} (hi : i < fs.length) {q : List Str} {n : Str} {b : Bool} : Has (fs.take (i + 1)) q n b ↔ Has (fs.take i) q n b ∨ ∃ r, fs[i].1 = q ++ n :: r ∧ b = decide (r ≠ []) := by
  have tk : fs.take (i + 1) = fs.take i ++ [fs[i]] := by
    rw [List.take_succ, List.getElem?_eq_getElem hi]
    rfl
  unfold Has
  rw [tk]
  constructor
  · rintro ⟨e, he, r, h1, h2⟩
    rcases List.mem_append.mp he with he | he
    · exact .inl ⟨e, he, r, h1, h2⟩
    · rw [List.mem_singleton.mp he] at h1
      exact .inr ⟨r, h1, h2⟩
  · rintro (⟨e, he, r, h1, h2⟩ | ⟨r, h1, h2⟩)
    · exact ⟨e, List.mem_append_left _ he, r, h1, h2⟩
    · exact ⟨fs[i], List.mem_append_right _ (List.mem_singleton.mpr rfl), r, h1, h2⟩
theorem Has.whole {fs : Fs} {i : Nat} {q : List Str} {n : Str} {b : Bool} (h : Has (fs.take i) q n b) : Has fs q n b := by
  obtain ⟨e, he, r⟩ := h
  exact ⟨e, List.mem_of_mem_take he, r⟩
theorem Fm.no {fs : Fs} {i : Nat} {q : List Str} {fm : Nm} (h : Fm (fs.take i) q fm) (hi : i < fs.length) (hb : ben fs[i].1 q = false) : Fm (fs.take (i + 1)) q fm := by
  refine ⟨h.nd, fun n b => (h.has n b).trans ⟨fun k => (has_take hi).mpr (.inl k), fun k => ?_⟩⟩
  rcases (has_take hi).mp k with k | ⟨r, h1, _⟩
  · exact k
  · have : ben fs[i].1 q = true := ben_iff.mpr ⟨n :: r, by simp, h1⟩
    rw [this] at hb
    cases hb
theorem Fm.yes {zs : List Str} {fs : Fs} (g : GoodF zs fs) {i : Nat} {q : List Str} {fm : Nm} (h : Fm (fs.take i) q fm) (hi : i < fs.length) {n : Str} {r : List Str} (he : fs[i].1 = q ++ n :: r) : Fm (fs.take (i + 1)) q (addN fm n (decide (r ≠ []))) := by
  have here : Has (fs.take (i + 1)) q n (decide (r ≠ [])) := (has_take hi).mpr (.inr ⟨r, he, rfl⟩)
  unfold addN
  by_cases hn : n ∈ fm.map (·.1)
  · rw [if_pos hn]
    obtain ⟨e, hm, en⟩ := List.mem_map.mp hn
    have hm' : (n, e.2) ∈ fm := by rw [← en]; exact hm
    have old := (h.has n e.2).mp hm'
    refine ⟨h.nd, fun m b => ⟨fun k => (has_take hi).mpr (.inl ((h.has m b).mp k)), fun k => ?_⟩⟩
    rcases (has_take hi).mp k with k | ⟨r', h1, h2⟩
    · exact (h.has m b).mpr k
    · rw [he] at h1
      have e3 := List.append_cancel_left h1
      obtain ⟨rfl, rfl⟩ := List.cons.inj e3
      have := has_one g old.whole (here.whole)
      rw [h2, ← this]
      exact hm'
  · rw [if_neg hn]
    refine ⟨?_, fun m b => ?_⟩
    · rw [List.map_append, List.nodup_append]
      refine ⟨h.nd, by simp, fun a ha c hc => ?_⟩
      rw [List.mem_singleton.mp hc]
      rintro rfl
      exact hn ha
    · rw [List.mem_append, h.has m b, has_take hi, List.mem_singleton, Prod.mk.injEq]
      constructor
      · rintro (k | ⟨rfl, rfl⟩)
        · exact .inl k
        · exact .inr ⟨r, he, rfl⟩
      · rintro (k | ⟨r', h1, h2⟩)
        · exact .inl k
        · rw [he] at h1
          obtain ⟨rfl, rfl⟩ := List.cons.inj (List.append_cancel_left h1)
          exact .inr ⟨rfl, h2⟩
theorem addN_len (fm : Nm) (n : Str) (b : Bool) : (addN fm n b).length ≤ fm.length + 1 := by
  unfold addN
  split
  · omega
  · rw [List.length_append]
    exact Nat.le_refl _
theorem perm_lift {α β : Type} {f : α → β} : ∀ {ys : List β} {l : List α}, ys.Perm (l.map f) → ∃ zs : List α, ys = zs.map f ∧ zs.Perm l
  | [], l, h => by
    have := h.length_eq
    rw [List.length_map] at this
    exact ⟨[], rfl, by rw [List.length_eq_zero_iff.mp this.symm]⟩
  | y :: ys, l, h => by
    obtain ⟨a, ha, rfl⟩ := List.mem_map.mp (h.mem_iff.mp List.mem_cons_self)
    obtain ⟨s, t, rfl⟩ := List.append_of_mem ha
    have p1 : (f a :: ys).Perm (f a :: (s ++ t).map f) := h.trans (by
      have := (List.perm_middle (a := a) (l₁ := s) (l₂ := t)).map f
      exact this)
    obtain ⟨zs, e, pz⟩ := perm_lift p1.cons_inv
    exact ⟨a :: zs, by rw [e]; rfl, (pz.cons a).trans List.perm_middle.symm⟩
theorem nm_val {fm : Nm} (nd : (fm.map (·.1)).Nodup) : ∀ e ∈ fm, valV (nmK fm) (.inr e.1) = some (.str (ent e.1 e.2)) := by
  induction fm with
  | nil => intro e he; cases he
  | cons a r ih =>
    intro e he
    rw [List.map_cons, List.nodup_cons] at nd
    unfold valV nmK
    rw [List.map_cons, List.find?_cons]
    rcases List.mem_cons.mp he with rfl | he
    · rw [show decide ((Sum.inr e.1 : L2.Key) = .inr e.1) = true from decide_eq_true rfl]
      rfl
    · have ne : a.1 ≠ e.1 := fun q => nd.1 (q ▸ List.mem_map_of_mem he)
      rw [show decide ((Sum.inr a.1 : L2.Key) = .inr e.1) = false from decide_eq_false fun q => ne (Sum.inr.inj q)]
      exact ih nd.2 e he
def spNin : Sp := fun vs H Q _ => ∃ d fs zs q, vs = [.ref d, .str (js q)] ∧ H d = some (.dK (fsK fs)) ∧ GoodF zs fs ∧ (∀ z ∈ zs, IsNm z) ∧ fs.length ≤ 50 ∧ Nms q ∧ q.length ≤ 100 ∧
  ∀ fm : Nm, Fm fs q fm → (fm = [] → q ≠ [] → ∀ H', Same H H' → Q .non H') ∧ ((fm ≠ [] ∨ q = []) → ∀ (t : Addr) (ys : Nm) (H' : Hp), Same H H' → ys.Perm fm → sortedS (ys.map (·.1)) = true → H' t = some (.tup (ys.map fun e => .str (ent e.1 e.2))) → Q (.ref t) H')
section
variable {P : Program} {w : World} {K : PySem.W.Frag} {mg : Str → Option Value} {base : Heap}
theorem scNin : FnScope ["_law_files_here", "_law_folder", "_law_found", "_law_path_here", "_law_rest", "_law_name"] ["_law_files_here", "_law_folder"] (defScope sNin) := ⟨rfl, rfl, rfl, by decide +kernel, rfl, by decide +kernel, by decide +kernel⟩
theorem ok_nin {f fBe : Addr} {fd fdBe : FuncData} (F : Fun K "_law_names_in" "_law_names_in" sNin f fd) (T : TB mg) (aBe : At K mg "_law_beneath" fBe fdBe ["_law_path_here", "_law_other"]) (GBe : FnOk P w K mg base CX0 1 fBe fdBe ["_law_path_here", "_law_other"] spBeneath) :
    FnOk P w K mg base CX0 2 f fd ["_law_files_here", "_law_folder"] spNin := by
  refine F.ok scNin (fun vs H Q E h => ?_) (fun cdv A outer s H vs Q E hr h => ?_)
  · obtain ⟨d, fs, zs, q, rfl, _⟩ := h
    rfl
  · obtain ⟨d, fs, zs, q, rfl, hd, g, nm, fl, hq, ql, k⟩ := h
    have hu := hr.units
    have hu0 := hr.units0
    have hu1 := Nat.lt_of_le_of_lt (Nat.add_le_add_left (show 1 ≤ 64 by decide) _) hr.units
    refine ⟨_, pss_cons (ps_set (i := 2) scNin.nd rfl (Or.inr rfl) pe_dnewK)
            (pss_cons (ps_lock (ps_for PassesOwn.never rfl (pi_keys (pv 0)) (pg_name (i := 3) scNin.nd rfl (Or.inl rfl)) (pss_one (ps_if (pt_val (pe_call GBe (hr.mono (by decide)) rfl aBe.m aBe.k aBe.b .nil pass0 (pa_cons (pv 3) (pa_cons (pv 1) pa_nil)))) (pss_cons (ps_set (i := 4) scNin.nd rfl (Or.inl rfl) (pe_slice sl_str (pv 3) (po_some (pe_op op_add (pe_callB call_len_str (by rfl) T.len PySem.boot_len (pa_cons (pv 1) pa_nil)) (pe_callTy call_int1 (by rfl) T.int (by decide +kernel) (pa_cons (pe_cmpR op_ne (pv 1) pe_str (nomark _)) pa_nil)))) po_none))
            (pss_cons (ps_set (i := 5) scNin.nd rfl (Or.inl rfl) (pe_ix ix_list (pe_bm PySem.F.plainAttrs_str PySem.F.slot_str_split PySem.F.type_str_split mt_split (pv 4) (pa_cons pe_str pa_nil)) pe_int (fun _ _ => rfl)))
            (pss_one (ps_dput hu1 (pv 2) (pv 5) (pe_ifExp (pt_cmpR op_eq (pv 4) (pv 5) (nomark _)) (pv 5) (pe_op op_add_str (pv 5) pe_str)) rfl)))) (pss_nil)))))
            (pss_one (ps_ret (pe_ifExp (PW.pt (pw_or (pt_cmpR (op_neE hu0) (pv 2) pe_dnewK (nomark _)) (pw_or1 (pt_cmpR op_eq (pv 1) pe_str (nomark _))))) (pe_callTy call_tuple_of (by rfl) T.tuple (by decide +kernel) (pa_cons (pe_lc (own := [("_law_name", 5)]) (g := gName 5) (tt := tYes) rfl scNin.nd (pi_list (pe_callB (call_sortedD rfl) (by rfl) T.sorted (by decide +kernel) (pa_cons (pv 2) pa_nil))) (blkOk_by (own := [("_law_name", 5)]) (N := ["_law_files_here", "_law_folder", "_law_found", "_law_path_here", "_law_rest", "_law_name"]) (sc := defScope sNin) (by decide +kernel)) (fun _ _ _ _ _ => (pg_name (i := 5) scNin.nd rfl (Or.inl rfl))) (fun _ _ _ _ _ => pts_nil) (fun _ _ _ _ _ => (by exact (pe_dget hu1 (pv 2) (pv 5) (fun _ _ => rfl))))) pa_nil)) pe_non)))), ?_⟩
    refine fun fo hfo => ?_
    have s0 := same_mk (o := .dK []) hfo
    have dfo : d ≠ fo := fun z => by rw [← z, hd] at hfo; cases hfo
    have up : ∀ H2 : Hp, (∀ b u, H b = some u → b ≠ d → H2 b = some u) → Same H (upd H2 d (.dK (fsK fs))) := fun H2 kp b u hb => by
      by_cases e : b = d
      · rw [e] at hb ⊢
        rw [upd_same, ← hd]
        exact hb
      · rw [upd_ne e]
        exact kp b u hb e
    refine ⟨d, _, s0 _ _ hd, trivial, fun od => ⟨_, rfl, d, od, rfl, .inl ⟨fsK fs, upd_same, for_it (walk_keys (kvs := fsK fs)) (fun i σ H' => ∃ x3 x4 x5 fm, σ = [some (.ref d), some (.str (js q)), some (.ref fo), x3, x4, x5] ∧ (∀ b u, H b = some u → b ≠ d → H' b = some u) ∧ H' d = some (.frz od (.dK (fsK fs))) ∧ H' fo = some (.dK (nmK fm)) ∧ Fm (fs.take i) q fm ∧ fm.length ≤ i)
      ⟨none, none, none, [], rfl, fun b u hb nb => by rw [upd_ne nb]; exact s0 _ _ hb, upd_same, by rw [upd_ne dfo.symm]; exact upd_same, ⟨by simp, by simp [Has]⟩, Nat.le_refl _⟩ (fun i σ H' _ z => by obtain ⟨_, _, _, _, _, _, h, _⟩ := z; exact h) ?_ ?_⟩⟩⟩
    · rintro i x _ H2 H3 hi ⟨x3, x4, x5, fm, rfl, kp, hd2, hf2, Fm2, fml⟩ ⟨rfl, k0, v, hkv, rfl⟩
      unfold fsK at hi
      rw [List.length_map] at hi
      unfold fsK at hkv
      rw [List.getElem?_map, List.getElem?_eq_getElem hi] at hkv
      cases hkv
      have em : fs[i] ∈ fs := List.getElem_mem hi
      obtain ⟨p0, p3, pz⟩ := g.path _ em
      have np : Nms fs[i].1 := fun y hy => nm y (pz y hy)
      refine ⟨_, rfl, _, rfl, fs[i].1, q, rfl, np, hq, ql, by omega, fun H4 s4 => ⟨_, rfl, ite2 (fun hb => ?_) (fun hb => ?_)⟩⟩
      · obtain ⟨r', hr0, er⟩ := ben_iff.mp hb
        match r', hr0, er with
        | n :: r, _, er =>
          have nr : Nms (n :: r) := fun y hy => np y (by rw [er]; exact List.mem_append_right _ hy)
          have hn : IsNm n := nr n List.mem_cons_self
          have jl1 := js_len hq
          have jl2 := js_len np
          have big : ∀ m : Nat, m ≤ 2000 → m ≤ sizeLine := fun m hm => Nat.le_trans hm (by decide)
          refine ⟨_, rfl, _, rfl, js q, rfl, big _ (by omega), _, rfl, rfl, .inr ⟨_, rfl, _, _, rfl, rfl, _, rfl, js fs[i].1, rfl, big _ (by omega), ?_⟩⟩
          have hcut : cutS (js fs[i].1) (some ((((js q).length : Nat) : Int) + (if (!decide (V.str (js q) = V.str "")) = true then 1 else 0))) none = js (n :: r) := by
            have e1 : ((((js q).length : Nat) : Int) + (if (!decide (V.str (js q) = V.str "")) = true then 1 else 0)) = (((bg q).length : Nat) : Int) := by
              rw [bg_len, dec_str, len_tl, tl_js]
              by_cases hq0 : q = []
              · subst hq0
                rfl
              · rw [if_neg hq0, beq_eq_false_iff_ne.mpr (js_ne hq hq0)]
                simp
            rw [e1, er]
            exact rest_bg q (by simp)
          rw [hcut]
          have jl3 := js_len nr
          have rl : (n :: r).length ≤ 3 := by
            rw [er, List.length_append] at p3
            omega
          refine ⟨_, rfl, rfl, js (n :: r), "/", rfl, rfl, rfl, big _ (by omega), fun l hl => ?_⟩
          rw [split_js nr (by simp)] at *
          have s5 := same_mk (o := .lst ((n :: r).map V.str)) hl
          have s45 := s4.trans s5
          refine ⟨l, _, ((0 : Nat) : Int), _, rfl, rfl, SqL.of upd_same, atI_nat rfl, ?_⟩
          have kp5 : ∀ b u, H b = some u → b ≠ d → upd H4 l (.lst ((n :: r).map V.str)) b = some u := fun b u hb nb => s45 _ _ (kp b u hb nb)
          have hd5 := s45 _ _ hd2
          have hf5 := s45 _ _ hf2
          generalize upd H4 l (.lst ((n :: r).map V.str)) = H5 at kp5 hd5 hf5 ⊢
          have lim : (nmK fm).length < sizeLine := Nat.lt_of_le_of_lt (show (nmK fm).length ≤ 50 by unfold nmK; rw [List.length_map]; omega) (by decide)
          have one : ∀ c, (n, c) ∈ fm → c = decide (r ≠ []) := fun c hc => has_one g ((Fm2.has n c).mp hc).whole ⟨fs[i], em, r, er, rfl⟩
          have fin : ∀ t, t = ent n (decide (r ≠ [])) → (∃ x3 x4 x5 fm', [some (V.ref d), some (V.str (js q)), some (V.ref fo), some (V.str (js fs[i].1)), some (V.str (js (n :: r))), some (V.str n)] = [some (V.ref d), some (.str (js q)), some (.ref fo), x3, x4, x5] ∧ (∀ b u, H b = some u → b ≠ d → upd H5 fo (.dK (putK (nmK fm) (.inr n) (.str t))) b = some u) ∧ upd H5 fo (.dK (putK (nmK fm) (.inr n) (.str t))) d = some (.frz od (.dK (fsK fs))) ∧ upd H5 fo (.dK (putK (nmK fm) (.inr n) (.str t))) fo = some (.dK (nmK fm')) ∧ Fm (fs.take (i + 1)) q fm' ∧ fm'.length ≤ i + 1) := fun t et => by
            subst et
            rw [nm_put one]
            refine ⟨_, _, _, addN fm n (decide (r ≠ [])), rfl, fun b u hb nb => ?_, by rw [upd_ne dfo]; exact hd5, upd_same, Fm2.yes g hi er, Nat.le_trans (addN_len fm n _) (by omega)⟩
            rw [upd_ne (fun e => by rw [e, hfo] at hb; cases hb)]
            exact kp5 b u hb nb
          have hsz : n.length + ("/" : Str).length ≤ sizeLine := by
            have h8 := hn.2.1
            have e1 : ("/" : Str).length = 1 := by decide +kernel
            exact big _ (by omega)
          by_cases hr1 : r = []
          · subst hr1
            refine ⟨_, rfl, _, rfl, rfl, _, rfl, ?_⟩
            rw [js_one, decide_eq_true rfl]
            refine iteT ⟨_, rfl, _, rfl, _, rfl, fo, _, rfl, DPut.k (k := .inr n) hf5 lim, ?_⟩
            have q1 := fin n rfl
            rw [js_one] at q1
            exact q1
          · refine ⟨_, rfl, _, rfl, rfl, _, rfl, ?_⟩
            rw [decide_eq_false (fun e => hr1 (List.cons.inj (js_inj nr (q := [n]) (fun y hy => by rw [List.mem_singleton.mp hy]; exact hn) ((V.str.inj e).trans (js_one n).symm))).2)]
            refine iteF ⟨_, rfl, n, "/", rfl, rfl, hsz, _, rfl, _, rfl, fo, _, rfl, DPut.k (k := .inr n) hf5 lim, ?_⟩
            exact fin (n ++ "/") (by unfold ent; rw [if_pos (decide_eq_true hr1)])
      · exact ⟨_, _, _, fm, rfl, fun b u hb' nb => s4 _ _ (kp b u hb' nb), s4 _ _ hd2, s4 _ _ hf2, Fm2.no hi (by simpa using hb), by omega⟩
    · rintro _ H2 ⟨x3, x4, x5, fm, rfl, kp, hd2, hf2, Fm2, fml⟩
      have el : (fsK fs).length = fs.length := by unfold fsK; rw [List.length_map]
      rw [el] at Fm2 fml
      rw [List.take_length] at Fm2
      have su := up H2 kp
      have hf3 : upd H2 d (.dK (fsK fs)) fo = some (.dK (nmK fm)) := by rw [upd_ne dfo.symm]; exact hf2
      refine ⟨hd2, ?_⟩
      generalize upd H2 d (.dK (fsK fs)) = H3 at su hf3 ⊢
      obtain ⟨kno, kyes⟩ := k fm Fm2
      refine ⟨_, rfl, fun p0 n0 => ⟨fo, p0, nmK fm, rfl, rfl, same_mk n0 _ _ hf3, upd_same, _, rfl, ?_⟩⟩
      have s0' := same_mk (o := .dK []) n0
      have hf4 := s0' _ _ hf3
      have su4 := su.trans s0'
      generalize upd H3 p0 (.dK []) = H4 at hf4 su4 ⊢
      have em : (nmK fm).isEmpty = decide (fm = []) := by
        cases fm with
        | nil => rfl
        | cons a r => rfl
      rw [em]
      have hkeys : (nmK fm).map (·.1) = (fm.map (·.1)).map Sum.inr := by
        unfold nmK
        rw [List.map_map, List.map_map]
        rfl
      by_cases hfm : fm = []
      · rw [decide_eq_true hfm]
        by_cases hq0 : q = []
        · refine iteF ⟨_, rfl, rfl, _, rfl, ?_⟩
          rw [show decide (V.str (js q) = V.str "") = true from decide_eq_true (by rw [hq0]; rfl)]
          refine iteT ?_
          refine ⟨_, rfl, fo, nmK fm, fm.map (·.1), rfl, .inl hf4, hkeys, by rw [List.length_map]; omega, fun ys p pm srt hp => ?_⟩
          obtain ⟨zs, rfl, pz⟩ := perm_lift pm
          have zl := pz.length_eq
          have s5 := same_mk (o := .lst ((zs.map (·.1)).map V.str)) hp
          have hl5 : upd H4 p (.lst ((zs.map (·.1)).map V.str)) p = some (.lst (zs.map fun e => V.str e.1)) := by rw [upd_same, List.map_map]; rfl
          refine ⟨p, rfl, ⟨_, SqL.of hl5⟩, fun D hD => ?_⟩
          refine lc_mapL zs (fun e => V.str e.1) (fun e => .str (ent e.1 e.2)) (by omega) hD (SqL.of hl5) (fun e he H6 s6 Q1 k1 => ?_) (fun H6 s6 hD6 => ?_)
          · have dg := DGet.k (k := .inr e.1) ((s5.trans s6) _ _ hf4)
            rw [nm_val Fm2.nd e (pz.mem_iff.mp he)] at dg
            exact ⟨_, rfl, _, rfl, fo, _, rfl, dg, k1 H6 (Same.refl H6)⟩
          · refine ⟨D, _, rfl, .inl ⟨SqL.of hD6, fun t ht => ?_⟩⟩
            exact kyes (.inr hq0) t zs _ ((su4.trans (s5.trans s6)).trans (same_mk ht)) pz srt upd_same
        · refine iteF ⟨_, rfl, rfl, _, rfl, ?_⟩
          rw [decide_eq_false fun e => js_ne hq hq0 (V.str.inj e)]
          exact iteF (kno hfm hq0 _ su4)
      · rw [decide_eq_false hfm]
        refine iteT ?_
        refine ⟨_, rfl, fo, nmK fm, fm.map (·.1), rfl, .inl hf4, hkeys, by rw [List.length_map]; omega, fun ys p pm srt hp => ?_⟩
        obtain ⟨zs, rfl, pz⟩ := perm_lift pm
        have zl := pz.length_eq
        have s5 := same_mk (o := .lst ((zs.map (·.1)).map V.str)) hp
        have hl5 : upd H4 p (.lst ((zs.map (·.1)).map V.str)) p = some (.lst (zs.map fun e => V.str e.1)) := by rw [upd_same, List.map_map]; rfl
        refine ⟨p, rfl, ⟨_, SqL.of hl5⟩, fun D hD => ?_⟩
        refine lc_mapL zs (fun e => V.str e.1) (fun e => .str (ent e.1 e.2)) (by omega) hD (SqL.of hl5) (fun e he H6 s6 Q1 k1 => ?_) (fun H6 s6 hD6 => ?_)
        · have dg := DGet.k (k := .inr e.1) ((s5.trans s6) _ _ hf4)
          rw [nm_val Fm2.nd e (pz.mem_iff.mp he)] at dg
          exact ⟨_, rfl, _, rfl, fo, _, rfl, dg, k1 H6 (Same.refl H6)⟩
        · refine ⟨D, _, rfl, .inl ⟨SqL.of hD6, fun t ht => ?_⟩⟩
          exact kyes (.inl hfm) t zs _ ((su4.trans (s5.trans s6)).trans (same_mk ht)) pz srt upd_same
end
end R3

set_option maxHeartbeats 3900000
namespace R3
open PySem PySem.Spec PyProof.Rows L2 TL
open C8 (pss_cut tCut pe_gc)
open CB
def oV : Option Str → V
  | some t => .str t
  | none => .non
def fOf (fs : Fs) (p : List Str) : Option Str := (fs.find? fun e => decide (e.1 = p)).map (·.2)
def sOf (ss : Ss) (n : Str) : Option Str := (ss.find? fun e => decide (e.1 = n)).map (·.2)
theorem fs_val {fs : Fs} (h : ∀ e ∈ fs, Nms e.1) {p : List Str} (hp : Nms p) : valV (fsK fs) (.inr (js p)) = (fOf fs p).map V.str := by
  induction fs with
  | nil => rfl
  | cons a r ih =>
    unfold valV fsK fOf
    rw [List.map_cons, List.find?_cons, List.find?_cons]
    have ha := h a List.mem_cons_self
    by_cases e : a.1 = p
    · rw [show decide ((Sum.inr (js a.1) : L2.Key) = .inr (js p)) = true from decide_eq_true (by rw [e]), decide_eq_true e]
      rfl
    · rw [show decide ((Sum.inr (js a.1) : L2.Key) = .inr (js p)) = false from decide_eq_false fun q => e (js_inj ha hp (Sum.inr.inj q)), decide_eq_false e]
      exact ih fun x hx => h x (List.mem_cons_of_mem _ hx)
theorem ss_val {ss : Ss} {n : Str} : valV (ssK ss) (.inr n) = (sOf ss n).map V.str := by
  induction ss with
  | nil => rfl
  | cons a r ih =>
    unfold valV ssK sOf
    rw [List.map_cons, List.find?_cons, List.find?_cons]
    by_cases e : a.1 = n
    · rw [show decide ((Sum.inr a.1 : L2.Key) = .inr n) = true from decide_eq_true (by rw [e]), decide_eq_true e]
      rfl
    · rw [show decide ((Sum.inr a.1 : L2.Key) = .inr n) = false from decide_eq_false fun q => e (Sum.inr.inj q), decide_eq_false e]
      exact ih
section
variable {H : Hp} {x d e : Addr} {z : Str}
theorem wd_f (h : H x = some (.dK [(.inr "files", .ref d), (.inr "settings", .ref e), (.inr "tool", .str z)])) : DGet H x (.str "files") (some (.ref d)) := DGet.k (k := .inr "files") h
theorem wd_s (h : H x = some (.dK [(.inr "files", .ref d), (.inr "settings", .ref e), (.inr "tool", .str z)])) : DGet H x (.str "settings") (some (.ref e)) := DGet.k (k := .inr "settings") h
theorem wd_t (h : H x = some (.dK [(.inr "files", .ref d), (.inr "settings", .ref e), (.inr "tool", .str z)])) : DGet H x (.str "tool") (some (.str z)) := DGet.k (k := .inr "tool") h
end
/-- what a look shows of a world -/
def Ans (H : Hp) (fs : Fs) (ss : Ss) (z : Str) (v : V) : Lk → Prop
  | .rd p => v = oV (fOf fs p)
  | .ls q => ∃ fm, Fm fs q fm ∧ ((fm = [] ∧ q ≠ [] ∧ v = .non) ∨ ((fm ≠ [] ∨ q = []) ∧ ∃ t ys, v = .ref t ∧ List.Perm ys fm ∧ sortedS (ys.map (·.1)) = true ∧ H t = some (.tup (ys.map fun e => .str (ent e.1 e.2)))))
  | .se n => v = oV (sOf ss n)
  | .tl => v = .str z
def LkP : Lk → Prop
  | .rd p => Nms p ∧ p.length ≤ 100
  | .ls p => Nms p ∧ p.length ≤ 100
  | .se n => IsNm n
  | .tl => True
def spShows : Sp := fun vs H Q _ => ∃ x t zs fs ss z k, vs = [.ref x, .ref t] ∧ WAt H x fs ss z ∧ H t = some (.tup (lkV k)) ∧ LkP k ∧ GoodF zs fs ∧ (∀ z ∈ zs, IsNm z) ∧ fs.length ≤ 50 ∧ ∀ v H', Same H H' → Ans H' fs ss z v k → Q v H'
abbrev sShw : Stmt := sShows
section
variable {P : Program} {w : World} {K : PySem.W.Frag} {mg : Str → Option Value} {base : Heap}
theorem scShows : FnScope ["_law_w", "_law_look_here"] ["_law_w", "_law_look_here"] (defScope sShows) := ⟨rfl, rfl, rfl, by decide +kernel, rfl, by decide +kernel, by decide +kernel⟩
theorem ok_shows {f fNi : Addr} {fd fdNi : FuncData} (F : Fun K "_law_shows" "_law_shows" sShows f fd) (T : TB mg) (aNin : At K mg "_law_names_in" fNi fdNi ["_law_files_here", "_law_folder"]) (GNin : FnOk P w K mg base CX0 2 fNi fdNi ["_law_files_here", "_law_folder"] spNin) :
    FnOk P w K mg base CX0 3 f fd ["_law_w", "_law_look_here"] spShows := by
  refine F.ok scShows (fun vs H Q E h => ?_) (fun cdv A outer s H vs Q E hr h => ?_)
  · obtain ⟨x, t, zs, fs, ss, z, k, rfl, _⟩ := h
    rfl
  · have hu1 := Nat.lt_of_le_of_lt (Nat.add_le_add_left (show 1 ≤ 64 by decide) _) hr.units
    obtain ⟨x, t, zs, fs, ss, z, k, rfl, ⟨d, e, hx, hd, he⟩, ht, kp, g, nm, fl, kk⟩ := h
    refine ⟨_, pss_cons (ps_if (pt_cmpR op_eq (pe_ix ix_tup (pv 1) pe_int (fun _ _ => rfl)) pe_str (nomark _)) (pss_one (ps_ret (pe_dget1 hu1 (pe_dget hu1 (pv 0) pe_str (fun _ _ => rfl)) (pe_ix ix_tup (pv 1) pe_int (fun _ _ => rfl)) ⟨rfl, rfl, rfl, rfl⟩))) (pss_nil))
            (pss_cons (ps_if (pt_cmpR op_eq (pe_ix ix_tup (pv 1) pe_int (fun _ _ => rfl)) pe_str (nomark _)) (pss_one (ps_ret (pe_call GNin (hr.mono (by decide)) rfl aNin.m aNin.k aNin.b .nil pass0 (pa_cons (pe_dget hu1 (pv 0) pe_str (fun _ _ => rfl)) (pa_cons (pe_ix ix_tup (pv 1) pe_int (fun _ _ => rfl)) pa_nil))))) (pss_nil))
            (pss_one (ps_ret (pe_ifExp (pt_cmpR op_eq (pe_ix ix_tup (pv 1) pe_int (fun _ _ => rfl)) pe_str (nomark _)) (pe_dget1 hu1 (pe_dget hu1 (pv 0) pe_str (fun _ _ => rfl)) (pe_ix ix_tup (pv 1) pe_int (fun _ _ => rfl)) ⟨rfl, rfl, rfl, rfl⟩) (pe_dget hu1 (pv 0) pe_str (fun _ _ => rfl)))))), ?_⟩
    have e1 : ∀ a b : Str, decide (V.str a = V.str b) = decide (a = b) := fun a b => decide_eq_decide.mpr ⟨V.str.inj, fun q => by rw [q]⟩
    have nf : ∀ y ∈ fs, Nms y.1 := fun y hy w hw => nm w ((g.path y hy).2.2 w hw)
    cases k with
    | rd p =>
      refine ⟨_, rfl, t, _, ((0 : Nat) : Int), _, rfl, rfl, SqT.of ht, atI_nat rfl, rfl, _, rfl, ?_⟩
      rw [e1]
      refine iteT ⟨_, rfl, x, _, rfl, wd_f hx, d, rfl, .inl ⟨_, .inl hd⟩, _, rfl, t, _, ((1 : Nat) : Int), _, rfl, rfl, SqT.of ht, atI_nat rfl, ?_⟩
      have dg := DGet.k (k := .inr (js p)) hd
      rw [fs_val nf kp.1] at dg
      refine ⟨_, dg, ?_⟩
      have q := kk (oV (fOf fs p)) H (Same.refl H) rfl
      cases ho : fOf fs p with
      | none => rw [ho] at q; exact q
      | some y => rw [ho] at q; exact q
    | ls p =>
      refine ⟨_, rfl, t, _, ((0 : Nat) : Int), _, rfl, rfl, SqT.of ht, atI_nat rfl, rfl, _, rfl, ?_⟩
      rw [e1]
      refine iteF ⟨_, rfl, t, _, ((0 : Nat) : Int), _, rfl, rfl, SqT.of ht, atI_nat rfl, rfl, _, rfl, ?_⟩
      rw [e1]
      refine iteT ⟨_, rfl, x, _, rfl, wd_f hx, _, rfl, t, _, ((1 : Nat) : Int), _, rfl, rfl, SqT.of ht, atI_nat rfl, ?_⟩
      exact ⟨d, fs, zs, p, rfl, hd, g, nm, fl, kp.1, kp.2, fun fm hfm => ⟨fun e0 nq H' s' => kk .non H' s' ⟨fm, hfm, .inl ⟨e0, nq, rfl⟩⟩, fun why u ys H' s' pm srt hu => kk (.ref u) H' s' ⟨fm, hfm, .inr ⟨why, u, ys, rfl, pm, srt, hu⟩⟩⟩⟩
    | se n =>
      refine ⟨_, rfl, t, _, ((0 : Nat) : Int), _, rfl, rfl, SqT.of ht, atI_nat rfl, rfl, _, rfl, ?_⟩
      rw [e1]
      refine iteF ⟨_, rfl, t, _, ((0 : Nat) : Int), _, rfl, rfl, SqT.of ht, atI_nat rfl, rfl, _, rfl, ?_⟩
      rw [e1]
      refine iteF ⟨_, rfl, t, _, ((0 : Nat) : Int), _, rfl, rfl, SqT.of ht, atI_nat rfl, rfl, _, rfl, ?_⟩
      rw [e1]
      refine iteT ⟨_, rfl, x, _, rfl, wd_s hx, e, rfl, .inl ⟨_, .inl he⟩, _, rfl, t, _, ((1 : Nat) : Int), _, rfl, rfl, SqT.of ht, atI_nat rfl, ?_⟩
      have dg := DGet.k (k := .inr n) he
      rw [ss_val] at dg
      refine ⟨_, dg, ?_⟩
      have q := kk (oV (sOf ss n)) H (Same.refl H) rfl
      cases ho : sOf ss n with
      | none => rw [ho] at q; exact q
      | some y => rw [ho] at q; exact q
    | tl =>
      refine ⟨_, rfl, t, _, ((0 : Nat) : Int), _, rfl, rfl, SqT.of ht, atI_nat rfl, rfl, _, rfl, ?_⟩
      rw [e1]
      refine iteF ⟨_, rfl, t, _, ((0 : Nat) : Int), _, rfl, rfl, SqT.of ht, atI_nat rfl, rfl, _, rfl, ?_⟩
      rw [e1]
      refine iteF ⟨_, rfl, t, _, ((0 : Nat) : Int), _, rfl, rfl, SqT.of ht, atI_nat rfl, rfl, _, rfl, ?_⟩
      rw [e1]
      refine iteF ⟨_, rfl, x, _, rfl, wd_t hx, ?_⟩
      exact kk (.str z) H (Same.refl H) rfl
end
end R3

set_option maxHeartbeats 3900000
namespace R3
open PySem PySem.Spec PyProof.Rows L2 TL RP
open C8 (pss_cut tCut pe_gc)
open CB
theorem nd_len {α : Type} [DecidableEq α] : ∀ (l m : List α), l.Nodup → (∀ x ∈ l, x ∈ m) → l.length ≤ m.length
  | [], m, _, _ => Nat.zero_le _
  | a :: r, m, nd, h => by
    have ha := h a List.mem_cons_self
    have n1 := List.nodup_cons.mp nd
    have ih := nd_len r (m.erase a) n1.2 fun x hx => (List.mem_erase_of_ne fun (e : x = a) => n1.1 (by rw [← e]; exact hx)).mpr (h x (List.mem_cons_of_mem _ hx))
    rw [List.length_erase_of_mem ha] at ih
    have pos := List.length_pos_of_mem ha
    rw [List.length_cons]
    omega
/-! what a look shows of two worlds that hold the same is shown alike -/
theorem fOf_some {fs : Fs} {p : List Str} {t : Str} (h : fOf fs p = some t) : ∃ e ∈ fs, e.1 = p ∧ e.2 = t := by
  unfold fOf at h
  obtain ⟨e, he, rfl⟩ := Option.map_eq_some_iff.mp h
  exact ⟨e, List.mem_of_find?_eq_some he, of_decide_eq_true (List.find?_some (p := fun e : List Str × Str => decide (e.1 = p)) he), rfl⟩
theorem sOf_some {ss : Ss} {p : Str} {t : Str} (h : sOf ss p = some t) : ∃ e ∈ ss, e.1 = p ∧ e.2 = t := by
  unfold sOf at h
  obtain ⟨e, he, rfl⟩ := Option.map_eq_some_iff.mp h
  exact ⟨e, List.mem_of_find?_eq_some he, of_decide_eq_true (List.find?_some (p := fun e : Str × Str => decide (e.1 = p)) he), rfl⟩
theorem fm_len {fs : Fs} {q : List Str} {fm : Nm} (h : Fm fs q fm) : fm.length ≤ fs.length := by
  have l := nd_len (fm.map (·.1)) (fs.map fun e => e.1.getD q.length "") h.nd fun x hx => by
    obtain ⟨⟨n, b⟩, hn, rfl⟩ := List.mem_map.mp hx
    obtain ⟨e, he, r, h1, h2⟩ := (h.has n b).mp hn
    refine List.mem_map.mpr ⟨e, he, ?_⟩
    rw [h1]
    simp
  rw [List.length_map, List.length_map] at l
  exact l
theorem fm_nm {zs : List Str} {fs : Fs} {q : List Str} {fm : Nm} (h : Fm fs q fm) (g : GoodF zs fs) (nm : ∀ z ∈ zs, IsNm z) : ∀ e ∈ fm, IsNm e.1 := fun e he => by
  obtain ⟨x, hx, r, h1, h2⟩ := (h.has e.1 e.2).mp he
  exact nm _ ((g.path x hx).2.2 _ (by rw [h1]; simp))
theorem nd_of_map {ys : Nm} (h : (ys.map (·.1)).Nodup) (s : sortedS (ys.map (·.1)) = true) : ys.Pairwise (fun a b : Str × Bool => a.1.cps.toList < b.1.cps.toList) := by
  have p := sorted_pw s h
  rw [List.pairwise_map] at p
  exact p
end R3

set_option maxHeartbeats 3900000
namespace R3
open PySem PySem.Spec PyProof.Rows L2 TL RP
open C8 (pss_cut tCut pe_gc)
open CB XW MS DV FD FI
def spLFirst : Sp := fun vs H Q _ => ∃ D ss, vs = [.ref D] ∧ SisL H D ss ∧ ss.length ≤ 1000 ∧ (∀ s ∈ ss, SiOk' s ∧ Sz s) ∧ ∀ v o H', Same H H' → FstAp ss o → pairV H' v o → Q v H'
/-- short texts in an answer -/
def AnS : An → Prop
  | .tx z => z.length ≤ 20
  | _ => True
def spDrawn : Sp := fun vs H Q _ => ∃ (st l p : Addr) (c : Nat) (zs : List Str) (many : Int), vs = [.ref st, .ref p, .int many] ∧ Strm H st l c ∧ c ≤ 600000 ∧ Pool H st l p zs ∧ zs.Nodup ∧ 0 < zs.length ∧ zs.length < 20 ∧ (∀ z ∈ zs, IsNm z) ∧ 0 ≤ many ∧ many ≤ 20 ∧
  ∀ D ss H' c', (ss.length : Int) ≤ many → (ss.map (·.1)).Nodup → (∀ s ∈ ss, SiOk' s ∧ Sz s ∧ AnS s.2) → (∀ s ∈ ss, LkOn zs 3 s.1) → H D = none → SisL H' D ss → But st l H H' → Strm H' st l c' → c' ≤ c + 36 + 67 * many.toNat → Q (.ref D) H'
section
variable {P : Program} {w : World} {K : PySem.W.Frag} {mg : Str → Option Value} {base : Heap}
end
end R3

set_option maxHeartbeats 3900000
namespace R3
open PySem PySem.Spec PyProof.Rows L2 TL RP
open C8 (pss_cut tCut pe_gc)
open CB XW MS DV FD FI
theorem texts_oka : ∀ t ∈ texts, Oka t := by decide +kernel
theorem tools_oka : ∀ t ∈ tools, Oka t := by decide +kernel
/-- what a world answers is an answer that the look can have -/
theorem ans_an {H : Hp} {zs : List Str} {fs : Fs} {ss : Ss} {z : Str} {v : V} {k : Lk} (a : Ans H fs ss z v k) (ok : LkOn zs 3 k) (g : GoodF zs fs) (gs : GoodS zs ss) (nm : ∀ y ∈ zs, IsNm y) (fl : fs.length ≤ 6) (tz : z ∈ tools) :
    ∃ an, AnAt H v an ∧ AnOk k an ∧ AnW an ∧ AnS an ∧ Sz (k, an) := by
  have len : (match k with | .rd p => p.length ≤ 20 | .ls p => p.length ≤ 20 | _ => True) := by
    cases k with
    | rd p => exact Nat.le_trans ok.2.1 (by decide)
    | ls p => exact Nat.le_trans ok.1 (by decide)
    | se n => trivial
    | tl => trivial
  cases k with
  | rd p =>
    have a : v = oV (fOf fs p) := a
    cases e : fOf fs p with
    | none =>
      rw [e] at a
      exact ⟨.no, a, trivial, trivial, trivial, len, trivial⟩
    | some t =>
      rw [e] at a
      obtain ⟨x, hx, _, e2⟩ := fOf_some e
      have := texts_oka t (by rw [← e2]; exact g.text x hx)
      exact ⟨.tx t, a, trivial, this.1, this.2, len, trivial⟩
  | ls q =>
    obtain ⟨fm, hf, ⟨_, nq, rfl⟩ | ⟨ne, t, ys, rfl, pm, srt, ht⟩⟩ := a
    · exact ⟨.no, rfl, nq, trivial, trivial, len, trivial⟩
    · have l1 := fm_len hf
      have l2 := pm.length_eq
      have nms : ∀ e ∈ ys, IsNm e.1 := fun e he => fm_nm hf g nm e (pm.mem_iff.mp he)
      have nd : (ys.map (·.1)).Nodup := (pm.map (·.1)).nodup_iff.mpr hf.nd
      refine ⟨.es ys, ⟨t, rfl, ht⟩, ⟨⟨nms, ?_, by omega⟩, ?_⟩, ⟨nms, by omega⟩, trivial, len, by show ys.length ≤ 20; omega⟩
      · rw [List.pairwise_map]
        exact nd_of_map nd srt
      · rcases ne with ne | ne
        · refine .inl fun e => ne ?_
          rw [e] at l2
          exact List.length_eq_zero_iff.mp l2.symm
        · exact .inr ne
  | se n =>
    have a : v = oV (sOf ss n) := a
    cases e : sOf ss n with
    | none =>
      rw [e] at a
      exact ⟨.no, a, trivial, trivial, trivial, trivial, trivial⟩
    | some t =>
      rw [e] at a
      obtain ⟨x, hx, _, e2⟩ := sOf_some e
      have := texts_oka t (by rw [← e2]; exact gs.text x hx)
      exact ⟨.tx t, a, trivial, this.1, this.2, trivial, trivial⟩
  | tl =>
    have a : v = .str z := a
    have := tools_oka z tz
    exact ⟨.tx z, a, trivial, this.1, this.2, trivial, trivial⟩
theorem sz_of {zs : List Str} {k : Lk} {a : An} (ok : LkOn zs 3 k) (h : match a with | .es l => l.length ≤ 20 | _ => True) : Sz (k, a) := by
  cases k with
  | rd p => exact ⟨Nat.le_trans ok.2.1 (by decide), h⟩
  | ls p => exact ⟨Nat.le_trans ok.1 (by decide), h⟩
  | se n => exact ⟨trivial, h⟩
  | tl => exact ⟨trivial, h⟩
theorem on_an {zs : List Str} {a : An} {k : Lk} (h : AnOn zs a) (ok : LkOn zs 3 k) (nm : ∀ y ∈ zs, IsNm y) : AnW a ∧ AnS a ∧ Sz (k, a) := by
  cases a with
  | no => exact ⟨trivial, trivial, sz_of ok trivial⟩
  | tx z => exact ⟨h.1, h.2, sz_of ok trivial⟩
  | es l => exact ⟨⟨fun e he => nm _ (h.1 e he), Nat.le_trans h.2 (by decide)⟩, trivial, sz_of ok h.2⟩
theorem on_ok {zs : List Str} {k : Lk} (ok : LkOn zs 3 k) (nm : ∀ y ∈ zs, IsNm y) : LkOk k := by
  cases k with
  | rd p => exact ⟨ok.1, fun y hy => nm y (ok.2.2 y hy), Nat.le_trans ok.2.1 (by decide)⟩
  | ls p => exact ⟨fun y hy => nm y (ok.2 y hy), Nat.le_trans ok.1 (by decide)⟩
  | se n => exact nm n ok
  | tl => trivial
theorem on_p {zs : List Str} {k : Lk} (ok : LkOn zs 3 k) (nm : ∀ y ∈ zs, IsNm y) : LkP k := by
  cases k with
  | rd p => exact ⟨fun y hy => nm y (ok.2.2 y hy), Nat.le_trans ok.2.1 (by decide)⟩
  | ls p => exact ⟨fun y hy => nm y (ok.2 y hy), Nat.le_trans ok.1 (by decide)⟩
  | se n => exact nm n ok
  | tl => trivial
theorem tup_but {H H' : Hp} {st l : Addr} {c : Nat} (S : Strm H st l c) (B : But st l H H') : TupS H H' := fun b xs h => B b _ h (S.tup_ne h).1 (S.tup_ne h).2
theorem wa_but {H H' : Hp} {st l x : Addr} {c : Nat} {fs : Fs} {ss : Ss} {z : Str} (h : WAt H x fs ss z) (S : Strm H st l c) (B : But st l H H') : WAt H' x fs ss z := by
  obtain ⟨ns, a, m, ⟨h1, h2⟩, _⟩ := S.ex
  have k : ∀ {b : Addr} {kv : List (L2.Key × V)}, H b = some (.dK kv) → H' b = some (.dK kv) := fun {b kv} hb => B _ _ hb (ne_of hb h1 (by intro z; cases z)) (ne_of hb h2 (by intro z; cases z))
  obtain ⟨d, e, q1, q2, q3⟩ := h
  exact ⟨d, e, k q1, k q2, k q3⟩
theorem wa_put {H : Hp} {F x : Addr} {fs : Fs} {ss : Ss} {z : Str} {xs ys : List V} (h : WAt H x fs ss z) (hF : H F = some (.lst xs)) : WAt (upd H F (.lst ys)) x fs ss z := by
  have k : ∀ {b : Addr} {kv : List (L2.Key × V)}, H b = some (.dK kv) → upd H F (.lst ys) b = some (.dK kv) := fun {b kv} hb => by
    rw [upd_ne fun e => by rw [e, hF] at hb; cases hb]
    exact hb
  obtain ⟨d, e, q1, q2, q3⟩ := h
  exact ⟨d, e, k q1, k q2, k q3⟩
section
variable {P : Program} {w : World} {K : PySem.W.Frag} {mg : Str → Option Value} {base : Heap} {fD fdW : Addr} {fdD : FuncData}
end
end R3

set_option maxHeartbeats 3900000
namespace R3
open PySem PySem.Spec PyProof.Rows L2 TL
open CB
/-! needs and what rules them out, for any needs that are closed upwards -/
structure Sys (T D : List Str → Prop) : Prop where
  up : ∀ {p q : List Str}, D p ∨ T p → ben p q = true → q ≠ [] → D q
  root : D []
  tn : ∀ {p}, T p → Nms p ∧ p ≠ []
  dn : ∀ {p}, D p → Nms p
  dis : ∀ {p}, T p → ¬ D p
def Own (s : Lk × An) (T D : List Str → Prop) : Prop := (∀ p, TxtOf s p → T p) ∧ ∀ p, DirOf s p → D p
def Fre (s : Lk × An) (T D : List Str → Prop) : Prop := (∀ p, T p → ff s p = false) ∧ ∀ p, D p → fd s p = false
theorem Own.ds {s : Lk × An} {T D : List Str → Prop} (o : Own s T D) (S : Sys T D) {p : List Str} (h : Ds s p) : D p := by
  rcases h with (rfl | d) | ⟨hp, r, d | rfl | d, b⟩
  · exact S.root
  · exact o.2 p d
  · exact S.up (.inr (o.1 r d)) b hp
  · rw [ben_nil] at b
    cases b
  · exact S.up (.inl (o.2 r d)) b hp
theorem fre_of {s : Lk × An} {T D : List Str → Prop} (hs : Shape s) (S : Sys T D) (o : Own s T D) (fit : FitS T D s) : Fre s T D := by
  constructor
  · intro p tp
    obtain ⟨np, pe⟩ := S.tn tp
    cases e : ff s p with
    | false => rfl
    | true =>
      exfalso
      cases hs with
      | A q g n =>
        rw [ff_A] at e
        exact fit (of_decide_eq_true e ▸ tp)
      | B q z g n =>
        have tq : T q := o.1 q rfl
        rw [ff_B, Bool.or_eq_true] at e
        rcases e with e | e
        · exact S.dis tq (S.up (.inr tp) e g)
        · exact S.dis tp (S.up (.inr tq) e pe)
      | C q g n =>
        rw [ff_C] at e
        exact fit (S.up (.inr tp) e g)
      | D q l g g2 n =>
        rw [ff_D] at e
        cases b : ben p q with
        | true =>
          obtain ⟨m, r, rfl⟩ := ben_dest b
          rw [lostP_in] at e
          obtain ⟨f1, f2⟩ := fit _ np (.inl tp) m r rfl
          have nd := S.dis tp
          by_cases h1 : (m, true) ∈ l
          · rw [if_pos h1, Bool.true_and, decide_eq_true_iff] at e
            subst e
            exact nd (o.2 _ (.inr ⟨m, h1, rfl⟩))
          · by_cases hr : r = []
            · subst hr
              rw [if_neg h1, if_pos (f2 (by simp [nd]))] at e
              simp at e
            · exact h1 (f1 (.inl hr))
        | false =>
          rw [lostP_out b, Bool.true_and, Bool.or_eq_true, decide_eq_true_iff] at e
          have dq : D q := o.2 q (.inl rfl)
          rcases e with rfl | e
          · exact S.dis tp dq
          · exact S.dis tp (S.up (.inl dq) e pe)
      | N k a g =>
        rw [(ff_N g p).1] at e
        cases e
  · intro p dp
    have np := S.dn dp
    cases e : fd s p with
    | false => rfl
    | true =>
      exfalso
      cases hs with
      | A q g n =>
        rw [fd_A] at e
        cases e
      | B q z g n =>
        have tq : T q := o.1 q rfl
        rw [fd_B, Bool.or_eq_true, decide_eq_true_iff] at e
        rcases e with rfl | e
        · exact S.dis tq dp
        · exact S.dis tq (S.up (.inl dp) e g)
      | C q g n =>
        rw [fd_C, Bool.or_eq_true, decide_eq_true_iff] at e
        rcases e with rfl | e
        · exact fit dp
        · exact fit (S.up (.inl dp) e g)
      | D q l g g2 n =>
        rw [fd_D] at e
        cases b : ben p q with
        | true =>
          obtain ⟨m, r, rfl⟩ := ben_dest b
          rw [lostP_in] at e
          obtain ⟨f1, f2⟩ := fit _ np (.inr dp) m r rfl
          rw [if_pos (f1 (.inr dp))] at e
          cases e
        | false =>
          rw [lostP_out b] at e
          cases e
      | N k a g =>
        rw [(ff_N g p).2] at e
        cases e
theorem fit_fre {s : Lk × An} {T D : List Str → Prop} (hs : Shape s) (c : Fre s T D) (dis : ∀ p, T p → ¬ D p) : FitS T D s := by
  obtain ⟨c1, c2⟩ := c
  cases hs with
  | A q g n =>
    intro t
    have := c1 q t
    rw [ff_A] at this
    simp at this
  | B q z g n => trivial
  | C q g n =>
    intro d
    have := c2 q d
    rw [fd_C] at this
    simp at this
  | D q l g g2 n =>
    rintro p np h m r rfl
    have foll : ∀ (w : Bool), lostP q l w (q ++ m :: r) = false → ((m, true) ∈ l ∧ (w = true → r ≠ [])) ∨ ((m, true) ∉ l ∧ (m, false) ∈ l ∧ w = true ∧ r = []) := by
      intro w e
      rw [lostP_in] at e
      by_cases h1 : (m, true) ∈ l
      · rw [if_pos h1] at e
        refine .inl ⟨h1, fun hw hr => ?_⟩
        rw [hw, hr] at e
        cases e
      · rw [if_neg h1] at e
        by_cases h2 : (m, false) ∈ l
        · rw [if_pos h2, Bool.or_eq_false_iff] at e
          exact .inr ⟨h1, h2, by simpa using e.1, by simpa using e.2⟩
        · rw [if_neg h2] at e
          cases e
    have key : D (q ++ m :: r) → (m, true) ∈ l := by
      intro d
      have := c2 _ d
      rw [fd_D] at this
      rcases foll false this with h | h
      · exact h.1
      · cases h.2.2.1
    have key2 : T (q ++ m :: r) → (r = [] ∧ (m, false) ∈ l) ∨ (r ≠ [] ∧ (m, true) ∈ l) := by
      intro t
      have := c1 _ t
      rw [ff_D] at this
      rcases foll true this with h | h
      · exact .inr ⟨h.2 rfl, h.1⟩
      · exact .inl ⟨h.2.2.2, h.2.1⟩
    constructor
    · rintro (hr | d)
      · rcases h with t | d
        · rcases key2 t with k | k
          · exact absurd k.1 hr
          · exact k.2
        · exact key d
      · exact key d
    · intro hn
      rcases h with t | d
      · rcases key2 t with k | k
        · exact k.2
        · exact absurd (.inl k.1) hn
      · exact absurd (.inr d) hn
  | N k a g =>
    rcases g with ⟨n, rfl⟩ | rfl <;> trivial
/-- a folder that is needed is lost as a file -/
theorem ds_ff {s : Lk × An} (hs : Shape s) {p : List Str} (h : Ds s p) (hp : p ≠ []) : ff s p = true := by
  cases hs with
  | A q g n =>
    rcases h with (h | d) | ⟨_, r, d | rfl | d, b⟩
    · exact absurd h hp
    · exact d.elim
    · exact d.elim
    · rw [ben_nil] at b
      cases b
    · exact d.elim
  | B q z g n =>
    rcases h with (h | d) | ⟨_, r, d | rfl | d, b⟩
    · exact absurd h hp
    · exact d.elim
    · have e : r = q := d
      rw [e] at b
      rw [ff_B, b, Bool.or_true]
    · rw [ben_nil] at b
      cases b
    · exact d.elim
  | C q g n =>
    rcases h with (h | d) | ⟨_, r, d | rfl | d, b⟩
    · exact absurd h hp
    · exact d.elim
    · exact d.elim
    · rw [ben_nil] at b
      cases b
    · exact d.elim
  | D q l g g2 n =>
    rw [ff_D]
    have top : ∀ {m : Str}, ben (q ++ [m]) p = true → lostP q l true p = true := by
      intro m b
      obtain ⟨r, hr, e⟩ := ben_iff.mp b
      have nb : ben p q = false := by
        cases x : ben p q with
        | false => rfl
        | true =>
          have l1 := ben_len b
          have l2 := ben_len x
          simp at l1
          omega
      rw [lostP_out nb, Bool.true_and, Bool.or_eq_true, decide_eq_true_iff]
      have lr := List.length_pos_iff.mpr hr
      have le : p.length ≤ q.length := by
        have := congrArg List.length e
        simp at this
        omega
      have pre : p <+: q := by
        have h1 : p <+: q ++ [m] := ⟨r, e.symm⟩
        exact List.prefix_of_prefix_length_le h1 (List.prefix_append q [m]) le
      obtain ⟨t, et⟩ := pre
      cases t with
      | nil => exact .inl (by rw [← et]; simp)
      | cons x y => exact .inr (ben_iff.mpr ⟨x :: y, by simp, et.symm⟩)
    rcases h with (h | d) | ⟨_, r, d | rfl | d, b⟩
    · exact absurd h hp
    · rcases d with rfl | ⟨m, hm, rfl⟩
      · rw [lostP_out (ben_irr p)]
        simp
      · rw [lostP_in, if_pos hm]
        rfl
    · obtain ⟨m, hm, rfl⟩ := d
      exact top b
    · rw [ben_nil] at b
      cases b
    · rcases d with rfl | ⟨m, hm, rfl⟩
      · have nb : ben p r = false := by
          cases x : ben p r with
          | false => rfl
          | true =>
            have l1 := ben_len b
            have l2 := ben_len x
            omega
        rw [lostP_out nb, b]
        simp
      · exact top b
  | N k a g =>
    rcases h with (h | d) | ⟨_, r, d | rfl | d, b⟩
    · exact absurd h hp
    · exact ((need_N g p).2 d).elim
    · exact ((need_N g r).1 d).elim
    · rw [ben_nil] at b
      cases b
    · exact ((need_N g r).2 d).elim
/-- sights none of which bars another -/
def Tog (ss : List (Lk × An)) : Prop := ∀ s ∈ ss, ∀ s' ∈ ss, barsM s s' = false
theorem pair_cross {s s' : Lk × An} (h : SiOk s) (h' : SiOk s') (b : barsM s s' = false) : Cross s s' := by
  have f : FitsP [s, s'] [] [] := Classical.byContradiction fun n => by
    rw [(bars_fits h h').mpr n] at b
    cases b
  exact fits_cross (shape_of h) (shape_of h') (tm_two s s') (dm_two s s') f.2.1 (f.2.2 s (by simp))
theorem tog_agree {ss : List (Lk × An)} (t : Tog ss) : ∀ s ∈ ss, ∀ s' ∈ ss, s.1 = s'.1 → s.2 = s'.2 := fun s hs s' hs' e => by
  have := t s hs s' hs'
  unfold barsM at this
  rw [if_pos e] at this
  simpa using this
section
variable {ss : List (Lk × An)}
theorem ds_dm {fi fo : List (List Str)} {s : Lk × An} (hs : s ∈ ss) {p : List Str} (h : Ds s p) : DM ss fi fo p := by
  rcases h with (h | d) | ⟨hp, r, d | d | d, b⟩
  · exact .inl (.inl h)
  · exact .inl (.inr (.inr ⟨s, hs, d⟩))
  · exact .inr ⟨hp, r, .inl (.inr ⟨s, hs, d⟩), b⟩
  · exact .inr ⟨hp, r, .inr (.inl d), b⟩
  · exact .inr ⟨hp, r, .inr (.inr (.inr ⟨s, hs, d⟩)), b⟩
theorem own_of {fi fo : List (List Str)} {s : Lk × An} (hs : s ∈ ss) : Own s (TM ss fi) (DM ss fi fo) := ⟨fun p t => .inr ⟨s, hs, t⟩, fun p d => .inl (.inr (.inr ⟨s, hs, d⟩))⟩
/-- what needs a folder: the root, a folder or what lies beneath it, a file asked for, a sight -/
theorem dm_cases {fi fo : List (List Str)} {p : List Str} (h : DM ss fi fo p) : p = [] ∨ p ∈ fo ∨ (∃ f ∈ fo, ben f p = true ∧ p ≠ []) ∨ (∃ f ∈ fi, ben f p = true ∧ p ≠ []) ∨ ∃ s ∈ ss, Ds s p := by
  rcases h with (h | h | ⟨s, hs, d⟩) | ⟨hp, r, (h | ⟨s, hs, d⟩) | (rfl | h | ⟨s, hs, d⟩), b⟩
  · exact .inl h
  · exact .inr (.inl h)
  · exact .inr (.inr (.inr (.inr ⟨s, hs, .inl (.inr d)⟩)))
  · exact .inr (.inr (.inr (.inl ⟨r, h, b, hp⟩)))
  · exact .inr (.inr (.inr (.inr ⟨s, hs, .inr ⟨hp, r, .inl d, b⟩⟩)))
  · rw [ben_nil] at b
    cases b
  · exact .inr (.inr (.inl ⟨r, h, b, hp⟩))
  · exact .inr (.inr (.inr (.inr ⟨s, hs, .inr ⟨hp, r, .inr (.inr d), b⟩⟩)))
theorem sys_of {fi fo : List (List Str)} (hs : ∀ s ∈ ss, Shape s) (h1 : ∀ p ∈ fi, Nms p ∧ p ≠ []) (h2 : ∀ p ∈ fo, Nms p) (dis : ∀ p, Nms p → TM ss fi p → ¬ DM ss fi fo p) : Sys (TM ss fi) (DM ss fi fo) := by
  have tn : ∀ {p}, TM ss fi p → Nms p ∧ p ≠ [] := fun {p} t => by
    rcases t with t | ⟨s, h, t⟩
    · exact h1 p t
    · exact txt_nm (hs s h) t
  refine ⟨fun {p q} h b hq => ?_, .inl (.inl rfl), tn, fun {p} h => ?_, fun {p} t => dis p (tn t).1 t⟩
  · rcases h with (h | ⟨_, r, h, b2⟩) | h
    · exact .inr ⟨hq, p, .inr h, b⟩
    · exact .inr ⟨hq, r, h, ben_tr b2 b⟩
    · exact .inr ⟨hq, p, .inl h, b⟩
  · rcases dm_cases h with rfl | h | ⟨f, h, b, _⟩ | ⟨f, h, b, _⟩ | ⟨s, h, d⟩
    · exact fun y hy => absurd hy (by simp)
    · exact h2 p h
    · exact nms_ben b (h2 f h)
    · exact nms_ben b (h1 f h).1
    · exact ds_nm (hs s h) d
/-- a file more: it fits where nothing loses it -/
theorem fits_file (hs : ∀ s ∈ ss, SiOk s) (t : Tog ss) {p : List Str} (np : Nms p) (pe : p ≠ []) : FitsP ss [p] [] ↔ ∀ s ∈ ss, follM s (.rd p, .no) = false := by
  have sh : ∀ s ∈ ss, Shape s := fun s h => shape_of (hs s h)
  constructor
  · rintro ⟨_, f2, f3⟩ s h
    rw [foll_rd]
    have S := sys_of (fi := [p]) (fo := []) sh (fun q hq => by rw [List.mem_singleton.mp hq]; exact ⟨np, pe⟩) (by simp) f2
    exact (fre_of (sh s h) S (own_of h) (f3 s h)).1 p (.inl (List.mem_singleton.mpr rfl))
  · intro h
    have cr : ∀ s ∈ ss, ∀ s' ∈ ss, Cross s s' := fun s a s' b => pair_cross (hs s a) (hs s' b) (t s a s' b)
    have fre : ∀ s ∈ ss, Fre s (TM ss [p]) (DM ss [p] []) := fun s a => by
      have hp : ff s p = false := h s a
      refine ⟨fun x tx => ?_, fun x dx => ?_⟩
      · rcases tx with tx | ⟨s', b, tx⟩
        · rw [List.mem_singleton.mp tx]
          exact hp
        · exact (cr s a s' b).1 x tx
      · rcases dm_cases dx with rfl | dx | ⟨f, dx, _⟩ | ⟨f, dx, b, _⟩ | ⟨s', b, d⟩
        · exact fd_root (sh s a)
        · exact absurd dx (by simp)
        · exact absurd dx (by simp)
        · rw [List.mem_singleton.mp dx] at b
          cases e : fd s x with
          | false => rfl
          | true => rw [(fd_down e b (sh s a)).1] at hp; cases hp
        · exact (cr s a s' b).2 x d
    have dis : ∀ x, TM ss [p] x → ¬ DM ss [p] [] x := fun x tx dx => by
      rcases tx with tx | ⟨s', b, tx⟩
      · rw [List.mem_singleton.mp tx] at dx
        rcases dm_cases dx with e | dx | ⟨f, dx, _⟩ | ⟨f, dx, b, _⟩ | ⟨s', b, d⟩
        · exact pe e
        · exact absurd dx (by simp)
        · exact absurd dx (by simp)
        · rw [List.mem_singleton.mp dx, ben_irr] at b
          cases b
        · have := ds_ff (sh s' b) d pe
          have h2 : ff s' p = false := h s' b
          rw [h2] at this
          cases this
      · have := (fre s' b).2 x dx
        rw [txt_fd (sh s' b) tx] at this
        cases this
    exact ⟨tog_agree t, fun x _ => dis x, fun s a => fit_fre (sh s a) (fre s a) dis⟩
theorem fits_folder (hs : ∀ s ∈ ss, SiOk s) (t : Tog ss) {p : List Str} (np : Nms p) : FitsP ss [] [p] ↔ ∀ s ∈ ss, follM s (.ls p, .no) = false := by
  have sh : ∀ s ∈ ss, Shape s := fun s h => shape_of (hs s h)
  constructor
  · rintro ⟨_, f2, f3⟩ s h
    rw [foll_ls]
    have S := sys_of (fi := []) (fo := [p]) sh (by simp) (fun q hq => by rw [List.mem_singleton.mp hq]; exact np) f2
    exact (fre_of (sh s h) S (own_of h) (f3 s h)).2 p (.inl (.inr (.inl (List.mem_singleton.mpr rfl))))
  · intro h
    have cr : ∀ s ∈ ss, ∀ s' ∈ ss, Cross s s' := fun s a s' b => pair_cross (hs s a) (hs s' b) (t s a s' b)
    have fre : ∀ s ∈ ss, Fre s (TM ss []) (DM ss [] [p]) := fun s a => by
      have hp : fd s p = false := h s a
      refine ⟨fun x tx => ?_, fun x dx => ?_⟩
      · rcases tx with tx | ⟨s', b, tx⟩
        · exact absurd tx (by simp)
        · exact (cr s a s' b).1 x tx
      · rcases dm_cases dx with rfl | dx | ⟨f, dx, b, _⟩ | ⟨f, dx, b, _⟩ | ⟨s', b, d⟩
        · exact fd_root (sh s a)
        · rw [List.mem_singleton.mp dx]
          exact hp
        · rw [List.mem_singleton.mp dx] at b
          cases e : fd s x with
          | false => rfl
          | true => rw [(fd_down e b (sh s a)).2] at hp; cases hp
        · exact absurd dx (by simp)
        · exact (cr s a s' b).2 x d
    have dis : ∀ x, TM ss [] x → ¬ DM ss [] [p] x := fun x tx dx => by
      rcases tx with tx | ⟨s', b, tx⟩
      · exact absurd tx (by simp)
      · have := (fre s' b).2 x dx
        rw [txt_fd (sh s' b) tx] at this
        cases this
    exact ⟨tog_agree t, fun x _ => dis x, fun s a => fit_fre (sh s a) (fre s a) dis⟩
end
theorem bars_self (s : Lk × An) : barsM s s = false := by
  unfold barsM
  simp
theorem bars_comm (s s' : Lk × An) : barsM s s' = barsM s' s := by
  unfold barsM
  by_cases e : s.1 = s'.1
  · rw [if_pos e, if_pos e.symm]
    by_cases e2 : s.2 = s'.2
    · rw [decide_eq_true e2, decide_eq_true e2.symm]
    · rw [decide_eq_false e2, decide_eq_false fun z => e2 z.symm]
  · rw [if_neg e, if_neg fun z => e z.symm, Bool.or_comm]
theorem fst_tog {ss : List (Lk × An)} : FstAp ss none ↔ Tog ss := by
  constructor
  · intro h a ha b hb
    obtain ⟨i, hi, rfl⟩ := List.getElem_of_mem ha
    obtain ⟨j, hj, rfl⟩ := List.getElem_of_mem hb
    cases e : barsM ss[i] ss[j] with
    | false => rfl
    | true =>
      exfalso
      rcases Nat.lt_trichotomy i j with q | q | q
      · exact h i j q ⟨_, _, List.getElem?_eq_getElem hi, List.getElem?_eq_getElem hj, e⟩
      · subst q
        rw [bars_self] at e
        cases e
      · exact h j i q ⟨_, _, List.getElem?_eq_getElem hj, List.getElem?_eq_getElem hi, by rw [bars_comm]; exact e⟩
  · rintro h i j _ ⟨a, b, ha, hb, e⟩
    rw [h a (List.mem_of_getElem? ha) b (List.mem_of_getElem? hb)] at e
    cases e
theorem Tog.sub {ss ts : List (Lk × An)} (t : Tog ss) (h : ∀ s ∈ ts, s ∈ ss) : Tog ts := fun a ha b hb => t a (h a ha) b (h b hb)
/-! what is true in one world -/
def oA : Option Str → An
  | none => .no
  | some t => .tx t
def Tru (fs : Fs) (ss : Ss) (z : Str) : Lk × An → Prop
  | (.rd p, a) => a = oA (fOf fs p)
  | (.ls q, a) => ∃ fm, Fm fs q fm ∧ ((fm = [] ∧ q ≠ [] ∧ a = .no) ∨ ((fm ≠ [] ∨ q = []) ∧ ∃ ys, a = .es ys ∧ List.Perm ys fm ∧ sortedS (ys.map (·.1)) = true))
  | (.se n, a) => a = oA (sOf ss n)
  | (.tl, a) => a = .tx z
theorem strict_ext {α : Type} (R : α → α → Prop) (irr : ∀ a, ¬ R a a) (asym : ∀ a b, R a b → R b a → False) : ∀ l l' : List α, l.Pairwise R → l'.Pairwise R → (∀ x, x ∈ l ↔ x ∈ l') → l = l'
  | [], [], _, _, _ => rfl
  | [], b :: r, _, _, h => absurd ((h b).mpr List.mem_cons_self) (by simp)
  | a :: r, [], _, _, h => absurd ((h a).mp List.mem_cons_self) (by simp)
  | a :: r, b :: t, p, q, h => by
    obtain ⟨pa, pr⟩ := List.pairwise_cons.mp p
    obtain ⟨qb, qt⟩ := List.pairwise_cons.mp q
    have e : a = b := by
      rcases List.mem_cons.mp ((h a).mp List.mem_cons_self) with e | ha
      · exact e
      · rcases List.mem_cons.mp ((h b).mpr List.mem_cons_self) with e | hb
        · exact e.symm
        · exact (asym a b (pa b hb) (qb a ha)).elim
    subst e
    rw [strict_ext R irr asym r t pr qt fun x => ⟨fun hx => ?_, fun hx => ?_⟩]
    · rcases List.mem_cons.mp ((h x).mp (List.mem_cons_of_mem _ hx)) with e | g
      · exact (irr a (e ▸ pa x hx)).elim
      · exact g
    · rcases List.mem_cons.mp ((h x).mpr (List.mem_cons_of_mem _ hx)) with e | g
      · exact (irr a (e ▸ qb x hx)).elim
      · exact g
theorem fm_perm {fs : Fs} {q : List Str} {fm fm' : Nm} (h : Fm fs q fm) (h' : Fm fs q fm') (x : Str × Bool) : x ∈ fm ↔ x ∈ fm' := (h.has x.1 x.2).trans (h'.has x.1 x.2).symm
theorem tru_one {fs : Fs} {ss : Ss} {z : Str} {k : Lk} {a a' : An} (h : Tru fs ss z (k, a)) (h' : Tru fs ss z (k, a')) : a = a' := by
  cases k with
  | rd p => exact (show a = oA (fOf fs p) from h).trans (show a' = oA (fOf fs p) from h').symm
  | se p => exact (show a = oA (sOf ss p) from h).trans (show a' = oA (sOf ss p) from h').symm
  | tl => exact (show a = .tx z from h).trans (show a' = .tx z from h').symm
  | ls q =>
    obtain ⟨fm, hf, h⟩ := h
    obtain ⟨fm', hf', h'⟩ := h'
    have emp : ∀ {f f' : Nm}, (∀ x, x ∈ f ↔ x ∈ f') → f = [] → f' = [] := fun {f f'} h e => List.eq_nil_iff_forall_not_mem.mpr fun x hx => by
        have := (h x).mpr hx
        rw [e] at this
        cases this
    have same : fm = [] ↔ fm' = [] := ⟨emp (fm_perm hf hf'), emp fun x => (fm_perm hf hf' x).symm⟩
    rcases h with ⟨e, n, rfl⟩ | ⟨ne, ys, rfl, pm, st⟩
    · rcases h' with ⟨e', n', rfl⟩ | ⟨ne', ys', rfl, pm', st'⟩
      · rfl
      · exact (ne'.elim (fun z => z (same.mp e)) n).elim
    · rcases h' with ⟨e', n', rfl⟩ | ⟨ne', ys', rfl, pm', st'⟩
      · exact (ne.elim (fun z => z (same.mpr e')) n').elim
      have nd : (ys.map (·.1)).Nodup := (pm.map (·.1)).nodup_iff.mpr hf.nd
      have nd' : (ys'.map (·.1)).Nodup := (pm'.map (·.1)).nodup_iff.mpr hf'.nd
      have := strict_ext (fun x y : Str × Bool => x.1.cps.toList < y.1.cps.toList) (fun a h => List.lt_irrefl _ h) (fun a b h g => List.lt_irrefl _ (lt_tr _ _ _ h g)) ys ys' (nd_of_map nd st) (nd_of_map nd' st') fun x => pm.mem_iff.trans ((fm_perm hf hf' x).trans pm'.mem_iff.symm)
      rw [this]
def WT (fs : Fs) (p : List Str) : Prop := p ∈ fs.map (·.1)
def WD (fs : Fs) (p : List Str) : Prop := p = [] ∨ ∃ q ∈ fs.map (·.1), ben q p = true
section
variable {zs : List Str} {fs : Fs} {ss : Ss} {z : Str}
theorem sys_w (g : GoodF zs fs) (nm : ∀ y ∈ zs, IsNm y) : Sys (WT fs) (WD fs) := by
  have pn : ∀ {p}, WT fs p → Nms p ∧ p ≠ [] := fun {p} h => by
    obtain ⟨e, he, rfl⟩ := List.mem_map.mp h
    exact ⟨fun y hy => nm y ((g.path e he).2.2 y hy), (g.path e he).1⟩
  refine ⟨fun {p q} h b hq => ?_, .inl rfl, pn, fun {p} h => ?_, fun {p} t d => ?_⟩
  · rcases h with (rfl | ⟨r, h, b2⟩) | h
    · rw [ben_nil] at b
      cases b
    · exact .inr ⟨r, h, ben_tr b2 b⟩
    · exact .inr ⟨p, h, b⟩
  · rcases h with rfl | ⟨r, h, b⟩
    · exact fun y hy => absurd hy (by simp)
    · exact nms_ben b (pn h).1
  · rcases d with rfl | ⟨r, h, b⟩
    · exact (pn t).2 rfl
    · have := g.free r h p t
      rw [this] at b
      cases b
theorem fof_mem {p : List Str} : (∃ t, fOf fs p = some t) ↔ WT fs p := by
  constructor
  · rintro ⟨t, h⟩
    obtain ⟨e, he, e1, _⟩ := fOf_some h
    exact List.mem_map.mpr ⟨e, he, e1⟩
  · intro h
    cases e : fOf fs p with
    | some t => exact ⟨t, rfl⟩
    | none =>
      exfalso
      obtain ⟨x, hx, e1⟩ := List.mem_map.mp h
      unfold fOf at e
      rw [Option.map_eq_none_iff, List.find?_eq_none] at e
      exact e x hx (by simpa using e1)
theorem has_file (q : List Str) (n : Str) : Has fs q n false ↔ WT fs (q ++ [n]) := by
  constructor
  · rintro ⟨e, he, r, h1, h2⟩
    have : r = [] := by simpa using h2
    subst this
    exact List.mem_map.mpr ⟨e, he, h1⟩
  · intro h
    obtain ⟨e, he, h1⟩ := List.mem_map.mp h
    exact ⟨e, he, [], h1, by simp⟩
theorem has_fold (q : List Str) (n : Str) : Has fs q n true ↔ WD fs (q ++ [n]) := by
  constructor
  · rintro ⟨e, he, r, h1, h2⟩
    have : r ≠ [] := by simpa using h2
    exact .inr ⟨e.1, List.mem_map_of_mem he, ben_iff.mpr ⟨r, this, by rw [h1]; simp⟩⟩
  · rintro (h | ⟨p, hp, b⟩)
    · simp at h
    · obtain ⟨e, he, rfl⟩ := List.mem_map.mp hp
      obtain ⟨r, hr, h1⟩ := ben_iff.mp b
      exact ⟨e, he, r, by rw [h1]; simp, by simp [hr]⟩
theorem tru_fit (g : GoodF zs fs) (nm : ∀ y ∈ zs, IsNm y) {s : Lk × An} (h : Tru fs ss z s) : Own s (WT fs) (WD fs) ∧ FitS (WT fs) (WD fs) s := by
  have S := sys_w g nm
  obtain ⟨k, a⟩ := s
  cases k with
  | rd p =>
    have h : a = oA (fOf fs p) := h
    cases e : fOf fs p with
    | none =>
      rw [e] at h
      subst h
      refine ⟨⟨fun _ t => t.elim, fun _ t => t.elim⟩, fun t => ?_⟩
      obtain ⟨t, ht⟩ := fof_mem.mpr t
      rw [e] at ht
      cases ht
    | some t =>
      rw [e] at h
      subst h
      refine ⟨⟨fun x t => ?_, fun _ t => t.elim⟩, trivial⟩
      rw [show x = p from t]
      exact fof_mem.mp ⟨_, e⟩
  | se n =>
    have h : a = oA (sOf ss n) := h
    exact ⟨⟨fun _ t => t.elim, fun _ t => t.elim⟩, trivial⟩
  | tl => exact ⟨⟨fun _ t => t.elim, fun _ t => t.elim⟩, trivial⟩
  | ls q =>
    obtain ⟨fm, hf, ⟨e, n, rfl⟩ | ⟨ne, ys, rfl, pm, st⟩⟩ := h
    · refine ⟨⟨fun _ t => t.elim, fun _ t => t.elim⟩, ?_⟩
      rintro (d | ⟨p, hp, b⟩)
      · exact n d
      · obtain ⟨m, r, hr⟩ := ben_dest b
        obtain ⟨x, hx, rfl⟩ := List.mem_map.mp hp
        have := (hf.has m (decide (r ≠ []))).mpr ⟨x, hx, r, hr, rfl⟩
        rw [e] at this
        cases this
    · have mem : ∀ m b, (m, b) ∈ ys ↔ Has fs q m b := fun m b => pm.mem_iff.trans (hf.has m b)
      refine ⟨⟨?_, ?_⟩, ?_⟩
      · rintro x ⟨m, hm, rfl⟩
        exact (has_file q m).mp ((mem m false).mp hm)
      · rintro x (rfl | ⟨m, hm, rfl⟩)
        · rcases ne with ne | ne
          · cases fm with
            | nil => exact absurd rfl ne
            | cons y t =>
              obtain ⟨e, he, r, h1, _⟩ := (hf.has y.1 y.2).mp List.mem_cons_self
              exact .inr ⟨e.1, List.mem_map_of_mem he, by rw [h1]; exact ben_cons _ _ _⟩
          · exact .inl ne
        · exact (has_fold q m).mp ((mem m true).mp hm)
      · rintro p np h m r rfl
        have nd : r ≠ [] → WD fs (q ++ [m]) := fun hr => by
          have b : ben (q ++ m :: r) (q ++ [m]) = true := ben_iff.mpr ⟨r, hr, by simp⟩
          exact S.up h.symm b (by simp)
        constructor
        · rintro hd
          refine (mem m true).mpr ((has_fold q m).mpr ?_)
          by_cases hr : r = []
          · subst hr
            exact hd.elim (fun z => absurd rfl z) id
          · exact nd hr
        · intro hn
          have hr : r = [] := Classical.byContradiction fun z => hn (.inl z)
          subst hr
          refine (mem m false).mpr ((has_file q m).mpr ?_)
          exact h.elim id fun d => absurd (.inr d) hn
theorem tru_apart (g : GoodF zs fs) (nm : ∀ y ∈ zs, IsNm y) {s s' : Lk × An} (o : SiOk s) (o' : SiOk s') (h : Tru fs ss z s) (h' : Tru fs ss z s') : barsM s s' = false := by
  have S := sys_w g nm
  obtain ⟨w1, f1⟩ := tru_fit (ss := ss) (z := z) g nm h
  obtain ⟨w2, f2⟩ := tru_fit (ss := ss) (z := z) g nm h'
  have sh := shape_of o
  have sh' := shape_of o'
  by_cases e : s.1 = s'.1
  · obtain ⟨k, a⟩ := s
    obtain ⟨k', a'⟩ := s'
    have e : k = k' := e
    subst e
    rw [tru_one h h', bars_self]
  · unfold barsM
    rw [if_neg e]
    have c1 := (fre_of sh S w1 f1)
    have c2 := (fre_of sh' S w2 f2)
    rw [(cross_con sh sh').mpr ⟨fun p t => c1.1 p (w2.1 p t), fun p d => c1.2 p (w2.ds S d)⟩, (cross_con sh' sh).mpr ⟨fun p t => c2.1 p (w1.1 p t), fun p d => c2.2 p (w1.ds S d)⟩]
    rfl
end
end R3

set_option maxHeartbeats 3900000
namespace LE
open PySem PySem.Spec PyProof.Rows L2 TL
open C8 (pss_cut tCut pe_gc)
open CB
section
variable {X : Cx} {K0 : PySem.W.Frag}
theorem inDK (hK : X.K = K0) (hu : X.A.units + 65 < cLine) : OpR X (compareOp .In) (rInD K0) := by
  subst hK
  exact op_inD hu
theorem notInDK (hK : X.K = K0) (hu : X.A.units + 65 < cLine) : OpR X (compareOp .NotIn) (rNotInD K0) := by
  subst hK
  exact op_notInD hu
end
section
variable {K : PySem.W.Frag} {a D : Addr} {H1 : Hp} {σ : L2.St} {tt : TT} {te : TE} {Qd : Hp → Prop} {jk jw : Nat}
def pick (xs : List V) (p : Nat → Bool) (n : Nat) : List V := ((List.range n).filter p).map fun i => xs.getD i .non
theorem filt1 (p : Nat → Bool) (n : Nat) : [n].filter p = if p n = true then [n] else [] := by
  cases h : p n <;> simp [List.filter, h]
theorem pick_succ (xs : List V) (p : Nat → Bool) (n : Nat) : pick xs p (n + 1) = pick xs p n ++ (if p n = true then [xs.getD n .non] else []) := by
  unfold pick
  rw [List.range_succ, List.filter_append, List.map_append]
  congr 1
  cases h : p n <;> simp [h]
theorem pick_len (xs : List V) (p : Nat → Bool) (n : Nat) : (pick xs p n).length ≤ n := by
  unfold pick
  rw [List.length_map]
  exact Nat.le_trans (List.length_filter_le _ _) (by rw [List.length_range]; exact Nat.le_refl _)
theorem lcE (xs : List V) (p : Nat → Bool) (hs : xs.length < 1000000) (hD : H1 D = none) (ha : SqL K H1 a xs) (hw : ∀ x y, wipe (((wipe σ [jk, jw]).set jk (some x)).set jw (some y)) [jk, jw] = wipe σ [jk, jw])
    (test : ∀ (i : Nat) (x : V) (H2 : Hp), xs[i]? = some x → Same H1 H2 → ∀ Q1 : Bool → Hp → Prop, (∀ H3, Same H2 H3 → Q1 (p i) H3) → tt (((wipe σ [jk, jw]).set jk (some (.int (i : Nat)))).set jw (some x)) H2 Q1)
    (elt : ∀ (i : Nat) (x : V) (H2 : Hp) (Q1 : VK), xs[i]? = some x → Q1 x H2 → te (((wipe σ [jk, jw]).set jk (some (.int (i : Nat)))).set jw (some x)) H2 Q1)
    (hd : ∀ H', Same H1 H' → H' D = some (.lst (pick xs p xs.length)) → Qd H') :
    ∃ W : Nat → Nat → Hp → Prop, (∃ m, W 0 m (upd H1 D (.lst []))) ∧ ∀ i m H, W i m H →
      ((Ite K a).stop i H ∧ Qd H) ∨ ((Ite K a).go i H ∧ ∃ Nx : Hp → Prop, (∀ H', Nx H' → ∃ m', m' < m ∧ W (i + 1) m' H') ∧ ∀ x H', (Ite K a).yld i H x H' → gTup K 2 (gCons (gName jk) (gCons (gName jw) gNil)) x (wipe σ [jk, jw]) H' fun σ2 H2 => wipe σ2 [jk, jw] = wipe σ [jk, jw] ∧ tt σ2 H2 fun b H3 =>
        if b = true then te σ2 H3 fun y H4 => ∃ acc, H4 D = some (.lst acc) ∧ acc.length < sizeLine ∧ Nx (upd H4 D (.lst (acc ++ [y]))) else Nx H3) := by
  refine lc_it (walk_enum (K := K) (a := a) (xs := xs)) (fun i H' => Same H1 H' ∧ H' D = some (.lst (pick xs p i))) ⟨same_mk hD, upd_same⟩ (fun i H' _ q => q.1.seq ha) ?_ ?_
  · rintro i v H2 H3 hi ⟨s2, hd2⟩ ⟨T, x0, x, rfl, hT, rfl, h0, hx⟩
    cases h0
    have sT := same_mk (o := .tup [.int (i : Nat), x]) hT
    have hx : xs[i]? = some x := hx
    have hgd : xs.getD i .non = x := by
      rw [List.getD_eq_getElem?_getD, hx]
      rfl
    refine ⟨T, _, rfl, SqT.of upd_same, rfl, _, _, rfl, _, _, rfl, rfl, hw _ _, test i x _ hx (s2.trans sT) _ fun H4 s4 => ?_⟩
    have hd4 := s4 _ _ (sT _ _ hd2)
    cases hp : p i with
    | true =>
      refine iteT (elt i x _ _ hx ⟨_, hd4, ?_, same_ch ((s2.trans sT).trans s4) hD, ?_⟩)
      · exact Nat.lt_of_le_of_lt (pick_len xs p i) (Nat.lt_of_lt_of_le (show i < 1000000 by omega) (by decide))
      · rw [upd_same, pick_succ, if_pos hp, hgd]
    | false =>
      refine iteF ⟨(s2.trans sT).trans s4, ?_⟩
      rw [pick_succ, if_neg (by rw [hp]; decide), List.append_nil]
      exact hd4
  · rintro H' ⟨s, h⟩
    exact hd H' s h
end
/-- what is picked by place, of two lists alike -/
def pickA {α : Type} (d : α) (xs : List α) (p : Nat → Bool) (n : Nat) : List α := ((List.range n).filter p).map fun i => xs.getD i d
theorem pickA_succ {α : Type} (d : α) (xs : List α) (p : Nat → Bool) (n : Nat) : pickA d xs p (n + 1) = pickA d xs p n ++ (if p n = true then [xs.getD n d] else []) := by
  unfold pickA
  rw [List.range_succ, List.filter_append, List.map_append]
  congr 1
  cases h : p n <;> simp [h]
theorem pick_at {α : Type} (d : α) (vs : List V) (xs : List α) (p : Nat → Bool) (n : Nat) (l : vs.length = xs.length) (hn : n ≤ vs.length) (R : V → α → Prop) (h : ∀ (i : Nat) (v : V) (x : α), vs[i]? = some v → xs[i]? = some x → R v x) :
    (pick vs p n).length = (pickA d xs p n).length ∧ ∀ (i : Nat) (v : V) (x : α), (pick vs p n)[i]? = some v → (pickA d xs p n)[i]? = some x → R v x := by
  unfold pick pickA
  refine ⟨by rw [List.length_map, List.length_map], fun i v x h1 h2 => ?_⟩
  rw [List.getElem?_map] at h1 h2
  cases e : ((List.range n).filter p)[i]? with
  | none =>
    rw [e] at h1
    cases h1
  | some j =>
    rw [e] at h1 h2
    have hj := List.mem_of_getElem? e
    have hj := List.mem_range.mp (List.mem_filter.mp hj).1
    have j1 : j < vs.length := by omega
    have j2 : j < xs.length := by omega
    cases h1
    cases h2
    have z := h j _ _ (List.getElem?_eq_getElem j1) (List.getElem?_eq_getElem j2)
    show R (vs.getD j .non) (xs.getD j d)
    rw [List.getD_eq_getElem?_getD, List.getD_eq_getElem?_getD, List.getElem?_eq_getElem j1, List.getElem?_eq_getElem j2]
    exact z
end LE

set_option maxHeartbeats 3900000
namespace R3
open PySem PySem.Spec PyProof.Rows L2 TL
open CB LE
/-! the least notes, what is sure -/
abbrev Sg := Lk × An
def dS : Sg := (.tl, .no)
def unlN (ss : List Sg) (n : Nat) : List Sg := pickA dS ss (fun i => decide (ss.getD i dS ∉ ss.take i)) n
def unl (ss : List Sg) : List Sg := unlN ss ss.length
def othF (ss : List Sg) (s : Sg) : Bool := ss.any fun s' => decide (s' ≠ s) && follM s' s
def leastM (ss : List Sg) : List Sg := (unl ss).filter fun s => !othF (unl ss) s
def sureM (ss : List Sg) (k : Lk) : Option An :=
  match ss.find? (fun s => decide (s.1 = k)) with
  | some s => some s.2
  | none => if ss.any (fun s => follM s (k, .no)) = true then some .no else none
def restM (ss : List Sg) (s : Sg) : List Sg := ss.filter fun s' => decide (s' ≠ s)
def llN (ss : List Sg) (n : Nat) : List Sg := (unlN ss n).filter fun s => decide (sureM (restM ss s) s.1 ≠ some s.2)
theorem unlN_succ (ss : List Sg) (n : Nat) : unlN ss (n + 1) = unlN ss n ++ (if decide (ss.getD n dS ∉ ss.take n) = true then [ss.getD n dS] else []) := pickA_succ dS ss _ n
theorem getD_lt {ss : List Sg} {n : Nat} (h : n < ss.length) : ss.getD n dS = ss[n] := by
  rw [List.getD_eq_getElem?_getD, List.getElem?_eq_getElem h]
  rfl
theorem mem_unlN (ss : List Sg) : ∀ n ≤ ss.length, ∀ s, s ∈ unlN ss n ↔ s ∈ ss.take n
  | 0, _, s => by simp [unlN, pickA]
  | n + 1, h, s => by
    have hn : n < ss.length := h
    have ih := mem_unlN ss n (by omega) s
    rw [unlN_succ, List.mem_append, ih, List.take_succ, List.getElem?_eq_getElem hn, List.mem_append, getD_lt hn]
    by_cases e : ss[n] ∈ ss.take n
    · rw [if_neg (by simpa using e)]
      constructor
      · rintro (h | h)
        · exact .inl h
        · cases h
      · rintro (h | h)
        · exact .inl h
        · rw [List.mem_singleton.mp h]
          exact .inl e
    · rw [if_pos (by simpa using e)]
      rfl
theorem mem_unl {ss : List Sg} {s : Sg} : s ∈ unl ss ↔ s ∈ ss := by
  rw [unl, mem_unlN ss _ (Nat.le_refl _), List.take_length]
theorem unlN_len (ss : List Sg) : ∀ n, (unlN ss n).length ≤ n := fun n => by
  unfold unlN pickA
  rw [List.length_map]
  exact Nat.le_trans (List.length_filter_le _ _) (by rw [List.length_range]; exact Nat.le_refl _)
theorem nd_unlN (ss : List Sg) : ∀ n ≤ ss.length, (unlN ss n).Nodup
  | 0, _ => by simp [unlN, pickA]
  | n + 1, h => by
    have hn : n < ss.length := h
    have ih := nd_unlN ss n (by omega)
    rw [unlN_succ, getD_lt hn]
    by_cases e : ss[n] ∈ ss.take n
    · rw [if_neg (by simpa using e), List.append_nil]
      exact ih
    · rw [if_pos (by simpa using e), List.nodup_append]
      refine ⟨ih, by simp, fun a ha b hb => ?_⟩
      rw [List.mem_singleton.mp hb]
      rintro rfl
      exact e ((mem_unlN ss n (by omega) _).mp ha)
theorem othF_mem {ss ts : List Sg} (h : ∀ s, s ∈ ss ↔ s ∈ ts) (s : Sg) : othF ss s = othF ts s := by
  unfold othF
  rw [Bool.eq_iff_iff, List.any_eq_true, List.any_eq_true]
  exact ⟨fun ⟨x, hx, e⟩ => ⟨x, (h x).mp hx, e⟩, fun ⟨x, hx, e⟩ => ⟨x, (h x).mpr hx, e⟩⟩
theorem othF_unl (ss : List Sg) (s : Sg) : othF (unl ss) s = othF ss s := othF_mem (fun _ => mem_unl) s
theorem othF_iff {ss : List Sg} {s : Sg} : othF ss s = true ↔ ∃ s' ∈ ss, s' ≠ s ∧ follM s' s = true := by
  unfold othF
  rw [List.any_eq_true]
  constructor
  · rintro ⟨x, hx, e⟩
    rw [Bool.and_eq_true, decide_eq_true_iff] at e
    exact ⟨x, hx, e.1, e.2⟩
  · rintro ⟨x, hx, e1, e2⟩
    exact ⟨x, hx, by rw [Bool.and_eq_true, decide_eq_true_iff]; exact ⟨e1, e2⟩⟩
theorem mem_least {ss : List Sg} {s : Sg} : s ∈ leastM ss ↔ s ∈ ss ∧ othF ss s = false := by
  unfold leastM
  rw [List.mem_filter, mem_unl, othF_unl, Bool.not_eq_true']
/-- a sight that is told follows from another only where it tells that nothing stands there -/
theorem foll_no {s s' : Sg} (n : s' ≠ s) (h : follM s' s = true) : s = (s.1, .no) := by
  obtain ⟨k, a⟩ := s
  unfold follM at h
  rw [decide_eq_false n, Bool.false_or] at h
  cases a with
  | no => rfl
  | tx z => cases k <;> cases h
  | es l => cases k <;> cases h
theorem rest_sure {ss : List Sg} (ag : ∀ s ∈ ss, ∀ s' ∈ ss, s.1 = s'.1 → s.2 = s'.2) {s : Sg} (hs : s ∈ ss) : decide (sureM (restM ss s) s.1 ≠ some s.2) = !othF ss s := by
  have nof : (restM ss s).find? (fun x => decide (x.1 = s.1)) = none := by
    rw [List.find?_eq_none]
    intro x hx
    obtain ⟨h1, h2⟩ := List.mem_filter.mp hx
    simp only [decide_eq_true_iff] at h2 ⊢
    exact fun e => h2 (Prod.ext e (ag x h1 s hs e))
  unfold sureM
  rw [nof]
  by_cases e : s = (s.1, .no)
  · have en : s.2 = .no := by rw [e]
    have ea : (restM ss s).any (fun x => follM x (s.1, .no)) = othF ss s := by
      unfold restM othF
      rw [List.any_filter, ← e]
    rw [ea, en]
    cases othF ss s <;> simp
  · have en : s.2 ≠ .no := fun z => e (Prod.ext rfl z)
    have eo : othF ss s = false := by
      cases q : othF ss s with
      | false => rfl
      | true =>
        obtain ⟨x, hx, n, f⟩ := othF_iff.mp q
        exact absurd (foll_no n f) e
    rw [eo]
    simp only [Bool.not_false, decide_eq_true_iff]
    split
    · exact fun z => en (Option.some.inj z).symm
    · exact fun z => by cases z
theorem ll_least {ss : List Sg} (ag : ∀ s ∈ ss, ∀ s' ∈ ss, s.1 = s'.1 → s.2 = s'.2) : llN ss ss.length = leastM ss := by
  unfold llN leastM
  refine List.filter_congr fun s hs => ?_
  have hs : s ∈ ss := mem_unl.mp hs
  rw [rest_sure ag hs, othF_unl]
theorem llN_succ {ss : List Sg} {n : Nat} (h : n < ss.length) : llN ss (n + 1) = llN ss n ++ (if decide (ss[n] ∉ llN ss n) = true ∧ decide (sureM (restM ss ss[n]) ss[n].1 ≠ some ss[n].2) = true then [ss[n]] else []) := by
  have mem : ss[n] ∈ llN ss n ↔ ss[n] ∈ ss.take n ∧ decide (sureM (restM ss ss[n]) ss[n].1 ≠ some ss[n].2) = true := by
    unfold llN
    rw [List.mem_filter, mem_unlN ss n (by omega)]
  have cond : (decide (ss[n] ∉ llN ss n) = true ∧ decide (sureM (restM ss ss[n]) ss[n].1 ≠ some ss[n].2) = true) ↔ (ss[n] ∉ ss.take n ∧ decide (sureM (restM ss ss[n]) ss[n].1 ≠ some ss[n].2) = true) := by
    rw [decide_eq_true_iff, mem]
    constructor
    · rintro ⟨h1, h2⟩
      exact ⟨fun z => h1 ⟨z, h2⟩, h2⟩
    · rintro ⟨h1, h2⟩
      exact ⟨fun z => h1 z.1, h2⟩
  unfold llN at cond ⊢
  rw [unlN_succ, List.filter_append, getD_lt h]
  congr 1
  by_cases e : ss[n] ∈ ss.take n
  · rw [if_neg (by simpa using e), if_neg fun z => (cond.mp z).1 e]
    rfl
  · rw [if_pos (by simpa using e)]
    by_cases q : decide (sureM (restM ss ss[n]) ss[n].1 ≠ some ss[n].2) = true
    · rw [if_pos (cond.mpr ⟨e, q⟩), List.filter_cons_of_pos (by exact q), List.filter_nil]
    · rw [if_neg fun z => q z.2, List.filter_cons_of_neg (by exact q), List.filter_nil]
/-- what follows from what follows -/
def plen : Lk → Nat
  | .rd p => p.length
  | .ls p => p.length
  | _ => 0
theorem foll_tr {s s' s'' : Sg} (hs : Shape s'') (n : s' ≠ s) (h1 : follM s'' s' = true) (h2 : follM s' s = true) (ne : s'' ≠ s') : follM s'' s = true ∧ plen s'.1 < plen s.1 := by
  have e1 := foll_no n h2
  have e2 := foll_no ne h1
  obtain ⟨k, a⟩ := s
  obtain ⟨k', a'⟩ := s'
  have ea : a = .no := congrArg Prod.snd e1
  have ea' : a' = .no := congrArg Prod.snd e2
  subst ea
  subst ea'
  cases k' with
  | rd q =>
    exfalso
    unfold follM at h2
    rw [decide_eq_false n, Bool.false_or] at h2
    cases k <;> cases h2
  | se q =>
    exfalso
    unfold follM at h2
    rw [decide_eq_false n, Bool.false_or] at h2
    cases k <;> cases h2
  | tl =>
    exfalso
    unfold follM at h2
    rw [decide_eq_false n, Bool.false_or] at h2
    cases k <;> cases h2
  | ls q =>
    rw [foll_ls] at h1
    cases k with
    | rd p =>
      have b : ben p q = true := by
        unfold follM at h2
        rw [decide_eq_false n, Bool.false_or] at h2
        exact h2
      rw [foll_rd]
      exact ⟨(fd_down h1 b hs).1, ben_len b⟩
    | ls p =>
      have b : ben p q = true := by
        unfold follM at h2
        rw [decide_eq_false n, Bool.false_or] at h2
        exact h2
      rw [foll_ls]
      exact ⟨(fd_down h1 b hs).2, ben_len b⟩
    | se m =>
      unfold follM at h2
      rw [decide_eq_false n, Bool.false_or] at h2
      cases h2
    | tl =>
      unfold follM at h2
      rw [decide_eq_false n, Bool.false_or] at h2
      cases h2
theorem foll_self (s : Sg) : follM s s = true := by
  unfold follM
  simp
/-- each sight follows from one of the least -/
theorem least_all {ss : List Sg} (hs : ∀ s ∈ ss, Shape s) : ∀ (m : Nat) (s x : Sg), plen x.1 ≤ m → s ∈ ss → x ∈ ss → x ≠ s → follM x s = true → ∃ d ∈ leastM ss, follM d s = true
  | m, s, x, hm, hss, hx, n, f => by
    cases q : othF ss x with
    | false => exact ⟨x, mem_least.mpr ⟨hx, q⟩, f⟩
    | true =>
      obtain ⟨y, hy, ny, fy⟩ := othF_iff.mp q
      obtain ⟨f2, _⟩ := foll_tr (hs y hy) n fy f ny
      by_cases ey : y = s
      · subst ey
        have := (foll_tr (hs x hx) ny f fy n).2
        have h2 := (foll_tr (hs y hy) n fy f ny).2
        omega
      · cases qy : othF ss y with
        | false => exact ⟨y, mem_least.mpr ⟨hy, qy⟩, f2⟩
        | true =>
          obtain ⟨z, hz, nz, fz⟩ := othF_iff.mp qy
          have l1 := (foll_tr (hs z hz) ny fz fy nz).2
          match m, hm with
          | 0, hm => omega
          | m + 1, hm => exact least_all hs m s y (by omega) hss hy ey f2
theorem least_foll {ss : List Sg} (hs : ∀ s ∈ ss, Shape s) {s : Sg} (h : s ∈ ss) : (leastM ss).any (fun d => follM d s) = true := by
  rw [List.any_eq_true]
  cases q : othF ss s with
  | false => exact ⟨s, mem_least.mpr ⟨h, q⟩, foll_self s⟩
  | true =>
    obtain ⟨x, hx, n, f⟩ := othF_iff.mp q
    exact least_all hs _ s x (Nat.le_refl _) h hx n f
theorem least_one {ss : List Sg} {s : Sg} (h : s ∈ leastM ss) : ((leastM ss).filter fun s' => decide (s' ≠ s)).any (fun d => follM d s) = false := by
  rw [List.any_eq_false]
  intro d hd f
  obtain ⟨h1, h2⟩ := List.mem_filter.mp hd
  have := (mem_least.mp h).2
  rw [othF_iff.mpr ⟨d, (mem_least.mp h1).1, of_decide_eq_true h2, f⟩] at this
  cases this
theorem least_sub {ss : List Sg} : ∀ s ∈ leastM ss, s ∈ ss := fun s h => (mem_least.mp h).1
theorem least_len (ss : List Sg) : (leastM ss).length ≤ ss.length := Nat.le_trans (List.length_filter_le _ _) (unlN_len ss _)
end R3

set_option maxHeartbeats 3900000
namespace R3
open PySem PySem.Spec PyProof.Rows L2 TL RP FI
open C8 (pss_cut tCut pe_gc)
open CB
abbrev sSame : Stmt := top 58
def spSame (K : PySem.W.Frag) : Sp := fun vs H Q _ => ∃ (v u : V) (d : PyData), vs = [v, u] ∧ Dq K H v d ∧ Dq K H u d ∧ Fine d 20 1000000 ∧ Q (.bl true) H
section
variable {P : Program} {w : World} {K : PySem.W.Frag} {mg : Str → Option Value} {base : Heap}
theorem scSame : FnScope ["_law_found", "_law_due"] ["_law_found", "_law_due"] (defScope sSame) := ⟨rfl, rfl, rfl, by decide +kernel, rfl, by decide +kernel, by decide +kernel⟩
theorem ok_same {f : Addr} {fd : FuncData} (F : Fun K "_law_same" "_law_same" sSame f fd) (mRepr : mg "repr" = none) (SM : (base.get? sysModules).isSome = true) : FnG P w K mg base CX0 1 f fd ["_law_found", "_law_due"] (spSame K) := by
  refine okG F scSame (fun vs H Q E h => ?_) (fun cdv A outer s H vs Q E hg hr h => ?_)
  · obtain ⟨v, u, d, rfl, _⟩ := h
    rfl
  · obtain ⟨v, u, d, rfl, h1, h2, fi, k⟩ := h
    have hu := hr.units
    have sz' : d.shown.length ≤ sizeLine := Nat.le_trans fi.sz (by decide)
    refine ⟨_, pss_one (ps_ret (pe_cmpR op_eq (pe_callB (call_repr SM hg hu) (by rfl) mRepr (by decide +kernel) (pa_cons (pv 0) pa_nil)) (pe_callB (call_repr SM hg hu) (by rfl) mRepr (by decide +kernel) (pa_cons (pv 1) pa_nil)) (nomark _))), ?_⟩
    refine ⟨_, rfl, v, d, rfl, h1, fi.sh, fi.dp, sz', _, rfl, u, d, rfl, h2, fi.sh, fi.dp, sz', rfl, ?_⟩
    show Q (.bl (decide (V.str d.shown = V.str d.shown))) H
    rw [decide_eq_true rfl]
    exact k
end
end R3

set_option maxHeartbeats 3900000
namespace R3
open PySem PySem.Spec PyProof.Rows L2 TL RP
open C8 (pss_cut tCut pe_gc)
open CB XW DV FD FI
/-! data of sights -/
def ShN (m : Nat) : Lk → Prop
  | .rd p => p.length ≤ m
  | .ls p => p.length ≤ m
  | _ => True
theorem dq_strs {K : PySem.W.Frag} {H : Hp} : ∀ l : List Str, DqAll K H (l.map V.str) (l.map PyData.str)
  | [] => .nil
  | z :: r => .cons (.str z) (dq_strs r)
theorem js_small {p : List Str} (h : Nms p) : ∀ c ∈ tl (js p), c < 128 := by
  rw [tl_js]
  exact jl_small h
/-- sizes of what is drawn -/
structure Dn (s : Lk × An) : Prop where
  ok : SiOk' s
  sz : Sz s
  an : AnS s.2
  lk : ShN 3 s.1
theorem lkS_fine {k : Lk} (ok : LkOk k) (sh : ShN 3 k) : ∀ x ∈ (lkS k).map PyData.str, Fine x 0 302 := by
  have js27 : ∀ {p : List Str}, Nms p → p.length ≤ 3 → Fine (.str (js p)) 0 302 := fun {p} h l => (fine_str (n := 30) (fun c hc => by have := js_small h c hc; omega) (by have := js_len h; omega)).up (Nat.le_refl _) (by decide)
  have w : ∀ z ∈ (["read", "list", "setting", "tool"] : List Str), Fine (.str z) 0 302 := by
    intro z hz
    simp only [List.mem_cons, List.not_mem_nil, or_false] at hz
    rcases hz with rfl | rfl | rfl | rfl <;> exact ⟨by decide +kernel, by decide +kernel, by decide +kernel⟩
  intro x hx
  cases k with
  | rd p =>
    simp only [lkS, List.map_cons, List.map_nil, List.mem_cons, List.not_mem_nil, or_false] at hx
    rcases hx with rfl | rfl
    · exact w _ (by decide +kernel)
    · exact js27 ok.2.1 sh
  | ls p =>
    simp only [lkS, List.map_cons, List.map_nil, List.mem_cons, List.not_mem_nil, or_false] at hx
    rcases hx with rfl | rfl
    · exact w _ (by decide +kernel)
    · exact js27 ok.1 sh
  | se n =>
    simp only [lkS, List.map_cons, List.map_nil, List.mem_cons, List.not_mem_nil, or_false] at hx
    rcases hx with rfl | rfl
    · exact w _ (by decide +kernel)
    · exact (fine_str (n := 8) (fun c hc => by have := (show IsNm n from ok).2.2 c hc; omega) (show IsNm n from ok).2.1).up (Nat.le_refl _) (by decide)
  | tl =>
    simp only [lkS, List.map_cons, List.map_nil, List.mem_cons, List.not_mem_nil, or_false] at hx
    subst hx
    exact w _ (by decide +kernel)
theorem lkS_len (k : Lk) : ((lkS k).map PyData.str).length ≤ 2 := by
  cases k <;> simp [lkS]
theorem fine_any {ds : List PyData} {n m dep e : Nat} {d : PyData} (h : ∀ x ∈ ds, Fine x dep n) (hm : 3 + ds.length * (n + 2) ≤ m) (he : dep + 1 ≤ e) (q : d = .tuple ds ∨ d = .list ds) : Fine d e m := by
  rcases q with rfl | rfl
  · exact (Fine.tup h hm).up he (Nat.le_refl _)
  · exact (Fine.lst h (by omega)).up he (Nat.le_refl _)
theorem row_dq {K : PySem.W.Frag} {H : Hp} {v : V} {xs : List V} {ds : List PyData} (h : RowAt H v xs) (a : DqAll K H xs ds) : ∃ d, Dq K H v d ∧ (d = .tuple ds ∨ d = .list ds) := by
  obtain ⟨b, rfl, h | h⟩ := h
  · exact ⟨_, .tup h a, .inl rfl⟩
  · exact ⟨_, .lst h a, .inr rfl⟩
theorem ents_dq {K : PySem.W.Frag} {H : Hp} : ∀ l : List (Str × Bool), DqAll K H (l.map entV) ((l.map fun e => ent e.1 e.2).map PyData.str)
  | [] => .nil
  | e :: r => .cons (.str _) (ents_dq r)
theorem ents_fine {l : List (Str × Bool)} (h : ∀ e ∈ l, IsNm e.1) : ∀ x ∈ (l.map fun e => ent e.1 e.2).map PyData.str, Fine x 0 92 := by
  intro x hx
  rw [List.map_map] at hx
  obtain ⟨e, he, rfl⟩ := List.mem_map.mp hx
  refine fine_str (n := 9) (fun c hc => ?_) ?_
  · rw [tl_ent] at hc
    rcases List.mem_append.mp hc with q | q
    · have := (h e he).2.2 c q
      omega
    · split at q
      · rw [List.mem_singleton.mp q]
        decide
      · cases q
  · have := (h e he).2.1
    rw [len_tl, tl_ent, List.length_append, ← len_tl]
    cases e.2 <;> simp <;> omega
theorem an_dq {K : PySem.W.Frag} {H : Hp} {v : V} {k : Lk} {a : An} (h : AnIn H v a) (d : Dn (k, a)) : ∃ e, Dq K H v e ∧ Fine e 1 1900 := by
  cases a with
  | no =>
    cases (show v = .non from h)
    exact ⟨.none, .non, fine_non.up (by decide) (by decide)⟩
  | tx z =>
    cases (show v = .str z from h)
    have oz : PyData.strOk z = true := d.ok.2.2
    refine ⟨_, .str z, (fine_str (n := 20) (fun c hc => ?_) d.an).up (by decide) (by decide)⟩
    have := Array.all_eq_true_iff_forall_mem.mp oz c (Array.mem_toList_iff.mp hc)
    have := of_decide_eq_true this
    omega
  | es l =>
    obtain ⟨e, he, q⟩ := row_dq h (ents_dq (K := K) (H := H) l)
    refine ⟨e, he, fine_any (ents_fine d.ok.2.2.1) ?_ (Nat.le_refl 1) q⟩
    have : l.length ≤ 20 := d.sz.2
    rw [List.length_map, List.length_map]
    omega
theorem lk_dq {K : PySem.W.Frag} {H : Hp} {v : V} {k : Lk} (h : RowAt H v (lkV k)) (ok : LkOk k) (sh : ShN 3 k) : ∃ e, Dq K H v e ∧ Fine e 1 1900 := by
  rw [lkV_S] at h
  obtain ⟨e, he, q⟩ := row_dq h (dq_strs (K := K) (H := H) (lkS k))
  refine ⟨e, he, fine_any (lkS_fine ok sh) ?_ (Nat.le_refl 1) q⟩
  have := lkS_len k
  omega
theorem si_dq {K : PySem.W.Frag} {H : Hp} {v : V} {s : Lk × An} (h : SiIn H v s) (d : Dn s) : ∃ e, Dq K H v e ∧ Fine e 5 4000 := by
  obtain ⟨vk, va, r, hk, ha⟩ := h
  obtain ⟨e1, q1, f1⟩ := lk_dq (K := K) hk d.ok.1.1 d.lk
  obtain ⟨e2, q2, f2⟩ := an_dq (K := K) (k := s.1) ha d
  obtain ⟨e, q, z⟩ := row_dq r (.cons q1 (.cons q2 .nil))
  refine ⟨e, q, fine_any (n := 1900) (dep := 1) (fun x hx => ?_) (by show 3 + 2 * 1902 ≤ 4000; decide) (by decide) z⟩
  rcases List.mem_cons.mp hx with rfl | hx
  · exact f1
  · rw [List.mem_singleton.mp hx]
    exact f2
theorem an_dqA {K : PySem.W.Frag} {H : Hp} {v : V} {a : An} (h : AnAt H v a) : Dq K H v (anD a) := by
  cases a with
  | no =>
    cases (show v = .non from h)
    exact .non
  | tx z =>
    cases (show v = .str z from h)
    exact .str z
  | es l =>
    obtain ⟨b, rfl, hb⟩ := h
    exact .tup hb (ents_dq l)
theorem si_dqA {K : PySem.W.Frag} {H : Hp} {v : V} {s : Lk × An} (h : SiAt H v s) : Dq K H v (siD s) := by
  obtain ⟨t, u, va, rfl, h1, h2, h3⟩ := h
  rw [lkV_S] at h2
  exact .tup h1 (.cons (.tup h2 (dq_strs _)) (.cons (an_dqA h3) .nil))
theorem si_fine {s : Lk × An} (d : Dn s) : Fine (siD s) 5 4000 := by
  have f1 : Fine (lkD s.1) 1 1900 := fine_any (lkS_fine d.ok.1.1 d.lk) (by have := lkS_len s.1; omega) (Nat.le_refl 1) (.inl rfl)
  have f2 : Fine (anD s.2) 1 1900 := by
    obtain ⟨k, a⟩ := s
    cases a with
    | no => exact fine_non.up (by decide) (by decide)
    | tx z =>
      have oz : PyData.strOk z = true := d.ok.2.2
      refine (fine_str (n := 20) (fun c hc => ?_) d.an).up (by decide) (by decide)
      have := Array.all_eq_true_iff_forall_mem.mp oz c (Array.mem_toList_iff.mp hc)
      have := of_decide_eq_true this
      omega
    | es l =>
      refine fine_any (ents_fine d.ok.2.2.1) ?_ (Nat.le_refl 1) (.inl rfl)
      have : l.length ≤ 20 := d.sz.2
      rw [List.length_map, List.length_map]
      omega
  refine fine_any (n := 1900) (dep := 1) (ds := [lkD s.1, anD s.2]) (fun x hx => ?_) (by show 3 + 2 * 1902 ≤ 4000; decide) (by decide) (.inl rfl)
  rcases List.mem_cons.mp hx with rfl | hx
  · exact f1
  · rw [List.mem_singleton.mp hx]
    exact f2
theorem sis_dqA {K : PySem.W.Frag} {H : Hp} : ∀ {vs : List V} {ss : List (Lk × An)}, vs.length = ss.length → (∀ (i : Nat) (v : V) (s : Lk × An), vs[i]? = some v → ss[i]? = some s → SiAt H v s) → DqAll K H vs (ss.map siD)
  | [], [], _, _ => .nil
  | [], _ :: _, h, _ => by cases h
  | _ :: _, [], h, _ => by cases h
  | v :: vs, s :: ss, h, a => .cons (si_dqA (a 0 v s rfl rfl)) (sis_dqA (Nat.succ.inj h) fun i v s h1 h2 => a (i + 1) v s h1 h2)
theorem sisl_dq {K : PySem.W.Frag} {H : Hp} {t : Addr} {ss : List (Lk × An)} (h : SisL H t ss) : Dq K H (.ref t) (.list (ss.map siD)) := by
  obtain ⟨vs, h1, h2, h3⟩ := h
  exact .lst h1 (sis_dqA h2 h3)
theorem sis_fine {ss : List (Lk × An)} (d : ∀ s ∈ ss, Dn s) (l : ss.length ≤ 20) : Fine (.list (ss.map siD)) 6 90000 := by
  refine fine_any (n := 4000) (fun x hx => ?_) ?_ (Nat.le_refl 6) (.inr rfl)
  · obtain ⟨s, hs, rfl⟩ := List.mem_map.mp hx
    exact si_fine (d s hs)
  · rw [List.length_map]
    omega
/-! things of a row, that stay while the stream and the row's own list change -/
def But4 (st l R B : Addr) (H H' : Hp) : Prop := ∀ b o, H b = some o → b ≠ st → b ≠ l → b ≠ R → b ≠ B → H' b = some o
theorem But4.refl {st l p B : Addr} {H : Hp} : But4 st l p B H H := fun _ _ h _ _ _ _ => h
theorem But4.of {st l p B : Addr} {H H' : Hp} (h : But st l H H') : But4 st l p B H H' := fun b o e n1 n2 _ _ => h b o e n1 n2
theorem But4.tr {st l p B : Addr} {H H1 H2 : Hp} (a : But4 st l p B H H1) (b : But4 st l p B H1 H2) : But4 st l p B H H2 := fun c o h n1 n2 n3 n4 => b c o (a c o h n1 n2 n3 n4) n1 n2 n3 n4
theorem But4.put {st l p B : Addr} {H H' : Hp} {o : HO} (h : But4 st l p B H H') : But4 st l p B H (upd H' p o) := fun b u e n1 n2 n3 n4 => by
  rw [upd_ne n3]
  exact h b u e n1 n2 n3 n4
theorem But4.putB {st l p B : Addr} {H H' : Hp} {o : HO} (h : But4 st l p B H H') : But4 st l p B H (upd H' B o) := fun b u e n1 n2 n3 n4 => by
  rw [upd_ne n4]
  exact h b u e n1 n2 n3 n4
def El (K : PySem.W.Frag) (st l R B : Addr) (H : Hp) (x : V) (o : Option (Lk × An)) : Prop := ∀ H', But4 st l R B H H' → SgO H' x o ∧ ∃ d, Dq K H' x d ∧ Fine d 5 4000
theorem El.to {K : PySem.W.Frag} {st l R B : Addr} {H H' : Hp} {x : V} {o : Option (Lk × An)} (h : El K st l R B H x o) (b : But4 st l R B H H') : El K st l R B H' x o := fun H2 b2 => h H2 (b.tr b2)
theorem El.more {K : PySem.W.Frag} {st l R B : Addr} {H : Hp} {x : V} {o : Option (Lk × An)} {u : HO} (h : El K st l R R H x o) (n : H B = none) : El K st l R B (upd H B u) x o := fun H' b => h H' fun c w e n1 n2 n3 _ => b c w (by rw [upd_ne fun z => by rw [z, n] at e; cases e]; exact e) n1 n2 n3 fun z => by rw [z, n] at e; cases e
structure Els (K : PySem.W.Frag) (st l R B : Addr) (H : Hp) (xs : List V) (os : List (Option (Lk × An))) : Prop where
  len : xs.length = os.length
  el : ∀ (i : Nat) (x : V) (o : Option (Lk × An)), xs[i]? = some x → os[i]? = some o → El K st l R B H x o
theorem Els.to {K : PySem.W.Frag} {st l R B : Addr} {H H' : Hp} {xs : List V} {os : List (Option (Lk × An))} (h : Els K st l R B H xs os) (b : But4 st l R B H H') : Els K st l R B H' xs os := ⟨h.len, fun i x o h1 h2 => (h.el i x o h1 h2).to b⟩
theorem Els.more {K : PySem.W.Frag} {st l R B : Addr} {H : Hp} {xs : List V} {os : List (Option (Lk × An))} {u : HO} (h : Els K st l R R H xs os) (n : H B = none) : Els K st l R B (upd H B u) xs os := ⟨h.len, fun i x o h1 h2 => (h.el i x o h1 h2).more n⟩
theorem Els.sgs {K : PySem.W.Frag} {st l R B : Addr} {H : Hp} {xs : List V} {os : List (Option (Lk × An))} (h : Els K st l R B H xs os) : Sgs H xs os := ⟨h.len, fun i x o h1 h2 => (h.el i x o h1 h2 H But4.refl).1⟩
theorem els_dq {K : PySem.W.Frag} {st l R B : Addr} {H : Hp} : ∀ {xs : List V} {os : List (Option (Lk × An))}, Els K st l R B H xs os → ∃ ds, DqAll K H xs ds ∧ (∀ d ∈ ds, Fine d 5 4000) ∧ ds.length = xs.length
  | [], os, _ => ⟨[], .nil, (fun _ h => by cases h), rfl⟩
  | x :: xs, [], h => by have := h.len; cases this
  | x :: xs, o :: os, h => by
    obtain ⟨_, d, q, f⟩ := h.el 0 x o rfl rfl H But4.refl
    obtain ⟨ds, q2, f2, l⟩ := els_dq (xs := xs) (os := os) ⟨Nat.succ.inj h.len, fun i x o h1 h2 => h.el (i + 1) x o h1 h2⟩
    exact ⟨d :: ds, .cons q q2, List.forall_mem_cons.mpr ⟨f, f2⟩, by rw [List.length_cons, List.length_cons, l]⟩
theorem els_rowdq {K : PySem.W.Frag} {st l R B : Addr} {H : Hp} {v : V} {xs : List V} {os : List (Option (Lk × An))} (h : Els K st l R B H xs os) (r : RowAt H v xs) (n : xs.length ≤ 8) : ∃ d, Dq K H v d ∧ Fine d 20 100000 := by
  obtain ⟨ds, q, f, l⟩ := els_dq h
  obtain ⟨d, q2, z⟩ := row_dq r q
  exact ⟨d, q2, (fine_any (m := 40000) f (by rw [l]; have : xs.length * 4002 ≤ 8 * 4002 := Nat.mul_le_mul n (Nat.le_refl _); omega) (Nat.le_refl 6) z).up (by decide) (by decide)⟩
theorem Els.app {K : PySem.W.Frag} {st l R B : Addr} {H : Hp} {xs ys : List V} {os ps : List (Option (Lk × An))} (h : Els K st l R B H xs os) (g : Els K st l R B H ys ps) : Els K st l R B H (xs ++ ys) (os ++ ps) := by
  refine ⟨by rw [List.length_append, List.length_append, h.len, g.len], fun i x o h1 h2 => ?_⟩
  rcases Nat.lt_or_ge i xs.length with lt | ge
  · rw [List.getElem?_append_left lt] at h1
    rw [List.getElem?_append_left (by rw [← h.len]; exact lt)] at h2
    exact h.el i x o h1 h2
  · rw [List.getElem?_append_right ge] at h1
    rw [List.getElem?_append_right (by rw [← h.len]; exact ge), ← h.len] at h2
    exact g.el _ x o h1 h2
theorem Els.take {K : PySem.W.Frag} {st l R B : Addr} {H : Hp} {xs : List V} {os : List (Option (Lk × An))} (h : Els K st l R B H xs os) (n : Nat) : Els K st l R B H (xs.take n) (os.take n) := by
  refine ⟨by rw [List.length_take, List.length_take, h.len], fun i x o h1 h2 => ?_⟩
  rw [List.getElem?_take] at h1 h2
  split at h1
  · rename_i c
    rw [if_pos c] at h2
    exact h.el i x o h1 h2
  · cases h1
theorem Els.drop {K : PySem.W.Frag} {st l R B : Addr} {H : Hp} {xs : List V} {os : List (Option (Lk × An))} (h : Els K st l R B H xs os) (n : Nat) : Els K st l R B H (xs.drop n) (os.drop n) := by
  refine ⟨by rw [List.length_drop, List.length_drop, h.len], fun i x o h1 h2 => ?_⟩
  rw [List.getElem?_drop] at h1 h2
  exact h.el _ x o h1 h2
theorem Els.one {K : PySem.W.Frag} {st l R B : Addr} {H : Hp} {x : V} {o : Option (Lk × An)} (h : El K st l R B H x o) : Els K st l R B H [x] [o] := by
  refine ⟨rfl, fun i y p h1 h2 => ?_⟩
  cases i with
  | zero =>
    cases h1
    cases h2
    exact h
  | succ i => cases h1
end R3

set_option maxHeartbeats 3900000
namespace R3
open PySem PySem.Spec PyProof.Rows L2 TL
open C8 (pss_cut tCut pe_gc)
open CB XW LE LR
abbrev BLook (K : PySem.W.Frag) (mg : Str → Option Value) (C f : Addr) : Prop := ECl K mg "BadLook" "look" C f
/-- pairs of a value and its sight -/
def Zs (H : Hp) (zs : List (V × Sg)) : Prop := ∀ z ∈ zs, SiAt H z.1 z.2
theorem sis_zip {H : Hp} {D : Addr} {ss : List Sg} (h : SisL H D ss) : ∃ zs : List (V × Sg), H D = some (.lst (zs.map Prod.fst)) ∧ zs.map Prod.snd = ss ∧ Zs H zs := by
  obtain ⟨vs, hD, hl, hv⟩ := h
  refine ⟨vs.zip ss, by rw [List.map_fst_zip (by omega)]; exact hD, List.map_snd_zip (by omega), fun z hz => ?_⟩
  obtain ⟨i, hi⟩ := List.mem_iff_getElem?.mp hz
  rw [List.getElem?_zip_eq_some] at hi
  exact hv i _ _ hi.1 hi.2
theorem zip_sis {H : Hp} {D : Addr} {zs : List (V × Sg)} (h : H D = some (.lst (zs.map Prod.fst))) (z : Zs H zs) : SisL H D (zs.map Prod.snd) := by
  refine ⟨_, h, by rw [List.length_map, List.length_map], fun i v s h1 h2 => ?_⟩
  rw [List.getElem?_map] at h1 h2
  cases e : zs[i]? with
  | none =>
    rw [e] at h1
    cases h1
  | some x =>
    rw [e] at h1 h2
    cases h1
    cases h2
    exact z x (List.mem_of_getElem? e)
theorem Zs.up {H H' : Hp} {zs : List (V × Sg)} (h : Zs H zs) (s : Same H H') : Zs H' zs := fun z hz => (h z hz).up s
/-- a row of sights, in whatever shape -/
def Row (H : Hp) (v : V) (ss : List Sg) : Prop := ∃ vs', RowAt H v vs' ∧ vs'.length = ss.length ∧ (∀ (i : Nat) (x : V) (s : Sg), vs'[i]? = some x → ss[i]? = some s → SiIn H x s)
theorem Row.up {H H' : Hp} {v : V} {ss : List Sg} (h : Row H v ss) (s : Same H H') : Row H' v ss := by
  obtain ⟨vs', h1, h2, h3⟩ := h
  exact ⟨vs', h1.up s, h2, fun i x y a b => (h3 i x y a b).up s⟩
theorem SisL.row {H : Hp} {D : Addr} {ss : List Sg} (h : SisL H D ss) : Row H (.ref D) ss := by
  obtain ⟨vs, hD, hl, hv⟩ := h
  exact ⟨vs, ⟨D, rfl, .inr hD⟩, hl, fun i x s a b => (hv i x s a b).in⟩
def GoodS' (ss : List Sg) : Prop := ss.length ≤ 1000 ∧ ∀ s ∈ ss, SiOk' s
theorem GoodS'.ok {ss : List Sg} (h : GoodS' ss) : ∀ s ∈ ss, SiOk s := fun s hs => (h.2 s hs).1
theorem dpa_of {K : PySem.W.Frag} {H : Hp} : ∀ {vs : List V} {ss : List (Lk × An)}, vs.length = ss.length → (∀ (i : Nat) (v : V) (s : Lk × An), vs[i]? = some v → ss[i]? = some s → SiAt H v s) → DpAll K H vs (ss.map siD)
  | [], [], _, _ => .nil
  | [], _ :: _, h, _ => by cases h
  | _ :: _, [], h, _ => by cases h
  | v :: vs, s :: ss, h, a => .cons (si_dp (a 0 v s rfl rfl)) (dpa_of (Nat.succ.inj h) fun i v s h1 h2 => a (i + 1) v s h1 h2)
theorem lay_sis : ∀ {ss : List (Lk × An)}, (∀ s ∈ ss, SiW s) → PyData.canLayAll0 (ss.map siD) = true
  | [], _ => by simp [PyData.canLayAll0]
  | s :: r, h => by
    have h1 := siD_lay (h s List.mem_cons_self)
    have h2 := lay_sis fun x hx => h x (List.mem_cons_of_mem s hx)
    simp [PyData.canLayAll0, h1, h2]
theorem dep_sis : ∀ ss : List (Lk × An), PyData.depthAll (ss.map siD) ≤ 3
  | [] => by simp [PyData.depthAll]
  | s :: r => by
    have h1 := siD_dep s
    have h2 := dep_sis r
    simp only [List.map_cons, PyData.depthAll]
    omega
theorem sisl_shaped {ss : List (Lk × An)} (h : ∀ s ∈ ss, SiW s) : SeqAt.shaped (.list (ss.map siD)) = true := by
  refine shaped_mk (by simp only [PyData.canLay0]; exact lay_sis h) ?_
  have := dep_sis ss
  simp only [PyData.depth]
  omega
theorem any_si {s : Sg} (h : SiW s) : ∀ {l : List Sg}, (∀ t ∈ l, SiW t) → ((l.map siD).any fun z => z.eqv (siD s)) = decide (s ∈ l)
  | [], _ => by simp
  | t :: l, w => by
    rw [List.map_cons, List.any_cons, any_si h fun x hx => w x (List.mem_cons_of_mem t hx), eqv_si (w t List.mem_cons_self) h]
    by_cases e : t = s
    · subst e
      simp
    · have e2 : ¬ s = t := fun z => e z.symm
      simp [e, e2]
def SurV (H : Hp) (v : V) : Option An → Prop
  | none => v = .non
  | some a => ∃ t va, v = .ref t ∧ H t = some (.tup [va]) ∧ AnAt H va a
theorem SurV.up {H H' : Hp} {v : V} {o : Option An} (h : SurV H v o) (s : Same H H') : SurV H' v o := by
  cases o with
  | none => exact h
  | some a =>
    obtain ⟨t, va, e, h1, h2⟩ := h
    exact ⟨t, va, e, s _ _ h1, h2.up s⟩
/-- what barred sights raise -/
def Barred (H : Hp) (CA : Addr) (E : XK) (o : Option (Nat × Nat)) : Prop := ∀ p, o = some p → EWant2 H "first" "second" CA (.int (p.1 : Int)) (.int (p.2 : Int)) E
def spFfa : Sp := fun vs H Q _ => ∃ D v ss s, vs = [.ref D, v] ∧ SisL H D ss ∧ GoodS' ss ∧ SiAt H v s ∧ SiW s ∧ ∀ H', Same H H' → Q (.bl (othF ss s)) H'
def spFol : Sp := fun vs H Q _ => ∃ v x ss s, vs = [v, x] ∧ Row H v ss ∧ GoodS' ss ∧ SiIn H x s ∧ SiOk' s ∧ Tog ss ∧ ∀ H', Same H H' → Q (.bl (ss.any fun d => follM d s)) H'
def spLeast (CA : Addr) : Sp := fun vs H Q E => ∃ v ss, vs = [v] ∧ Row H v ss ∧ GoodS' ss ∧ ∀ o, FstAp ss o → (o = none → ∀ D H', Same H H' → SisL H' D (leastM ss) → Q (.ref D) H') ∧ Barred H CA E o
def spSure (CA CL : Addr) : Sp := fun vs H Q E => ∃ v x ss, vs = [v, x] ∧ Row H v ss ∧ GoodS' ss ∧
  ((∃ k, RowAt H x (lkV k) ∧ LkOk k ∧ ∀ o, FstAp ss o → (o = none → ∀ r H', Same H H' → SurV H' r (sureM ss k) → Q r H') ∧ Barred H CA E o) ∨ (OddL H x ∧ EWant H "look" CL x E))
section
variable {P : Program} {w : World} {K : PySem.W.Frag} {mg : Str → Option Value} {base : Heap} {CS CA CL fA fS fL : Addr} {fdA fdS fdL : FuncData}
end
end R3

set_option maxHeartbeats 3900000
namespace R3
open PySem PySem.Spec PyProof.Rows L2 TL
open C8 (pss_cut tCut pe_gc)
open CB XW LE LR
abbrev sSaw : Stmt := top 71
abbrev sTrue : Stmt := top 72
theorem erA_perm {α : Type} : ∀ (l : List α) (m : Nat) (h : m < l.length), (l[m] :: l.eraseIdx m).Perm l
  | x :: r, 0, _ => List.Perm.refl _
  | x :: r, m + 1, h => by
    have hm : m < r.length := by simpa using h
    have ih := erA_perm r m hm
    show (r[m]'hm :: x :: r.eraseIdx m).Perm (x :: r)
    exact (List.Perm.swap x (r[m]'hm) (r.eraseIdx m)).trans (List.Perm.cons x ih)
theorem erA_map {α : Type} (u : α → V) : ∀ (l : List α) (m : Nat), (l.map u).eraseIdx m = (l.eraseIdx m).map u
  | [], _ => rfl
  | _ :: _, 0 => rfl
  | x :: r, m + 1 => by
    show u x :: (r.map u).eraseIdx m = u x :: (r.eraseIdx m).map u
    rw [erA_map u r m]
def spMixedG : Sp := fun vs H Q _ => ∃ (α : Type) (u : α → V) (st l p : Addr) (c : Nat) (zs : List α), vs = [.ref st, .ref p] ∧ Strm H st l c ∧ c ≤ 900000 ∧ H p = some (.lst (zs.map u)) ∧ zs.length < 1000 ∧
  ∀ (D : Addr) (ys : List α) (H' : Hp), ys.Perm zs → H D = none → H' D = some (.lst (ys.map u)) → D ≠ st → D ≠ l → But st l H H' → Strm H' st l (c + zs.length) → Q (.ref D) H'
/-- what a look shows is true of the world -/
theorem ans_tru {H : Hp} {zs : List Str} {fs : Fs} {ss : Ss} {z : Str} {v : V} {k : Lk} (a : Ans H fs ss z v k) (ok : LkOn zs 3 k) (g : GoodF zs fs) (gs : GoodS zs ss) (nm : ∀ y ∈ zs, IsNm y) (fl : fs.length ≤ 6) (tz : z ∈ tools) :
    ∃ an, AnAt H v an ∧ AnOk k an ∧ AnW an ∧ AnS an ∧ Sz (k, an) ∧ Tru fs ss z (k, an) := by
  obtain ⟨an, h1, h2, h3, h4, h5⟩ := ans_an a ok g gs nm fl tz
  refine ⟨an, h1, h2, h3, h4, h5, ?_⟩
  have oa : ∀ o : Option Str, AnAt H (oV o) an → an = oA o := fun o h => by
    cases o with
    | none =>
      cases an with
      | no => rfl
      | tx z => cases (show V.non = .str z from h)
      | es l =>
        obtain ⟨b, e, _⟩ := h
        cases e
    | some t =>
      cases an with
      | no => cases (show V.str t = .non from h)
      | tx z =>
        cases (show V.str t = .str z from h)
        rfl
      | es l =>
        obtain ⟨b, e, _⟩ := h
        cases e
  cases k with
  | rd p =>
    have a : v = oV (fOf fs p) := a
    rw [a] at h1
    exact oa _ h1
  | se n =>
    have a : v = oV (sOf ss n) := a
    rw [a] at h1
    exact oa _ h1
  | tl =>
    have a : v = .str z := a
    rw [a] at h1
    exact oa (some z) h1
  | ls q =>
    obtain ⟨fm, hf, ⟨e1, nq, rfl⟩ | ⟨ne, t, ys, rfl, pm, srt, ht⟩⟩ := a
    · exact ⟨fm, hf, .inl ⟨e1, nq, oa none h1⟩⟩
    · refine ⟨fm, hf, .inr ⟨ne, ys, ?_, pm, srt⟩⟩
      have l1 := fm_len hf
      have l2 := pm.length_eq
      exact anAt_inj h1 ⟨t, rfl, ht⟩ h3 ⟨fun e he => fm_nm hf g nm e (pm.mem_iff.mp he), by omega⟩
/-- looks with their values -/
def Ks (H : Hp) (zs : List (V × Lk)) : Prop := ∀ z ∈ zs, ∃ t, z.1 = .ref t ∧ H t = some (.tup (lkV z.2))
theorem lks_zip {H : Hp} {D : Addr} {ks : List Lk} (h : LksL H D ks) : ∃ zs : List (V × Lk), H D = some (.lst (zs.map Prod.fst)) ∧ zs.map Prod.snd = ks ∧ Ks H zs := by
  obtain ⟨vs, hD, hl, hv⟩ := h
  refine ⟨vs.zip ks, by rw [List.map_fst_zip (by omega)]; exact hD, List.map_snd_zip (by omega), fun z hz => ?_⟩
  obtain ⟨i, hi⟩ := List.mem_iff_getElem?.mp hz
  rw [List.getElem?_zip_eq_some] at hi
  exact hv i _ _ hi.1 hi.2
theorem Ks.tup {H H' : Hp} {zs : List (V × Lk)} (h : Ks H zs) (t : TupS H H') : Ks H' zs := fun z hz => by
  obtain ⟨a, e, h1⟩ := h z hz
  exact ⟨a, e, t _ _ h1⟩
def spSaw : Sp := fun vs H Q _ => ∃ (x D : Addr) (zs : List Str) (fs : Fs) (ss : Ss) (z : Str) (ks : List (V × Lk)), vs = [.ref x, .ref D] ∧ WAt H x fs ss z ∧ H D = some (.lst (ks.map Prod.fst)) ∧ Ks H ks ∧ ks.length ≤ 20 ∧ (∀ k ∈ ks, LkOn zs 3 k.2) ∧ GoodF zs fs ∧ GoodS zs ss ∧ (∀ y ∈ zs, IsNm y) ∧ fs.length ≤ 6 ∧ z ∈ tools ∧
  ∀ L sg H', Same H H' → SisL H' L sg → H L = none → sg.map (·.1) = ks.map Prod.snd → (∀ s ∈ sg, (SiOk' s ∧ Sz s ∧ AnS s.2) ∧ Tru fs ss z s) → Q (.ref L) H'
def shortK : Lk → Prop
  | .rd p => p.length ≤ 40
  | .ls p => p.length ≤ 40
  | _ => True
def spLSure : Sp := fun vs H Q _ => ∃ D t ss k, vs = [.ref D, .ref t] ∧ SisL H D ss ∧ (∀ s ∈ ss, SiOk' s ∧ Sz s) ∧ ss.length ≤ 20 ∧ Tog ss ∧ H t = some (.tup (lkV k)) ∧ LkOk k ∧ shortK k ∧ ∀ v H', Same H H' → SurV H' v (sureM ss k) → Q v H'
def spLLeast : Sp := fun vs H Q _ => ∃ D ss, vs = [.ref D] ∧ SisL H D ss ∧ (∀ s ∈ ss, SiOk' s ∧ Sz s) ∧ ss.length ≤ 20 ∧ Tog ss ∧ ∀ L H', Same H H' → H L = none → SisL H' L (leastM ss) → Q (.ref L) H'
theorem pick_list {α : Type} (P : Nat → α → Prop) : ∀ n, (∀ i < n, ∃ a, P i a) → ∃ l : List α, l.length = n ∧ ∀ i a, l[i]? = some a → P i a
  | 0, _ => ⟨[], rfl, fun i a h => by cases h⟩
  | n + 1, h => by
    obtain ⟨l, hl, hp⟩ := pick_list P n fun i hi => h i (by omega)
    obtain ⟨a, ha⟩ := h n (by omega)
    refine ⟨l ++ [a], by rw [List.length_append, hl]; rfl, fun i b e => ?_⟩
    by_cases lt : i < l.length
    · rw [List.getElem?_append_left lt] at e
      exact hp i b e
    · rw [List.getElem?_append_right (by omega)] at e
      have := (List.getElem?_eq_some_iff.mp e).1
      rw [List.length_singleton] at this
      have ei : i = n := by omega
      rw [show i - l.length = 0 by omega] at e
      cases e
      rw [ei]
      exact ha
section
variable {P : Program} {w : World} {K : PySem.W.Frag} {mg : Str → Option Value} {base : Heap} {fD : Addr} {fdD : FuncData}
theorem ok_mixedG {f : Addr} {fd : FuncData} (F : Fun K "_law_mixed" "_law_mixed" sMixed f fd) (T : TB mg) (aD : aD' K mg fD fdD) (GD : FnOk P w K mg base CX0 1 fD fdD ["_law_stream", "_law_many"] spDraw) : FnOk P w K mg base CX0 2 f fd ["_law_stream", "_law_things"] spMixedG := by
  refine F.ok scMx (fun vs H Q E h => ?_) (fun cdv A outer s H vs Q E hr h => ?_)
  · obtain ⟨α, u0, st, l, p, c, zs, rfl, _⟩ := h
    rfl
  · obtain ⟨α, u0, st, l, p, c, zs, rfl, S, hc, hp, z1, k⟩ := h
    refine ⟨_, pss_cons (ps_set (i := 2) scMx.nd rfl (Or.inr rfl) (pe_callTy call_list_of (by rfl) T.list (by decide +kernel) (pa_cons (pv 1) pa_nil)))
            (pss_one (ps_ret (pe_lc (own := [("_law_k", 3)]) (g := gName 3) (tt := tYes) rfl scMx.nd (pi_range1 rfl T.range (pa_cons (pe_callB call_len_seq (by rfl) T.len PySem.boot_len (pa_cons (pv 2) pa_nil)) pa_nil)) (blkOk_by (own := [("_law_k", 3)]) (N := ["_law_stream", "_law_things", "_law_left", "_law_k"]) (sc := defScope sMixed) (by decide +kernel)) (fun _ _ _ _ _ => (pg_name (i := 3) scMx.nd rfl (Or.inl rfl))) (fun _ _ _ _ _ => pts_nil) (fun _ _ _ _ _ => (by exact (pe_bmK K rfl PySem.F.plainAttrs_list PySem.F.slot_list_pop PySem.F.type_list_pop mt_popAt (pv 2) (pa_cons (pe_call GD (hr.mono (by decide)) rfl aD.m aD.k aD.b .nil pass0 (pa_cons (pv 0) (pa_cons (pe_callB (len_seqK (K0 := K) rfl) (by rfl) T.len PySem.boot_len (pa_cons (pv 2) pa_nil)) pa_nil))) pa_nil))))))), ?_⟩
    refine ⟨_, rfl, p, _, rfl, .inl (SqL.of hp), fun u hu => ?_⟩
    have nu := S.ne_new hu
    have S0 := S.up (same_mk (o := .lst (zs.map u0)) hu)
    refine ⟨_, rfl, u, _, rfl, .inl (SqL.of upd_same), _, rfl, by omega, by rw [List.length_map]; omega, fun D hD => ?_⟩
    rw [List.length_map]
    have nD := S0.ne_new hD
    have uD : u ≠ D := ne_of_none upd_same hD
    have s01 : Same H (upd H u (.lst (zs.map u0))) := same_mk hu
    have hDH : H D = none := s01.free hD
    refine lc_range (lo := 0) (n := ((zs.length : Nat) : Int).toNat) (fun i H' => But st l H H' ∧ Strm H' st l (c + i) ∧ ∃ rem ys : List α, ys.length = i ∧ (ys ++ rem).Perm zs ∧ H' u = some (.lst (rem.map u0)) ∧ H' D = some (.lst (ys.map u0)))
      ⟨But.same (s01.trans (same_mk hD)), S0.up (same_mk hD), zs, [], rfl, List.Perm.refl _, by rw [upd_ne uD]; exact upd_same, upd_same⟩ ?_ ?_
    · rintro i H' hi ⟨B', S', rem, ys, hy, pm, hu', hD'⟩
      have hi' : i < zs.length := by simpa using hi
      have rl : rem.length = zs.length - i := by
        have := pm.length_eq
        rw [List.length_append] at this
        omega
      refine ⟨rfl, _, rfl, .inl ⟨rfl, _, SqL.of hu'⟩, _, rfl, _, rfl, u, _, rfl, .inl (SqL.of hu'), st, l, c + i, _, rfl, S', by omega, by rw [List.length_map]; omega, by rw [List.length_map]; omega, fun d H'' d0 d1 B'' S'' => ?_⟩
      rw [List.length_map] at d1
      obtain ⟨m, rfl⟩ := Int.eq_ofNat_of_zero_le d0
      have hm : m < rem.length := by omega
      have hu2 := B'' _ _ hu' nu.1 nu.2
      have hD2 := B'' _ _ hD' nD.1 nD.2
      have sx : seqIndex? (m : Int) (rem.map u0).length = some m := by
        rw [List.length_map]
        have h0 : ¬ ((m : Int) < 0) := by omega
        simp [seqIndex?, h0, hm]
      refine ⟨u, _, m, m, u0 rem[m], rfl, rfl, hu2, by omega, by omega, sx, by rw [List.getElem?_map, List.getElem?_eq_getElem hm]; rfl, _, by rw [upd_ne uD.symm]; exact hD2, ?_, ?_, ?_, rem.eraseIdx m, ys ++ [rem[m]], ?_, ?_, ?_, ?_⟩
      · rw [List.length_map, hy]
        exact Nat.lt_of_lt_of_le (show i < 1000 by omega) (by decide)
      · intro b o hb n1 n2
        by_cases e1 : b = D
        · rw [e1, hDH] at hb
          cases hb
        · rw [upd_ne e1]
          by_cases e2 : b = u
          · rw [e2, hu] at hb
            cases hb
          · rw [upd_ne e2]
            exact B'' _ _ (B' _ _ hb n1 n2) n1 n2
      · exact (S''.put nu).put nD
      · rw [List.length_append, hy]
        rfl
      · rw [List.append_assoc]
        exact (List.Perm.append_left ys (erA_perm rem m hm)).trans pm
      · rw [upd_ne uD, upd_same, erA_map]
      · rw [upd_same, List.map_append]
        rfl
    · rintro H' ⟨B', S', rem, ys, hy, pm, hu', hD'⟩
      have hy' : ys.length = zs.length := by simpa using hy
      have rl : rem.length = 0 := by
        have := pm.length_eq
        rw [List.length_append] at this
        omega
      rw [List.length_eq_zero_iff.mp rl, List.append_nil] at pm
      exact k D ys H' pm hDH hD' nD.1 nD.2 B' (by simpa using S')
theorem scSaw : FnScope ["_law_w", "_law_looks_here", "_law_look_here"] ["_law_w", "_law_looks_here"] (defScope sSaw) := ⟨rfl, rfl, rfl, by decide +kernel, rfl, by decide +kernel, by decide +kernel⟩
theorem ok_saw {f fS : Addr} {fd fdS : FuncData} (F : Fun K "_law_saw" "_law_saw" sSaw f fd) (T : TB mg) (aShows : At K mg "_law_shows" fS fdS ["_law_w", "_law_look_here"]) (GShows : FnOk P w K mg base CX0 3 fS fdS ["_law_w", "_law_look_here"] spShows) : FnOk P w K mg base CX0 4 f fd ["_law_w", "_law_looks_here"] spSaw := by
  refine F.ok scSaw (fun vs H Q E h => ?_) (fun cdv A outer s H vs Q E hr h => ?_)
  · obtain ⟨x, D, zs, fs, ss, z, ks, rfl, _⟩ := h
    rfl
  · obtain ⟨x, D, zs, fs, ss, z, ks, rfl, wa, hD, hk, kl, kon, g, gs, nm, fl, tz, fin⟩ := h
    refine ⟨_, pss_one (ps_ret (pe_lc (own := [("_law_look_here", 2)]) (g := gName 2) (tt := tYes) rfl scSaw.nd (pi_list (pv 1)) (blkOk_by (own := [("_law_look_here", 2)]) (N := ["_law_w", "_law_looks_here", "_law_look_here"]) (sc := defScope sSaw) (by decide +kernel)) (fun _ _ _ _ _ => (pg_name (i := 2) scSaw.nd rfl (Or.inl rfl))) (fun _ _ _ _ _ => pts_nil) (fun _ _ _ _ _ => (by exact (pe_tup (pa_cons (pv 2) (pa_cons (pe_call GShows (hr.mono (by decide)) rfl aShows.m aShows.k aShows.b .nil pass0 (pa_cons (pv 0) (pa_cons (pv 2) pa_nil))) pa_nil))))))), ?_⟩
    refine ⟨_, rfl, D, rfl, ⟨_, SqL.of hD⟩, fun L hL => ?_⟩
    have lk : ks.length < 1000000 := by omega
    refine lcR (walk_list (K := K) (a := D) (xs := ks.map Prod.fst)) (fun i v H' => ∃ (zk : V × Lk) (an : An), ks[i]? = some zk ∧ SiAt H' v (zk.2, an) ∧ ((SiOk' (zk.2, an) ∧ Sz (zk.2, an) ∧ AnS an) ∧ Tru fs ss z (zk.2, an))) ?_ (by rw [List.length_map]; exact lk) hL (fun H' s => SqL.of (s _ _ hD)) ?_ ?_
    · rintro i v H1 H2 bd ⟨zk, an, e, h1, h2⟩
      exact ⟨zk, an, e, h1.tup bd, h2⟩
    · rintro i v H2 _ hi s2 ⟨rfl, hx⟩ Q1 q1
      rw [List.length_map] at hi
      have ek : ks[i]? = some ks[i] := List.getElem?_eq_getElem hi
      rw [List.getElem?_map, ek] at hx
      cases hx
      have hm : ks[i] ∈ ks := List.getElem_mem hi
      obtain ⟨t, et, ht⟩ := hk _ hm
      have on := kon _ hm
      have ht2 := s2 _ _ ht
      refine ⟨_, rfl, _, rfl, _, rfl, x, t, zs, fs, ss, z, ks[i].2, congrArg (fun u => [V.ref x, u]) et, wa.same s2, ht2, on_p on nm, g, nm, by omega, fun v H3 s3 an => ⟨by show 2 ≤ sizeLine; decide, fun q hq => ?_⟩⟩
      obtain ⟨a, ha, h1, h2, h3, h4, h5⟩ := ans_tru an on g gs nm fl tz
      have s4 := same_mk (o := .tup [ks[i].1, v]) hq
      have ok := on_ok on nm
      exact q1 _ _ (s3.trans s4) ⟨ks[i], a, ek, ⟨q, t, v, rfl, by rw [upd_same, et], s4 _ _ (s3 _ _ ht2), ha.up s4⟩, ⟨⟨⟨ok, h1⟩, ok.w, h2⟩, h4, h3⟩, h5⟩
    · intro ys H2 yl s2 hL2 hr
      rw [List.length_map] at yl
      obtain ⟨sg, sl, hs⟩ := pick_list (fun i (s : Sg) => ∃ (y : V) (zk : V × Lk), ys[i]? = some y ∧ ks[i]? = some zk ∧ s.1 = zk.2 ∧ SiAt H2 y s ∧ ((SiOk' s ∧ Sz s ∧ AnS s.2) ∧ Tru fs ss z s)) ys.length fun i hi => by
        have ey : ys[i]? = some ys[i] := List.getElem?_eq_getElem hi
        obtain ⟨zk, an, e, h1, h2⟩ := hr i _ ey
        exact ⟨(zk.2, an), ys[i], zk, ey, e, rfl, h1, h2⟩
      refine fin L sg H2 s2 ⟨ys, hL2, sl.symm, fun i v s h1 h2 => ?_⟩ hL ?_ fun s hm => ?_
      · obtain ⟨y, zk, e1, _, _, h3, _⟩ := hs i s h2
        rw [h1] at e1
        cases e1
        exact h3
      · refine List.ext_getElem? fun i => ?_
        rw [List.getElem?_map, List.getElem?_map]
        cases e : sg[i]? with
        | some s =>
          obtain ⟨y, zk, _, e2, e3, _⟩ := hs i s e
          rw [e2]
          exact congrArg some e3
        | none =>
          have := List.getElem?_eq_none_iff.mp e
          rw [List.getElem?_eq_none (by omega)]
          rfl
      · obtain ⟨i, hi⟩ := List.getElem?_of_mem hm
        obtain ⟨_, _, _, _, _, _, h⟩ := hs i s hi
        exact h
end
end R3

set_option maxHeartbeats 3900000
namespace R3
open PySem PySem.Spec PyProof.Rows L2 TL
open C8 (pss_cut tCut pe_gc)
open CB XW LE LR
def surD : Option An → PyData
  | none => .none
  | some a => .tuple [anD a]
theorem sur_dp {K : PySem.W.Frag} {H : Hp} {v : V} {o : Option An} (h : SurV H v o) : Dp K H v (surD o) := by
  cases o with
  | none =>
    cases (show v = .non from h)
    exact .non
  | some a =>
    obtain ⟨t, va, rfl, h1, h2⟩ := h
    exact .tup (SqT.of h1) (.cons (an_dp h2) .nil)
theorem sur_shaped {o : Option An} (h : ∀ a, o = some a → AnW a) : SeqAt.shaped (surD o) = true := by
  cases o with
  | none => rfl
  | some a =>
    have h1 := anD_lay (h a rfl)
    have h2 := anD_dep a
    refine shaped_mk (by simp [surD, PyData.canLay0, PyData.canLayAll0, h1]) ?_
    simp only [surD, PyData.depth, PyData.depthAll]
    omega
theorem eqv_sur {o o' : Option An} (h : ∀ a, o = some a → AnW a) (h' : ∀ a, o' = some a → AnW a) : PyData.eqv (surD o) (surD o') = decide (o = o') := by
  cases o with
  | none =>
    cases o' with
    | none => rfl
    | some a => simp [surD, PyData.eqv]
  | some a =>
    cases o' with
    | none => simp [surD, PyData.eqv]
    | some b =>
      have := eqv_an (h a rfl) (h' b rfl)
      simp only [surD, PyData.eqv, PyData.eqvAll, this, Bool.and_true]
      exact decide_eq_decide.mpr ⟨fun e => by rw [e], fun e => Option.some.inj e⟩
theorem sure_w {ss : List Sg} (h : ∀ s ∈ ss, SiW s) {k : Lk} : ∀ a, sureM ss k = some a → AnW a := fun a e => by
  unfold sureM at e
  split at e
  · rename_i s hf
    cases e
    exact (h s (List.mem_of_find?_eq_some hf)).2
  · split at e
    · cases e
      trivial
    · cases e
theorem SisL.app {H : Hp} {D : Addr} {xs : List V} {ss : List Sg} {v : V} {s : Sg} (hD : H D = some (.lst xs)) (h : SisL H D ss) (hv : SiAt H v s) : SisL (upd H D (.lst (xs ++ [v]))) D (ss ++ [s]) := by
  obtain ⟨vs, e, vl, hvs⟩ := h
  rw [hD] at e
  cases e
  have ts : TupS H (upd H D (.lst (xs ++ [v]))) := tupS_put hD fun xs z => by cases z
  refine ⟨_, upd_same, by rw [List.length_append, List.length_append, vl]; rfl, fun i y t h1 h2 => ?_⟩
  rcases Nat.lt_or_ge i xs.length with lt | ge
  · rw [List.getElem?_append_left lt] at h1
    rw [List.getElem?_append_left (by omega)] at h2
    exact (hvs i y t h1 h2).tup ts
  · rw [List.getElem?_append_right ge] at h1
    rw [List.getElem?_append_right (by omega)] at h2
    have := (List.getElem?_eq_some_iff.mp h1).1
    rw [List.length_singleton] at this
    rw [show i - xs.length = 0 by omega] at h1
    rw [show i - ss.length = 0 by omega] at h2
    cases h1
    cases h2
    exact hv.tup ts
theorem SisL.len {H : Hp} {D : Addr} {ss : List Sg} {xs : List V} (h : SisL H D ss) (hD : H D = some (.lst xs)) : xs.length = ss.length := by
  obtain ⟨vs, e, vl, _⟩ := h
  rw [hD] at e
  cases e
  exact vl
theorem sisl_dp {K : PySem.W.Frag} {H : Hp} {D : Addr} {ss : List Sg} (h : SisL H D ss) : Dp K H (.ref D) (.list (ss.map siD)) := by
  obtain ⟨vs, e, vl, hv⟩ := h
  exact .lst (SqL.of e) (dpa_of vl hv)
section
variable {P : Program} {w : World} {K : PySem.W.Frag} {mg : Str → Option Value} {base : Heap} {fD : Addr} {fdD : FuncData}
end
end R3

set_option maxHeartbeats 3900000
namespace R3
open PySem PySem.Spec PyProof.Rows L2 TL
open C8 (pss_cut tCut pe_gc)
open CB XW LE LR
def spTrue : Sp := fun vs H Q _ => ∃ (st l p : Addr) (c : Nat) (zs : List Str) (many : Int), vs = [.ref st, .ref p, .int many] ∧ Strm H st l c ∧ c ≤ 500000 ∧ Pool H st l p zs ∧ zs.Nodup ∧ 0 < zs.length ∧ zs.length < 20 ∧ (∀ z ∈ zs, IsNm z) ∧ 0 ≤ many ∧ many ≤ 12 ∧
  ∀ T x L fs ss z sg H' c', H' T = some (.tup [.ref x, .ref L]) → SisL H' L sg → (sg.length : Int) ≤ many → (sg.map (·.1)).Nodup → (∀ s ∈ sg, (SiOk' s ∧ Sz s ∧ AnS s.2) ∧ Tru fs ss z s) → (∀ s ∈ sg, LkOn zs 3 s.1) → WAt H' x fs ss z → GoodF zs fs → fs.length ≤ 6 → GoodS zs ss → ss.length ≤ 2 → z ∈ tools → H L = none → But st l H H' → Strm H' st l c' → c' ≤ c + 200 → Q (.ref T) H'
theorem any_lk {k : Lk} (h : LkW k) : ∀ {l : List Lk}, (∀ t ∈ l, LkW t) → ((l.map lkD).any fun z => z.eqv (lkD k)) = decide (k ∈ l)
  | [], _ => by simp
  | t :: l, w => by
    rw [List.map_cons, List.any_cons, any_lk h fun x hx => w x (List.mem_cons_of_mem t hx), eqv_lk (w t List.mem_cons_self) h]
    by_cases e : t = k
    · subst e
      simp
    · have e2 : ¬ k = t := fun z => e z.symm
      simp [e, e2]
theorem ks_dp {K : PySem.W.Frag} {H : Hp} {D : Addr} {zs : List (V × Lk)} (hD : H D = some (.lst (zs.map Prod.fst))) (hk : Ks H zs) : Dp K H (.ref D) (.list ((zs.map Prod.snd).map lkD)) := by
  refine .lst (SqL.of hD) ?_
  clear hD
  induction zs with
  | nil => exact .nil
  | cons z r ih =>
    obtain ⟨t, e, h⟩ := hk z List.mem_cons_self
    refine .cons ?_ (ih fun y hy => hk y (List.mem_cons_of_mem z hy))
    rw [e]
    exact lk_dp h
theorem ks_shaped {l : List Lk} (h : ∀ k ∈ l, LkW k) : SeqAt.shaped (.list (l.map lkD)) = true := by
  have lay : ∀ {l : List Lk}, (∀ k ∈ l, LkW k) → PyData.canLayAll0 (l.map lkD) = true := by
    intro l
    induction l with
    | nil => intro _; simp [PyData.canLayAll0]
    | cons k r ih =>
      intro h
      have h1 := siD_lay (s := (k, .no)) ⟨h k List.mem_cons_self, trivial⟩
      have h2 := ih fun x hx => h x (List.mem_cons_of_mem k hx)
      simp only [siD, PyData.canLay0, PyData.canLayAll0, Bool.and_eq_true] at h1
      simp [PyData.canLayAll0, h1.1, h2]
  have dep : ∀ l : List Lk, PyData.depthAll (l.map lkD) ≤ 3 := by
    intro l
    induction l with
    | nil => simp [PyData.depthAll]
    | cons k r ih =>
      have h1 := siD_dep (k, .no)
      simp only [siD, PyData.depth, PyData.depthAll] at h1
      simp only [List.map_cons, PyData.depthAll]
      omega
  refine shaped_mk (by simp only [PyData.canLay0]; exact lay h) ?_
  have := dep l
  simp only [PyData.depth]
  omega
section
variable {P : Program} {w : World} {K : PySem.W.Frag} {mg : Str → Option Value} {base : Heap} {fD : Addr} {fdD : FuncData}
theorem scTrue : FnScope ["_law_stream", "_law_pool_here", "_law_many", "_law_w", "_law_looks_here", "_law_path_here", "_law_look_here"] ["_law_stream", "_law_pool_here", "_law_many"] (defScope sTrue) := ⟨rfl, rfl, rfl, by decide +kernel, rfl, by decide +kernel, by decide +kernel⟩
theorem ok_true {f fW fL fM fS : Addr} {fd fdW fdL fdM fdS : FuncData} (F : Fun K "_law_true_sights" "_law_true_sights" sTrue f fd) (T : TB mg)
    (aWorld : At K mg "_law_world" fW fdW ["_law_stream", "_law_pool_here", "_law_most"]) (GWorld : FnOk P w K mg base CX0 5 fW fdW ["_law_stream", "_law_pool_here", "_law_most"] spWorld)
    (aLooks : At K mg "_law_looks" fL fdL ["_law_stream", "_law_pool_here", "_law_many"]) (GLooks : FnOk P w K mg base CX0 5 fL fdL ["_law_stream", "_law_pool_here", "_law_many"] spLooks)
    (aMixed : At K mg "_law_mixed" fM fdM ["_law_stream", "_law_things"]) (GMixed : FnOk P w K mg base CX0 2 fM fdM ["_law_stream", "_law_things"] spMixedG)
    (aSaw : At K mg "_law_saw" fS fdS ["_law_w", "_law_looks_here"]) (GSaw : FnOk P w K mg base CX0 4 fS fdS ["_law_w", "_law_looks_here"] spSaw) : FnOk P w K mg base CX0 6 f fd ["_law_stream", "_law_pool_here", "_law_many"] spTrue := by
  refine F.ok scTrue (fun vs H Q E h => ?_) (fun cdv A outer s H vs Q E hr h => ?_)
  · obtain ⟨st, l, p, c, zs, many, rfl, _⟩ := h
    rfl
  · obtain ⟨st, l, p, c, zs, many, rfl, S, hc, L, znd, z0, z1, nm, m0, m1, k⟩ := h
    have hu := hr.units
    have hu1 := hu_of hr
    have hu5 := hr.un
    have hu5 : (A.deeper (envOfC "_law_true_sights" (defScope sTrue) s.heap.objs.size f cdv)).units + 65 < cLine := by omega
    refine ⟨_, pss_cons (ps_set (i := 3) scTrue.nd rfl (Or.inl rfl) (pe_call GWorld (hr.mono (by decide)) rfl aWorld.m aWorld.k aWorld.b .nil pass0 (pa_cons (pv 0) (pa_cons (pv 1) (pa_cons pe_int pa_nil)))))
            (pss_cons (ps_set (i := 4) scTrue.nd rfl (Or.inr rfl) (pe_call GLooks (hr.mono (by decide)) rfl aLooks.m aLooks.k aLooks.b .nil pass0 (pa_cons (pv 0) (pa_cons (pv 1) (pa_cons (pv 2) pa_nil)))))
            (pss_cons (ps_for PassesOwn.never rfl (pi_list (pe_slice sl_list (pe_call GMixed (hr.mono (by decide)) rfl aMixed.m aMixed.k aMixed.b .nil pass0 (pa_cons (pv 0) (pa_cons (pe_callTy (call_list_dK rfl) (by rfl) T.list (by decide +kernel) (pa_cons (pe_dget hu1 (pv 3) pe_str (fun _ _ => rfl)) pa_nil)) pa_nil))) po_none (po_some pe_int))) (pg_name (i := 5) scTrue.nd rfl (Or.inl rfl)) (pss_one (ps_expr (pe_bm PySem.F.plainAttrs_list PySem.F.slot_list_extend PySem.F.type_list_extend mt_extend (pv 4) (pa_cons (pe_lc (own := [("_law_look_here", 6)]) (g := gName 6) (tt := _) rfl scTrue.nd (pi_list (pe_lst (pa_cons (pe_tup (pa_cons pe_str (pa_cons (pv 5) pa_nil))) (pa_cons (pe_tup (pa_cons pe_str (pa_cons (pe_ix ix_list (pe_bm PySem.F.plainAttrs_str PySem.F.slot_str_split PySem.F.type_str_split mt_split (pv 5) (pa_cons pe_str pa_nil)) pe_int (fun _ _ => rfl)) pa_nil))) pa_nil)))) (blkOk_by (own := [("_law_look_here", 6)]) (N := ["_law_stream", "_law_pool_here", "_law_many", "_law_w", "_law_looks_here", "_law_path_here", "_law_look_here"]) (sc := defScope sTrue) (by decide +kernel)) (fun _ _ _ _ _ => (pg_name (i := 6) scTrue.nd rfl (Or.inl rfl))) (fun _ _ _ _ _ => (by exact pts_one (pt_cmpR (LE.notInDK (K0 := K) rfl hu5) (pv 6) (pv 4) (by rfl)))) (fun _ _ _ _ _ => (by exact (pv 6)))) pa_nil)))))
            (pss_one (ps_ret (pe_tup (pa_cons (pv 3) (pa_cons (pe_call GSaw (hr.mono (by decide)) rfl aSaw.m aSaw.k aSaw.b .nil pass0 (pa_cons (pv 3) (pa_cons (pe_slice sl_list (pe_call GMixed (hr.mono (by decide)) rfl aMixed.m aMixed.k aMixed.b .nil pass0 (pa_cons (pv 0) (pa_cons (pv 4) pa_nil))) po_none (po_some (pv 2))) pa_nil))) pa_nil))))))), ?_⟩
    refine ⟨_, rfl, _, rfl, st, l, p, c, zs, 6, rfl, S, by omega, L, z0, by omega, nm, znd, by decide, fun x fs ss z H1 c1 wa g fl gs sl tz B1 S1 hc1 => ?_⟩
    have L1 := L.but B1
    refine ⟨_, rfl, _, rfl, _, rfl, st, l, p, c1, zs, many, rfl, S1, by omega, L1, z0, by omega, nm, m0, by omega, fun G ks H2 c2 kl kon knd hG0 hG B2 S2 hc2 => ?_⟩
    have wa2 := wa_but wa S1 B2
    obtain ⟨kz, hkz, rfl, hks⟩ := lks_zip hG
    have nG := S1.ne_new hG0
    obtain ⟨d, e, w1, w2, w3⟩ := id wa2
    have ekeys : ((fsK fs).map fun kv => kV kv.1) = (fs.map (·.1)).map pV := by
      unfold fsK
      rw [List.map_map, List.map_map]
      rfl
    refine ⟨_, rfl, _, rfl, x, _, rfl, wd_f w1, d, fsK fs, rfl, w2, fun l1 hl1 => ?_⟩
    rw [ekeys]
    have s3 := same_mk (o := .lst ((fs.map (·.1)).map pV)) hl1
    have S3 := S2.up s3
    refine ⟨List Str, pV, st, l, l1, c2, fs.map (·.1), rfl, S3, by omega, upd_same, by rw [List.length_map]; omega, fun M ys H4 pm hM0 hM nM1 nM2 B4 S4 => ?_⟩
    have yl : ys.length = fs.length := by rw [pm.length_eq, List.length_map]
    refine ⟨_, rfl, M, _, rfl, SqL.of hM, fun W hW => ?_⟩
    have ecut : cutV (ys.map pV) none (some 2) = (ys.take 2).map pV := by
      rw [show (2 : Int) = ((2 : Nat) : Int) from rfl, cut_take, List.map_take]
    rw [ecut]
    have s5 := same_mk (o := .lst ((ys.take 2).map pV)) hW
    have S5 := S4.up s5
    have B25 : But st l H2 (upd H4 W (.lst ((ys.take 2).map pV))) := fun b o hb n1 n2 => s5 _ _ (B4 _ _ (s3 _ _ hb) n1 n2)
    have hW5 := upd_same (H := H4) (a := W) (o := .lst ((ys.take 2).map pV))
    have hG5 := B25 _ _ hkz nG.1 nG.2
    have hks5 : Ks (upd H4 W (.lst ((ys.take 2).map pV))) kz := hks.tup (tup_but S2 B25)
    have GW : G ≠ W := fun e => by
      have := B4 _ _ (s3 _ _ hkz) nG.1 nG.2
      rw [e, hW] at this
      cases this
    have nW := S4.ne_new hW
    generalize upd H4 W (.lst ((ys.take 2).map pV)) = H5 at s5 S5 B25 hW5 hG5 hks5
    have kl2 : kz.length ≤ 12 := by
      rw [List.length_map] at kl
      omega
    have tkl : (ys.take 2).length ≤ 2 := by rw [List.length_take]; omega
    refine ⟨W, rfl, ⟨_, SqL.of hW5⟩, for_it (walk_list (K := K) (a := W) (xs := (ys.take 2).map pV)) (fun i σ H' => ∃ x5 x6 ks, σ = [some (.ref st), some (.ref p), some (.int many), some (.ref x), some (.ref G), x5, x6] ∧ (∀ b o, H5 b = some o → b ≠ G → H' b = some o) ∧ H' G = some (.lst (ks.map Prod.fst)) ∧ Ks H' ks ∧ ks.length ≤ 12 + 2 * i ∧ (∀ z ∈ ks, LkOn zs 3 z.2) ∧ (ks.map Prod.snd).Nodup ∧ Strm H' st l (c2 + (fs.map (·.1)).length))
      ⟨_, _, kz, rfl, fun b o h _ => h, hG5, hks5, by omega, fun z hz => kon _ (List.mem_map_of_mem hz), knd, S5⟩ (fun i σ H' _ m => by obtain ⟨_, _, _, _, m, _⟩ := m; exact SqL.of (m _ _ hW5 (Ne.symm GW))) ?_ ?_⟩
    · rintro i y _ _ H6 hi ⟨x5, x6, ks, rfl, R6, hG6, hk6, kl6, on6, nd6, S6⟩ ⟨rfl, hy⟩
      rw [List.length_map] at hi
      rw [List.getElem?_map, List.getElem?_eq_getElem hi] at hy
      cases hy
      have hm : (ys.take 2)[i] ∈ fs.map (·.1) := pm.mem_iff.mp (List.mem_of_mem_take (List.getElem_mem hi))
      generalize (ys.take 2)[i] = q at hm
      obtain ⟨ef, hef, eq⟩ := List.mem_map.mp hm
      obtain ⟨g1, g2, g3⟩ := g.path ef hef
      rw [show ef.1 = q from eq] at g1 g2 g3
      have qn : Nms q := fun y hy => nm y (g3 y hy)
      obtain ⟨n, r, rfl⟩ : ∃ n r, q = n :: r := by
        cases q with
        | nil => exact absurd rfl g1
        | cons n r => exact ⟨n, r, rfl⟩
      refine ⟨_, rfl, .inl ⟨rfl, _, SqL.of hG6⟩, _, rfl, by show 2 ≤ sizeLine; decide, fun a ha => ?_⟩
      have sa := same_mk (o := .tup [.str "read", pV (n :: r)]) ha
      have shq := js_sh qn (Nat.le_trans g2 (by decide))
      refine ⟨_, rfl, rfl, js (n :: r), "/", rfl, rfl, rfl, ?_, fun u hu => ?_⟩
      · unfold Sh at shq
        exact Nat.le_trans (show (js (n :: r)).length + 2 ≤ 1002 by omega) (by decide)
      rw [split_js qn (by simp)]
      have su := same_mk (o := .lst ((n :: r).map V.str)) hu
      refine ⟨u, _, 0, .str n, rfl, rfl, SqL.of upd_same, atI_nat (j := 0) rfl, by show 2 ≤ sizeLine; decide, fun b hb => ⟨by show 2 ≤ sizeLine; decide, fun X0 hX => ?_⟩⟩
      have sb := same_mk (o := .tup [.str "list", .str n]) hb
      have sX := same_mk (o := .lst [.ref a, .ref b]) hX
      have ha9 := (su.trans (sb.trans sX)) _ _ (upd_same (H := H6) (a := a) (o := .tup [.str "read", pV (n :: r)]))
      have hb9 := sX _ _ (upd_same (a := b) (o := .tup [.str "list", .str n]))
      have s9 := sa.trans (su.trans (sb.trans sX))
      have hX9 := upd_same (H := upd (upd (upd H6 a (.tup [.str "read", pV (n :: r)])) u (.lst ((n :: r).map V.str))) b (.tup [.str "list", .str n])) (a := X0) (o := .lst [.ref a, .ref b])
      refine ⟨X0, rfl, ⟨_, SqL.of upd_same⟩, fun R hR => ?_⟩
      have S9 := ((S6.up sa).up su |>.up sb).up sX
      generalize upd (upd (upd (upd H6 a (.tup [.str "read", pV (n :: r)])) u (.lst ((n :: r).map V.str))) b (.tup [.str "list", .str n])) X0 (.lst [.ref a, .ref b]) = H9 at ha9 hb9 s9 hR hX9 S9 ⊢
      have hkk : Ks H9 [(.ref a, .rd (n :: r)), (.ref b, .ls [n])] := fun z hz => by
        rcases List.mem_cons.mp hz with rfl | hz
        · exact ⟨a, rfl, ha9⟩
        · rw [List.mem_singleton.mp hz]
          exact ⟨b, rfl, by rw [hb9, ← js_one n]; rfl⟩
      have onk : ∀ z ∈ [((.ref a : V), Lk.rd (n :: r)), (.ref b, .ls [n])], LkOn zs 3 z.2 := fun z hz => by
        rcases List.mem_cons.mp hz with rfl | hz
        · exact ⟨by simp, g2, g3⟩
        · rw [List.mem_singleton.mp hz]
          exact ⟨by show 1 ≤ 3; decide, fun y hy => by rw [List.mem_singleton.mp hy]; exact g3 n List.mem_cons_self⟩
      have ndk : ([((.ref a : V), Lk.rd (n :: r)), (.ref b, .ls [n])].map Prod.snd).Nodup := by simp
      have lnk : [((.ref a : V), Lk.rd (n :: r)), (.ref b, .ls [n])].length = 2 := rfl
      have hXk : H9 X0 = some (.lst ([((.ref a : V), Lk.rd (n :: r)), (.ref b, .ls [n])].map Prod.fst)) := hX9
      generalize [((.ref a : V), Lk.rd (n :: r)), (.ref b, .ls [n])] = nw at hkk onk ndk lnk hXk
      have hG9 := s9 _ _ hG6
      have hk9 := hk6.tup (TupS.of s9)
      have w6 : ∀ k ∈ ks.map Prod.snd, LkW k := fun k hk => by
        obtain ⟨z, hz, rfl⟩ := List.mem_map.mp hk
        exact lkOn_w nm (by decide) (on6 z hz)
      refine lcFM (walk_list (K := K) (a := X0) (xs := nw.map Prod.fst)) nw Prod.fst Prod.fst (fun z => decide (z.2 ∉ ks.map Prod.snd)) (by rw [List.length_map]) (by rw [List.length_map]; omega) (fun i H x H' y => y) hR (fun H' s => SqL.of (s _ _ hXk)) ?_ ?_ ?_
      · intro z hz2 H10 s10 Q1 q1
        obtain ⟨t, e, ht⟩ := hkk z hz2
        have wz := lkOn_w nm (by decide) (onk z hz2)
        refine ⟨_, rfl, _, rfl, lkD z.2, (ks.map Prod.snd).map lkD, by rw [e]; exact lk_dp (s10 _ _ ht), ks_dp (s10 _ _ hG9) (hk9.tup (TupS.of s10)), lkD_shaped wz, ks_shaped w6, ?_⟩
        rw [any_lk wz w6]
        refine ⟨_, rfl, ?_⟩
        have := q1 H10 (Same.refl _)
        rw [show decide (z.2 ∉ ks.map Prod.snd) = !decide (z.2 ∈ ks.map Prod.snd) by simp] at this
        exact this
      · intro z hz2 _ H10 s10 Q1 q1
        exact ⟨_, rfl, q1 H10 (Same.refl _)⟩
      intro H10 s10 hR10
      have hG10 := s10 _ _ hG9
      have s610 := s9.trans s10
      have fsub : ∀ z ∈ nw.filter fun z => decide (z.2 ∉ ks.map Prod.snd), z ∈ nw := fun z hz => (List.mem_filter.mp hz).1
      have fnew : ∀ z ∈ nw.filter fun z => decide (z.2 ∉ ks.map Prod.snd), z.2 ∉ ks.map Prod.snd := fun z hz => by simpa using (List.mem_filter.mp hz).2
      have fl2 : (nw.filter fun z => decide (z.2 ∉ ks.map Prod.snd)).length ≤ 2 := by rw [← lnk]; exact List.length_filter_le _ _
      have fnd : ((nw.filter fun z => decide (z.2 ∉ ks.map Prod.snd)).map Prod.snd).Nodup := List.Nodup.sublist (List.filter_sublist.map _) ndk
      generalize (nw.filter fun z => decide (z.2 ∉ ks.map Prod.snd)) = kp at hR10 fsub fnew fl2 fnd
      have T10 : TupS H10 (upd H10 G (.lst (ks.map Prod.fst ++ kp.map Prod.fst))) := tupS_put hG10 fun xs z => by cases z
      refine ⟨G, R, _, _, rfl, rfl, hG10, hR10, ?_, _, _, ks ++ kp, rfl, fun b o hb nb => ?_, by rw [upd_same, List.map_append], fun z hz => ?_, ?_, fun z hz => ?_, ?_, ?_⟩
      · rw [List.length_map, List.length_map]
        exact Nat.le_trans (show ks.length + kp.length ≤ 100 by omega) (by decide)
      · rw [upd_ne nb]
        exact s610 _ _ (R6 b o hb nb)
      · rcases List.mem_append.mp hz with hz | hz
        · exact (hk9.tup (TupS.trans (TupS.of s10) T10)) z hz
        · exact (hkk.tup (TupS.trans (TupS.of s10) T10)) z (fsub z hz)
      · rw [List.length_append]
        omega
      · rcases List.mem_append.mp hz with hz | hz
        · exact on6 z hz
        · exact onk z (fsub z hz)
      · rw [List.map_append, List.nodup_append]
        refine ⟨nd6, fnd, fun x hx y hy e => ?_⟩
        obtain ⟨zk, hz, rfl⟩ := List.mem_map.mp hy
        exact fnew zk hz (e ▸ hx)
      · exact (S9.up s10).put nG
    · rintro _ H6 ⟨x5, x6, ks, rfl, R6, hG6, hk6, kl6, on6, nd6, S6⟩
      rw [List.length_map] at kl6
      have B26 : But st l H H6 := fun b o hb n1 n2 => by
        have h2 := B2 _ _ (B1 _ _ hb n1 n2) n1 n2
        refine R6 _ _ (B25 _ _ h2 n1 n2) fun e => ?_
        have := B1 _ _ hb n1 n2
        rw [e, hG0] at this
        cases this
      have wa5 : WAt H5 x fs ss z := wa_but wa2 S2 B25
      have wa6 : WAt H6 x fs ss z := by
        have kk : ∀ {b : Addr} {kv : List (L2.Key × V)}, H5 b = some (.dK kv) → H6 b = some (.dK kv) := fun {b kv} hb => R6 _ _ hb (ne_of hb hG5 (by intro z; cases z))
        obtain ⟨d, e, q1, q2, q3⟩ := wa5
        exact ⟨d, e, kk q1, kk q2, kk q3⟩
      refine ⟨_, rfl, _, rfl, _, rfl, _, rfl, V × Lk, Prod.fst, st, l, G, c2 + (fs.map (·.1)).length, ks, rfl, S6, by rw [List.length_map]; omega, hG6, by omega, fun M2 ks2 H7 pm2 hM2 hM7 n1 n2 B7 S7 => ?_⟩
      refine ⟨_, rfl, _, rfl, M2, _, rfl, SqL.of hM7, fun W2 hW2 => ?_⟩
      obtain ⟨m, rfl⟩ := Int.eq_ofNat_of_zero_le m0
      rw [cut_take, ← List.map_take]
      have s8 := same_mk (o := .lst ((ks2.take m).map Prod.fst)) hW2
      have hW8 := upd_same (H := H7) (a := W2) (o := .lst ((ks2.take m).map Prod.fst))
      have B68 : But st l H6 (upd H7 W2 (.lst ((ks2.take m).map Prod.fst))) := fun b o hb n1 n2 => s8 _ _ (B7 _ _ hb n1 n2)
      have S8 := S7.up s8
      generalize upd H7 W2 (.lst ((ks2.take m).map Prod.fst)) = H8 at s8 hW8 B68 S8 ⊢
      have T68 := tup_but S6 B68
      have wa8 := wa_but wa6 S6 B68
      have sub : ∀ z ∈ ks2.take m, z ∈ ks := fun z hz => pm2.mem_iff.mp (List.mem_of_mem_take hz)
      have tl : (ks2.take m).length ≤ m := by rw [List.length_take]; omega
      refine ⟨x, W2, zs, fs, ss, z, ks2.take m, rfl, wa8, hW8, fun z hz => (hk6.tup T68) z (sub z hz), by omega, fun z hz => on6 z (sub z hz), g, gs, nm, fl, tz, fun L2 sg H9 s9 hL9 hL80 em hsg => ⟨by show 2 ≤ sizeLine; decide, fun t ht => ?_⟩⟩
      have s10 := same_mk (o := .tup [V.ref x, .ref L2]) ht
      have esl : sg.length = (ks2.take m).length := by
        have := congrArg List.length em
        rw [List.length_map, List.length_map] at this
        exact this
      have B8 : But st l H H8 := fun b o hb n1 n2 => B68 _ _ (B26 _ _ hb n1 n2) n1 n2
      have HL : H L2 = none := by
        cases e : H L2 with
        | none => rfl
        | some o =>
          have nL := S8.ne_new hL80
          have := B8 _ _ e nL.1 nL.2
          rw [hL80] at this
          cases this
      refine k t x L2 fs ss z sg _ _ upd_same (hL9.up s10) (by omega) ?_ hsg (fun s hs => ?_) ((wa8.same s9).same s10) g fl gs sl tz HL (fun b o hb n1 n2 => s10 _ _ (s9 _ _ (B8 _ _ hb n1 n2))) ((S8.up s9).up s10) ?_
      · rw [em]
        refine List.Nodup.sublist ?_ ((pm2.map Prod.snd).nodup_iff.mpr nd6)
        rw [List.map_take]
        exact List.take_sublist m _
      · have : s.1 ∈ (ks2.take m).map Prod.snd := by
          rw [← em]
          exact List.mem_map_of_mem hs
        obtain ⟨zk, hz, e⟩ := List.mem_map.mp this
        rw [← e]
        exact on6 zk (sub zk hz)
      · rw [List.length_map]
        have := m1
        have c6 : (6 : Nat) * (m : Int).toNat ≤ 72 := by omega
        omega
end
end R3

set_option maxHeartbeats 3900000
namespace R3
open PySem PySem.Spec PyProof.Rows L2 TL
/-! the text of a run, and what it tells -/
def mkS (l : List Nat) : Str := ⟨l.toArray⟩
theorem tl_mkS (l : List Nat) : tl (mkS l) = l := rfl
theorem starts_cons (c : Nat) (l : List Nat) : Txt.startswith (mkS (c :: l)) (mkS [c]) = true := by
  unfold Txt.startswith Builtin.Str.subAt mkS
  simp [Str.length]
theorem starts_ne {c d : Nat} (l : List Nat) (h : d ≠ c) : Txt.startswith (mkS (d :: l)) (mkS [c]) = false := by
  unfold Txt.startswith Builtin.Str.subAt mkS
  simp [Str.length, h]
theorem ends_snoc (c : Nat) (l : List Nat) : Txt.endswith (mkS (l ++ [c])) (mkS [c]) = true := by
  unfold Txt.endswith Builtin.Str.subAt mkS
  simp [Str.length]
theorem cut_mid (a b : Nat) (l : List Nat) : cutS (mkS (a :: (l ++ [b]))) (some 1) (some (-1)) = mkS l := by
  have e : ∀ n : Nat, HT.sIx (n + 2) 0 (some 1) = 1 ∧ HT.sIx (n + 2) (n + 2) (some (-1)) = n + 1 := by
    intro n
    unfold HT.sIx
    constructor
    · simp <;> omega
    · simp <;> omega
  unfold cutS mkS
  have hl : (⟨(a :: (l ++ [b])).toArray⟩ : Str).length = l.length + 2 := by simp [Str.length]
  rw [hl, (e _).1, (e _).2]
  simp
theorem mem_joinL {S : List Nat} {c : Nat} : ∀ {ps : List (List Nat)}, c ∈ joinL S ps → c ∈ S ∨ ∃ p ∈ ps, c ∈ p
  | [], h => by simp [joinL] at h
  | [p], h => by
    have h : c ∈ p := by simpa [joinL] using h
    exact .inr ⟨p, List.mem_cons_self, h⟩
  | p :: q :: r, h => by
    have h : c ∈ p ++ (S ++ joinL S (q :: r)) := by simpa [joinL] using h
    rcases List.mem_append.mp h with h | h
    · exact .inr ⟨p, List.mem_cons_self, h⟩
    · rcases List.mem_append.mp h with h | h
      · exact .inl h
      · rcases mem_joinL h with h | ⟨x, hx, hc⟩
        · exact .inl h
        · exact .inr ⟨x, List.mem_cons_of_mem _ hx, hc⟩
theorem tl_tjoin (y : Str) (ps : List Str) : tl (Txt.join y ps) = joinL (tl y) (ps.map tl) := by rw [join_eq, tl_join]
theorem js_chars {p : List Str} (h : Nms p) : ∀ c ∈ tl (js p), c = 47 ∨ (97 ≤ c ∧ c ≤ 122) := fun c hc => by
  rw [tl_tjoin, tl_sl] at hc
  rcases mem_joinL hc with h1 | ⟨x, hx, hc⟩
  · exact .inl (List.mem_singleton.mp h1)
  · obtain ⟨y, hy, rfl⟩ := List.mem_map.mp hx
    exact .inr ((h y hy).2.2 c hc)
/-- the text of a look, of an answer -/
def whT : Lk → Str
  | .rd p => js p
  | .ls p => if p = [] then "/" else js p
  | .se n => n
  | .tl => ""
def wdT : Lk → Str
  | .rd _ => "read"
  | .ls _ => "list"
  | .se _ => "setting"
  | .tl => "tool"
def lkT (k : Lk) : Str := if k = .tl then "tool" else wdT k ++ " " ++ whT k
def anT : An → Str
  | .no => "-"
  | .tx z => "\"" ++ z ++ "\""
  | .es l => "(" ++ Txt.join " " (l.map fun e => ent e.1 e.2) ++ ")"
def lineT (s : Sg) : Str := lkT s.1 ++ " : " ++ anT s.2
def endT (y : Str) : Str := "end" ++ " : " ++ anT (.tx y)
def runT (sg : List Sg) (y : Str) : Str := Txt.join "\n" (sg.map lineT ++ [endT y])
def GoodA : An → Prop
  | .no => True
  | .tx z => 10 ∉ tl z ∧ z.length ≤ 20
  | .es l => (∀ e ∈ l, IsNm e.1) ∧ l.length ≤ 20
theorem lk_chars {k : Lk} (h : LkOk k) : ∀ c ∈ tl (lkT k), c = 32 ∨ c = 47 ∨ (97 ≤ c ∧ c ≤ 122) := by
  have w : ∀ k, ∀ c ∈ tl (wdT k), 97 ≤ c ∧ c ≤ 122 := by
    intro k
    cases k
    · show ∀ c ∈ tl ("read" : Str), 97 ≤ c ∧ c ≤ 122
      decide +kernel
    · show ∀ c ∈ tl ("list" : Str), 97 ≤ c ∧ c ≤ 122
      decide +kernel
    · show ∀ c ∈ tl ("setting" : Str), 97 ≤ c ∧ c ≤ 122
      decide +kernel
    · show ∀ c ∈ tl ("tool" : Str), 97 ≤ c ∧ c ≤ 122
      decide +kernel
  have b : tl (" " : Str) = [32] := by decide +kernel
  intro c hc
  unfold lkT at hc
  by_cases e : k = .tl
  · rw [if_pos e] at hc
    exact .inr (.inr (w .tl c hc))
  · rw [if_neg e, tl_append, tl_append, b] at hc
    rcases List.mem_append.mp hc with hc | hc
    · rcases List.mem_append.mp hc with hc | hc
      · exact .inr (.inr (w k c hc))
      · exact .inl (List.mem_singleton.mp hc)
    · right
      cases k with
      | rd p => exact js_chars h.2.1 c hc
      | ls p =>
        have hc : c ∈ tl (if p = [] then ("/" : Str) else js p) := hc
        by_cases ep : p = []
        · rw [if_pos ep, tl_sl] at hc
          exact .inl (List.mem_singleton.mp hc)
        · rw [if_neg ep] at hc
          exact js_chars h.1 c hc
      | se n => exact .inr (h.2.2 c hc)
      | tl => exact absurd rfl e
theorem pre3 {L : List Nat} (h : pre [32, 58, 32] L = true) : L[1]? = some 58 := by
  unfold pre at h
  have h := eq_of_beq h
  have e : (L.take 3)[1]? = L[1]? := by rw [List.getElem?_take]; simp
  rw [← e]
  show (L.take ([32, 58, 32] : List Nat).length)[1]? = some 58
  rw [h]
  rfl
theorem part_line {a b : Str} (h : 58 ∉ tl a) : Txt.partition (a ++ " : " ++ b) " : " = (a, (" : " : Str), b) := by
  have ey : tl (" : " : Str) = [32, 58, 32] := by decide +kernel
  rw [partition_par _ _ (by rw [ey]; simp), tl_append, tl_append, List.append_assoc, ey]
  have q : par [32, 58, 32] [] (tl a ++ ([32, 58, 32] ++ tl b)) = some ([] ++ tl a, tl b) := par_part (by simp) fun i hi => by
    rw [Bool.eq_false_iff]
    intro hp
    have g := pre3 hp
    rw [List.getElem?_drop] at g
    by_cases lt : i + 1 < (tl a).length
    · rw [List.getElem?_append_left lt] at g
      exact h (List.mem_of_getElem? g)
    · rw [List.getElem?_append_right (by omega), show i + 1 - (tl a).length = 0 by omega] at g
      simp at g
  rw [q]
  show ((⟨([] ++ tl a).toArray⟩ : Str), (" : " : Str), (⟨(tl b).toArray⟩ : Str)) = _
  rw [List.nil_append, mk_tl, mk_tl]
theorem no58 {k : Lk} (h : LkOk k) : 58 ∉ tl (lkT k) := fun m => by have := lk_chars h 58 m; omega
theorem no10k {k : Lk} (h : LkOk k) : 10 ∉ tl (lkT k) := fun m => by have := lk_chars h 10 m; omega
theorem an_tl : tl ("-" : Str) = [45] ∧ tl ("\"" : Str) = [34] ∧ tl ("(" : Str) = [40] ∧ tl (")" : Str) = [41] ∧ tl (" " : Str) = [32] ∧ tl ("\n" : Str) = [10] ∧ tl (" : " : Str) = [32, 58, 32] ∧ tl ("end" : Str) = [101, 110, 100] := by decide +kernel
theorem ent_chars {n : Str} (h : IsNm n) (b : Bool) : ∀ c ∈ tl (ent n b), c = 47 ∨ (97 ≤ c ∧ c ≤ 122) := fun c hc => by
  rw [tl_ent] at hc
  rcases List.mem_append.mp hc with hc | hc
  · exact .inr (h.2.2 c hc)
  · cases b
    · simp at hc
    · simp at hc
      exact .inl hc
theorem no10a {a : An} (h : GoodA a) : 10 ∉ tl (anT a) := fun m => by
  obtain ⟨q1, q2, q3, q4, q5, _⟩ := an_tl
  cases a with
  | no =>
    have m : 10 ∈ tl ("-" : Str) := m
    rw [q1] at m
    simp at m
  | tx z =>
    have m : 10 ∈ tl ("\"" ++ z ++ "\"" : Str) := m
    rw [tl_append, tl_append, q2] at m
    have hz := h.1
    simp [hz] at m
  | es l =>
    have m : 10 ∈ tl ("(" ++ Txt.join " " (l.map fun e => ent e.1 e.2) ++ ")" : Str) := m
    rw [tl_append, tl_append, q3, q4, tl_tjoin, q5] at m
    rcases List.mem_append.mp m with m | m
    · rcases List.mem_append.mp m with m | m
      · simp at m
      · rcases mem_joinL m with m | ⟨x, hx, hc⟩
        · simp at m
        · rw [List.map_map] at hx
          obtain ⟨e, he, rfl⟩ := List.mem_map.mp hx
          have := ent_chars (h.1 e he) e.2 10 hc
          omega
    · simp at m
theorem no10l {s : Sg} (h : LkOk s.1) (g : GoodA s.2) : 10 ∉ tl (lineT s) := fun m => by
  obtain ⟨_, _, _, _, _, _, q7, _⟩ := an_tl
  unfold lineT at m
  rw [tl_append, tl_append, q7] at m
  have h1 := no10k h
  have h2 := no10a g
  simp [h1, h2] at m
theorem no10e {y : Str} (g : 10 ∉ tl y) : 10 ∉ tl (endT y) := fun m => by
  obtain ⟨_, q2, _, _, _, _, q7, q8⟩ := an_tl
  unfold endT at m
  have e : tl (anT (.tx y)) = [34] ++ tl y ++ [34] := by
    show tl ("\"" ++ y ++ "\"" : Str) = _
    rw [tl_append, tl_append, q2]
  rw [tl_append, tl_append, q7, q8, e] at m
  simp [g] at m
theorem split_run {sg : List Sg} {y : Str} (h : ∀ s ∈ sg, LkOk s.1 ∧ GoodA s.2) (g : 10 ∉ tl y) : Txt.split (runT sg y) "\n" = sg.map lineT ++ [endT y] := by
  refine split_join (s := 10) (S := []) (by decide +kernel) (by decide +kernel) (by simp) fun p hp => ?_
  rcases List.mem_append.mp hp with hp | hp
  · obtain ⟨s, hs, rfl⟩ := List.mem_map.mp hp
    exact no10l (h s hs).1 (h s hs).2
  · rw [List.mem_singleton] at hp
    rw [hp]
    exact no10e g
theorem part_sg {s : Sg} (h : LkOk s.1) : Txt.partition (lineT s) " : " = (lkT s.1, (" : " : Str), anT s.2) := part_line (no58 h)
theorem part_end (y : Str) : Txt.partition (endT y) " : " = (("end" : Str), (" : " : Str), anT (.tx y)) := part_line (by decide +kernel)
end R3

set_option maxHeartbeats 3900000
namespace R3
open PySem PySem.Spec PyProof.Rows L2 TL
theorem q_mk : ("\"" : Str) = mkS [34] ∧ ("(" : Str) = mkS [40] ∧ (")" : Str) = mkS [41] ∧ ("-" : Str) = mkS [45] := by decide +kernel
theorem tx_mk (z : Str) : anT (.tx z) = mkS (34 :: (tl z ++ [34])) := ext_tl (by
  show tl ("\"" ++ z ++ "\"" : Str) = _
  rw [tl_append, tl_append, an_tl.2.1, tl_mkS]
  simp)
abbrev eS (l : List (Str × Bool)) : List Str := l.map fun e => ent e.1 e.2
theorem es_mk (l : List (Str × Bool)) : anT (.es l) = mkS (40 :: (tl (Txt.join " " (eS l)) ++ [41])) := ext_tl (by
  show tl ("(" ++ Txt.join " " (eS l) ++ ")" : Str) = _
  rw [tl_append, tl_append, an_tl.2.2.1, an_tl.2.2.2.1, tl_mkS]
  simp)
def btw (x q r : Str) : Bool := decide (1 < x.length) && (Txt.startswith x q && Txt.endswith x r)
theorem mkS_len (l : List Nat) : (mkS l).length = l.length := by simp [mkS, Str.length]
theorem btw_tx (z : Str) : btw (anT (.tx z)) "\"" "\"" = true := by
  unfold btw
  rw [tx_mk, q_mk.1, starts_cons, show (34 :: (tl z ++ [34])) = (34 :: tl z) ++ [34] from rfl, ends_snoc, mkS_len]
  simp
theorem btw_es (l : List (Str × Bool)) : btw (anT (.es l)) "\"" "\"" = false ∧ btw (anT (.es l)) "(" ")" = true := by
  unfold btw
  rw [es_mk, q_mk.1, q_mk.2.1, q_mk.2.2.1, starts_ne _ (show (40 : Nat) ≠ 34 by decide), starts_cons, show (40 :: (tl (Txt.join " " (eS l)) ++ [41])) = (40 :: tl (Txt.join " " (eS l))) ++ [41] from rfl, ends_snoc, mkS_len]
  simp
theorem mkS_inj {l m : List Nat} (h : mkS l = mkS m) : l = m := by
  have := congrArg tl h
  rwa [tl_mkS, tl_mkS] at this
theorem tx_ne (z : Str) : anT (.tx z) ≠ "-" := fun e => by
  rw [tx_mk, q_mk.2.2.2] at e
  have := mkS_inj e
  simp at this
theorem es_ne (l : List (Str × Bool)) : anT (.es l) ≠ "-" := fun e => by
  rw [es_mk, q_mk.2.2.2] at e
  have := mkS_inj e
  simp at this
theorem cut_tx (z : Str) : cutS (anT (.tx z)) (some 1) (some (-1)) = z := by rw [tx_mk, cut_mid]; exact mk_tl z
theorem cut_es (l : List (Str × Bool)) : cutS (anT (.es l)) (some 1) (some (-1)) = Txt.join " " (eS l) := by rw [es_mk, cut_mid]; exact mk_tl _
theorem ent_ne {n : Str} (h : IsNm n) (b : Bool) : tl (ent n b) ≠ [] := fun e => by
  rw [tl_ent] at e
  exact nm_ne h (List.append_eq_nil_iff.mp e).1
theorem joinE_nil {l : List (Str × Bool)} (h : ∀ e ∈ l, IsNm e.1) : Txt.join " " (eS l) = "" ↔ l = [] := by
  constructor
  · intro e
    cases l with
    | nil => rfl
    | cons x r =>
      exfalso
      have e := congrArg tl e
      rw [tl_tjoin, show tl ("" : Str) = [] from by decide +kernel] at e
      have hx := ent_ne (h x List.mem_cons_self) x.2
      cases r with
      | nil =>
        exact hx e
      | cons y r =>
        exact hx (List.append_eq_nil_iff.mp e).1
  · intro e
    subst e
    decide +kernel
theorem split_es {l : List (Str × Bool)} (h : ∀ e ∈ l, IsNm e.1) (ne : l ≠ []) : Txt.split (Txt.join " " (eS l)) " " = eS l := by
  refine split_join (s := 32) (S := []) (by decide +kernel) (by decide +kernel) (by simpa using ne) fun p hp m => ?_
  obtain ⟨e, he, rfl⟩ := List.mem_map.mp hp
  have := ent_chars (h e he) e.2 32 m
  omega
theorem es_inj {l m : List (Str × Bool)} (h : ∀ e ∈ l, IsNm e.1) (h' : ∀ e ∈ m, IsNm e.1) (e : eS l = eS m) : l = m := by
  induction l generalizing m with
  | nil =>
    cases m with
    | nil => rfl
    | cons => simp at e
  | cons x r ih =>
    cases m with
    | nil => simp at e
    | cons y s =>
      have e : ent x.1 x.2 :: eS r = ent y.1 y.2 :: eS s := e
      injection e with e1 e2
      obtain ⟨a, b⟩ := ent_inj (h x List.mem_cons_self) (h' y List.mem_cons_self) e1
      rw [ih (fun z hz => h z (List.mem_cons_of_mem _ hz)) (fun z hz => h' z (List.mem_cons_of_mem _ hz)) e2, show x = y from Prod.ext a b]
theorem an_inj {a b : An} (h : GoodA a) (h' : GoodA b) (e : anT a = anT b) : a = b := by
  have n : anT .no = mkS [45] := q_mk.2.2.2
  cases a <;> cases b
  · rfl
  · exact absurd e.symm (tx_ne _)
  · exact absurd e.symm (es_ne _)
  · exact absurd e (tx_ne _)
  · rename_i z y
    have : cutS _ (some 1) (some (-1)) = cutS _ (some 1) (some (-1)) := congrArg (fun x => cutS x (some 1) (some (-1))) e
    rw [cut_tx, cut_tx] at this
    rw [this]
  · rename_i z l
    rw [tx_mk, es_mk] at e
    have := mkS_inj e
    simp at this
  · exact absurd e (es_ne _)
  · rename_i l z
    rw [tx_mk, es_mk] at e
    have := mkS_inj e
    simp at this
  · rename_i l m
    have : cutS _ (some 1) (some (-1)) = cutS _ (some 1) (some (-1)) := congrArg (fun x => cutS x (some 1) (some (-1))) e
    rw [cut_es, cut_es] at this
    by_cases e1 : l = []
    · subst e1
      rw [show Txt.join " " (eS []) = "" from by decide +kernel] at this
      rw [(joinE_nil h'.1).mp this.symm]
    · have e2 : m ≠ [] := fun e2 => by
        subst e2
        rw [show Txt.join " " (eS []) = "" from by decide +kernel] at this
        exact e1 ((joinE_nil h.1).mp this)
      have q : Txt.split _ " " = Txt.split _ " " := congrArg (fun x => Txt.split x " ") this
      rw [split_es h.1 e1, split_es h'.1 e2] at q
      rw [es_inj h.1 h'.1 q]
def ptT : Lk → Str
  | .rd p => js p
  | .ls p => js p
  | .se n => n
  | .tl => ""
theorem lkV_pt {k : Lk} (h : k ≠ .tl) : lkV k = [.str (wdT k), .str (ptT k)] := by
  cases k
  · rfl
  · rfl
  · rfl
  · exact absurd rfl h
theorem part_lk {k : Lk} (h : k ≠ .tl) : Txt.partition (lkT k) " " = (wdT k, (" " : Str), whT k) := by
  unfold lkT
  rw [if_neg h]
  refine partition_app (s := 32) (S := []) (by decide +kernel) ?_
  cases k
  · show 32 ∉ tl ("read" : Str); decide +kernel
  · show 32 ∉ tl ("list" : Str); decide +kernel
  · show 32 ∉ tl ("setting" : Str); decide +kernel
  · exact absurd rfl h
theorem slash_js {p : List Str} (hp : Nms p) : js p ≠ "/" := fun e => by
  have e2 := congrArg tl e
  rw [tl_js, tl_sl] at e2
  have := jl_head hp
  rw [e2] at this
  simp at this
theorem slash_nm {n : Str} (h : IsNm n) : n ≠ "/" := fun e => by
  have := h.2.2 47 (by rw [e, tl_sl]; simp)
  omega
theorem wh_ne {k : Lk} (ok : LkOk k) (h : k ≠ .tl) : whT k ≠ "" := by
  cases k with
  | rd p => exact js_ne ok.2.1 ok.1
  | ls p =>
    show (if p = [] then ("/" : Str) else js p) ≠ ""
    by_cases e : p = []
    · rw [if_pos e]; decide +kernel
    · rw [if_neg e]; exact js_ne ok.1 e
  | se n => exact fun e => nm_ne ok (by show tl n = []; rw [show n = "" from e]; rfl)
  | tl => exact absurd rfl h
theorem wh_pt {k : Lk} (ok : LkOk k) (h : k ≠ .tl) : (if whT k = "/" then ("" : Str) else whT k) = ptT k := by
  cases k with
  | rd p => exact if_neg (slash_js ok.2.1)
  | ls p =>
    show (if (if p = [] then ("/" : Str) else js p) = "/" then ("" : Str) else (if p = [] then ("/" : Str) else js p)) = js p
    by_cases e : p = []
    · subst e
      rw [if_pos rfl, if_pos rfl]
      rfl
    · rw [if_neg e, if_neg (slash_js ok.1)]
  | se n => exact if_neg (slash_nm ok)
  | tl => exact absurd rfl h
theorem lk_tool {k : Lk} : lkT k = "tool" ↔ k = .tl := by
  constructor
  · intro e
    by_cases h : k = .tl
    · exact h
    · exfalso
      unfold lkT at e
      rw [if_neg h] at e
      have m : 32 ∈ tl (wdT k ++ " " ++ whT k) := by rw [tl_append, tl_append, an_tl.2.2.2.2.1]; simp
      rw [e] at m
      revert m
      decide +kernel
  · intro e
    subst e
    rfl
theorem wd_ne : ("read" : Str) ≠ "list" ∧ ("read" : Str) ≠ "setting" ∧ ("list" : Str) ≠ "setting" := by decide +kernel
theorem lk_inj {k k' : Lk} (h : LkOk k) (h' : LkOk k') (e : lkT k = lkT k') : k = k' := by
  by_cases h1 : k = .tl
  · rw [h1] at e ⊢
    exact (lk_tool.mp (e.symm.trans (lk_tool.mpr rfl))).symm
  · have h2 : k' ≠ .tl := fun q => h1 (lk_tool.mp (e.trans (lk_tool.mpr q)))
    have p1 := part_lk h1
    rw [e, part_lk h2] at p1
    injection p1 with a b
    injection b with _ b
    have c := wh_pt h h1
    rw [← b, wh_pt h' h2] at c
    cases k <;> cases k'
    · exact congrArg _ (js_inj h.2.1 h'.2.1 c.symm)
    · exact absurd a.symm wd_ne.1
    · exact absurd a.symm wd_ne.2.1
    · exact absurd rfl h2
    · exact absurd a wd_ne.1
    · exact congrArg _ (js_inj h.1 h'.1 c.symm)
    · exact absurd a.symm wd_ne.2.2
    · exact absurd rfl h2
    · exact absurd a wd_ne.2.1
    · exact absurd a wd_ne.2.2
    · exact congrArg _ c.symm
    · exact absurd rfl h2
    · exact absurd rfl h1
    · exact absurd rfl h1
    · exact absurd rfl h1
    · rfl
theorem line_inj {s t : Sg} (h : LkOk s.1 ∧ GoodA s.2) (h' : LkOk t.1 ∧ GoodA t.2) (e : lineT s = lineT t) : s = t := by
  have p := part_sg h.1
  rw [e, part_sg h'.1] at p
  injection p with a b
  injection b with _ b
  exact Prod.ext (lk_inj h.1 h'.1 a.symm) (an_inj h.2 h'.2 b.symm)
theorem run_inj {sg sg' : List Sg} {y y' : Str} (h : ∀ s ∈ sg, LkOk s.1 ∧ GoodA s.2) (h' : ∀ s ∈ sg', LkOk s.1 ∧ GoodA s.2) (g : 10 ∉ tl y) (g' : 10 ∉ tl y') (e : runT sg y = runT sg' y') : sg = sg' ∧ y = y' := by
  have q : Txt.split _ "\n" = Txt.split _ "\n" := congrArg (fun x => Txt.split x "\n") e
  rw [split_run h g, split_run h' g'] at q
  obtain ⟨a, b⟩ := List.append_inj' q rfl
  constructor
  · clear e q b g g'
    induction sg generalizing sg' with
    | nil =>
      cases sg' with
      | nil => rfl
      | cons => simp at a
    | cons x r ih =>
      cases sg' with
      | nil => simp at a
      | cons z s =>
        rw [List.map_cons, List.map_cons] at a
        injection a with a1 a2
        rw [ih (fun q hq => h q (List.mem_cons_of_mem _ hq)) (fun q hq => h' q (List.mem_cons_of_mem _ hq)) a2, line_inj (h x List.mem_cons_self) (h' z List.mem_cons_self) a1]
  · injection b with b
    have p := part_end y
    rw [b, part_end y'] at p
    injection p with _ p
    injection p with _ p
    rw [tx_mk, tx_mk] at p
    have := mkS_inj p
    injection this with _ this
    exact ext_tl (List.append_cancel_right this).symm
end R3

set_option maxHeartbeats 3900000
namespace R3
open PySem PySem.Spec PyProof.Rows L2 TL
open C8 (pss_cut tCut pe_gc)
open CB XW MS
abbrev sRIni : Stmt := inClass (top 39) 0
abbrev sRLen : Stmt := inClass (top 39) 3
abbrev sREq : Stmt := inClass (top 39) 4
structure RCl (K : PySem.W.Frag) (mg : Str → Option Value) (C : Addr) : Prop where
  mg : mg "Run" = some (.ref C)
  cl : Cls K C
  n1 : NoAttr K C "sights"
  n2 : NoAttr K C "outcome"
structure ClIs (K : PySem.W.Frag) (C : Addr) : Prop where
  ha : PySem.W.findIn K (.ref C) "__class__" = some (some (.builtin "object.__class__"))
  hn : PySem.W.specialIn K (.builtin "object.__class__") "__get__" = some (some (.builtin "getset_descriptor.__get__"))
  ht : PySem.W.takesIn K (.builtin "object.__class__") = some true
  hm : PySem.W.mroIn K C (.type "object") = some true
  kC : PySem.W.kitOne K (.ref C) (.ref C) = some true
def SisT (H : Hp) (t : Addr) (ss : List (Lk × An)) : Prop := ∃ vs : List V, H t = some (.tup vs) ∧ vs.length = ss.length ∧ ∀ (i : Nat) (v : V) (s : Lk × An), vs[i]? = some v → ss[i]? = some s → SiAt H v s
theorem SisT.up {H H' : Hp} {t : Addr} {ss : List (Lk × An)} (h : SisT H t ss) (s : Same H H') : SisT H' t ss := by
  obtain ⟨vs, h1, h2, h3⟩ := h
  exact ⟨vs, s _ _ h1, h2, fun i v x a b => (h3 i v x a b).up s⟩
theorem SisT.tup {H H' : Hp} {t : Addr} {ss : List (Lk × An)} (h : SisT H t ss) (s : TupS H H') : SisT H' t ss := by
  obtain ⟨vs, h1, h2, h3⟩ := h
  exact ⟨vs, s _ _ h1, h2, fun i v x a b => (h3 i v x a b).tup s⟩
/-- a run stands at o -/
def RnAt (C : Addr) (H : Hp) (o : Addr) (ss : List (Lk × An)) (z : Str) : Prop := ∃ dx t, H o = some (.ins C dx [(("sights" : Str), .ref t), ("outcome", .str z)]) ∧ SisT H t ss
theorem RnAt.up {C : Addr} {H H' : Hp} {o : Addr} {ss : List (Lk × An)} {z : Str} (h : RnAt C H o ss z) (s : Same H H') : RnAt C H' o ss z := by
  obtain ⟨dx, t, h1, h2⟩ := h
  exact ⟨dx, t, s _ _ h1, h2.up s⟩
theorem lk_r1 (u v : V) : List.lookup ("sights" : Str) [(("sights" : Str), u), ("outcome", v)] = some u := by simp [List.lookup]
theorem lk_r2 (u v : V) : List.lookup ("outcome" : Str) [(("sights" : Str), u), ("outcome", v)] = some v := by
  have h1 : (("outcome" : Str) == ("sights" : Str)) = false := by decide +kernel
  have h2 : (("outcome" : Str) == ("outcome" : Str)) = true := by decide +kernel
  simp only [List.lookup, h1, h2]
def ButO (o : Addr) (H H' : Hp) : Prop := ∀ b u, H b = some u → b ≠ o → H' b = some u
/-- what the making of a run asks: H0 is the heap of which the errors speak -/
def RMk (CS CA : Addr) (H0 H : Hp) (xs : List V) (os : List (Option (Lk × An))) (E : XK) (Q : List (Lk × An) → Prop) : Prop := Sgs H xs os ∧ os.length ≤ 1000 ∧
  ((∃ i, Bad os i ∧ EWant H0 "index" CS (.int (i : Int)) E) ∨ ∃ ss : List (Lk × An), os = ss.map some ∧ (ss.map (·.1)).Nodup ∧ ∀ oo, FstAp ss oo → (oo = none → Q ss) ∧ ∀ p, oo = some p → EWant2 H0 "first" "second" CA (.int (p.1 : Int)) (.int (p.2 : Int)) E)
def spRIni (C CS CA : Addr) : Sp := fun vs H Q E => ∃ o dx v xs os z, vs = [.ref o, v, .str z] ∧ H o = some (.ins C dx []) ∧ RowAt H v xs ∧
  RMk CS CA H H xs os E fun ss => ∀ H', ButO o H H' → RnAt C H' o ss z → Q .non H'
def spRLen (C : Addr) : Sp := fun vs H Q _ => ∃ o ss z, vs = [.ref o] ∧ RnAt C H o ss z ∧ Q (.int (ss.length : Int)) H
def spREq (C : Addr) : Sp := fun vs H Q _ => ∃ o o2 ss ss' z z', vs = [.ref o, .ref o2] ∧ RnAt C H o ss z ∧ RnAt C H o2 ss' z' ∧ (∀ s ∈ ss, SiW s) ∧ (∀ s ∈ ss', SiW s) ∧ Q (.bl (decide (ss = ss' ∧ z = z'))) H
theorem sis_shaped {ss : List (Lk × An)} (h : ∀ s ∈ ss, SiW s) : SeqAt.shaped (.tuple (ss.map siD)) = true := by
  refine shaped_mk (by simp only [PyData.canLay0]; exact lay_sis h) ?_
  have := dep_sis ss
  simp only [PyData.depth]
  omega
theorem eqv_sis : ∀ {l m : List (Lk × An)}, (∀ s ∈ l, SiW s) → (∀ s ∈ m, SiW s) → PyData.eqvAll (l.map siD) (m.map siD) = decide (l = m)
  | [], [], _, _ => by simp [PyData.eqvAll]
  | [], z :: m, _, _ => by simp [PyData.eqvAll]
  | y :: l, [], _, _ => by simp [PyData.eqvAll]
  | y :: l, z :: m, h, h' => by
    have ih := eqv_sis (fun x hx => h x (List.mem_cons_of_mem y hx)) fun x hx => h' x (List.mem_cons_of_mem z hx)
    have e := eqv_si (h y List.mem_cons_self) (h' z List.mem_cons_self)
    simp only [List.map_cons, PyData.eqvAll, e, ih]
    by_cases h1 : y = z
    · subst h1
      simp
    · simp [h1]
section
variable {P : Program} {w : World} {K : PySem.W.Frag} {mg : Str → Option Value} {base : Heap} {C CS CA : Addr}
theorem scRIni : FnScope ["self", "sights", "outcome", "plain"] ["self", "sights", "outcome"] (defScope sRIni) := ⟨rfl, rfl, rfl, by decide +kernel, rfl, by decide +kernel, by decide +kernel⟩
theorem ok_rini {f fS fT : Addr} {fd fdS fdT : FuncData} (F : Fun K "__init__" "Run.__init__" sRIni f fd) (T : TB mg) (R : RCl K mg C) (aSOR : At K mg "sights_of_run" fS fdS ["things"]) (GSOR : FnOk P w K mg base (CX P w) 7 fS fdS ["things"] (spSOR CS))
    (aTog : At K mg "check_together" fT fdT ["plain"]) (GTog : FnOk P w K mg base (CX P w) 9 fT fdT ["plain"] (spTog CA)) : FnOk P w K mg base (CX P w) 10 f fd ["self", "sights", "outcome"] (spRIni C CS CA) := by
  refine F.okX scRIni (fun vs H Q E h => ?_) (fun cdv A outer s H vs Q E hr h => ?_)
  · obtain ⟨o, dx, v, xs, os, z, rfl, _⟩ := h
    rfl
  · obtain ⟨o, dx, v, xs, os, z, rfl, ho, hv, hx, hl, k⟩ := h
    refine ⟨_, pss_cons (ps_set (i := 3) scRIni.nd rfl (Or.inl rfl) (pe_call GSOR (hr.mono (by decide)) rfl aSOR.m aSOR.k aSOR.b .nil (passes_call (takes_of rfl rfl rfl rfl) (fun _ _ _ _ h => h)) (pa_cons (pv 1) pa_nil)))
            (pss_cons (ps_expr (pe_call GTog (hr.mono (by decide)) rfl aTog.m aTog.k aTog.b .nil (passes_call (takes_of rfl rfl rfl rfl) (fun _ _ _ _ h => h)) (pa_cons (pv 3) pa_nil)))
            (pss_cons (ps_fld (pv 0) (pe_callTy call_tuple_of (by rfl) T.tuple (by decide +kernel) (pa_cons (pv 3) pa_nil)) rfl)
            (pss_one (ps_fld (pv 0) (pv 2) rfl)))), ?_⟩
    refine ⟨_, rfl, v, xs, os, rfl, hv, hx, hl, ?_⟩
    rcases k with ⟨i, bad, want⟩ | ⟨ss, rfl, nd, k⟩
    · exact .inr ⟨i, bad, want⟩
    · refine .inl ⟨ss, rfl, nd, fun D H1 s1 hD hDs => ?_⟩
      rw [List.length_map] at hl
      have good : ∀ s ∈ ss, SiOk' s := fun s hs => by
        obtain ⟨i, hi⟩ := List.getElem?_of_mem hs
        obtain ⟨xl, hx⟩ := hx
        rw [List.length_map] at xl
        have li := (List.getElem?_eq_some_iff.mp hi).1
        have := hx i xs[i] (some s) (List.getElem?_eq_getElem (by omega)) (by rw [List.getElem?_map, hi]; rfl)
        exact this.2
      refine ⟨_, rfl, D, ss, rfl, hDs, hl, good, fun oo fa => ?_⟩
      obtain ⟨k1, k2⟩ := k oo fa
      refine ⟨fun e H2 s2 => ?_, fun p e => (k2 p e).up s1⟩
      have s12 := s1.trans s2
      obtain ⟨vs, hD2, vl, hvs⟩ := hDs.up s2
      refine ⟨_, rfl, D, _, rfl, .inl ⟨SqL.of hD2, fun t ht => ?_⟩⟩
      have s3 := same_mk (o := .tup vs) ht
      have s13 := s12.trans s3
      have oT : o ≠ t := ne_of_none (s12 _ _ ho) ht
      have hst : SisT (upd H2 t (.tup vs)) t ss := ⟨vs, upd_same, vl, fun i v s a b => (hvs i v s a b).up s3⟩
      have ho3 := s13 _ _ ho
      generalize upd H2 t (.tup vs) = H3 at s3 s13 hst ho3 ⊢
      refine ⟨_, rfl, o, C, dx, [], rfl, ho3, R.cl, R.n1, by show 0 < 1000; decide, ?_⟩
      have t4 : TupS H3 (upd H3 o (.ins C dx [("sights", .ref t)])) := tupS_put ho3 fun xs z => by cases z
      refine ⟨_, rfl, _, rfl, o, C, dx, [("sights", .ref t)], rfl, upd_same, R.cl, R.n2, by show 1 < 1000; decide, ?_⟩
      have t5 : TupS H3 (upd (upd H3 o (.ins C dx [("sights", .ref t)])) o (.ins C dx [("sights", .ref t), ("outcome", .str z)])) := TupS.trans t4 (tupS_put upd_same fun xs z => by cases z)
      refine k1 e _ (fun b u hb nb => ?_) ⟨dx, t, upd_same, hst.tup t5⟩
      rw [upd_ne nb, upd_ne nb]
      exact s13 _ _ hb
theorem scRLen : FnScope ["self"] ["self"] (defScope sRLen) := ⟨rfl, rfl, rfl, by decide +kernel, rfl, by decide +kernel, by decide +kernel⟩
theorem ok_rlen {f : Addr} {fd : FuncData} (F : Fun K "__len__" "Run.__len__" sRLen f fd) (T : TB mg) (R : RCl K mg C) : FnOk P w K mg base CX0 1 f fd ["self"] (spRLen C) := by
  refine F.ok scRLen (fun vs H Q E h => ?_) (fun cdv A outer s H vs Q E hr h => ?_)
  · obtain ⟨o, ss, z, rfl, _⟩ := h
    rfl
  · obtain ⟨o, ss, z, rfl, ⟨dx, t, ho, vs, ht, vl, _⟩, k⟩ := h
    refine ⟨_, pss_one (ps_ret (pe_callB call_len_seq (by rfl) T.len PySem.boot_len (pa_cons (pe_fld (pv 0) rfl) pa_nil))), ?_⟩
    refine ⟨_, rfl, o, C, dx, _, _, rfl, ho, R.cl, R.n1, lk_r1 _ _, t, vs, rfl, .inr (SqT.of ht), ?_⟩
    rw [vl]
    exact k
theorem scREq : FnScope ["self", "other"] ["self", "other"] (defScope sREq) := ⟨rfl, rfl, rfl, by decide +kernel, rfl, by decide +kernel, by decide +kernel⟩
theorem ok_req {f : Addr} {fd : FuncData} (F : Fun K "__eq__" "Run.__eq__" sREq f fd) (T : TB mg) (R : RCl K mg C) (I : ClIs K C) : FnOk P w K mg base CX0 1 f fd ["self", "other"] (spREq C) := by
  refine F.ok scREq (fun vs H Q E h => ?_) (fun cdv A outer s H vs Q E hr h => ?_)
  · obtain ⟨o, o2, ss, ss', z, z', rfl, _⟩ := h
    rfl
  · have hu := hr.units
    obtain ⟨o, o2, ss, ss', z, z', rfl, ⟨dx, t, ho, vs, ht, vl, hvs⟩, ⟨dy, u, ho2, us, hu2, ul, hus⟩, w1, w2, k⟩ := h
    refine ⟨_, pss_one (ps_ret (pe_and (pe_callB call_isi (by rfl) T.isinstance (by decide +kernel) (pa_cons (pv 1) (pa_cons (pe_glob (v := .ref C) rfl R.mg rfl) pa_nil))) (pe_and (pe_cmpR (op_eqD hu) (pe_fld (pv 0) rfl) (pe_fld (pv 1) rfl) (nomark _)) (pe_one (pe_cmpR op_eq (pe_fld (pv 0) rfl) (pe_fld (pv 1) rfl) (nomark _)))))), ?_⟩
    refine ⟨_, rfl, _, _, .ref C, .ref C, true, rfl, .own C, .base (.ins ho2 R.cl I.ha I.hn I.ht I.hm), I.kC, _, rfl, iteT ?_⟩
    refine ⟨_, rfl, o, C, dx, _, _, rfl, ho, R.cl, R.n1, lk_r1 _ _, _, rfl, o2, C, dy, _, _, rfl, ho2, R.cl, R.n1, lk_r1 _ _, .tuple (ss.map siD), .tuple (ss'.map siD), .tup (SqT.of ht) (dpa_of vl hvs), .tup (SqT.of hu2) (dpa_of ul hus), sis_shaped w1, sis_shaped w2, ?_⟩
    have e : PyData.eqv (.tuple (ss.map siD)) (.tuple (ss'.map siD)) = decide (ss = ss') := by
      simp only [PyData.eqv]
      exact eqv_sis w1 w2
    rw [e]
    refine ⟨_, rfl, ?_⟩
    by_cases h : ss = ss'
    · refine iteY h ?_
      refine ⟨_, rfl, o, C, dx, _, _, rfl, ho, R.cl, R.n2, lk_r2 _ _, _, rfl, o2, C, dy, _, _, rfl, ho2, R.cl, R.n2, lk_r2 _ _, rfl, ?_⟩
      have e2 : decide (V.str z = V.str z') = decide (ss = ss' ∧ z = z') := decide_eq_decide.mpr ⟨fun q => ⟨h, V.str.inj q⟩, fun q => by rw [q.2]⟩
      rw [e2]
      exact k
    · refine iteN h ?_
      rw [decide_eq_false (show ¬ (ss = ss' ∧ z = z') from fun q => h q.1)] at k
      exact k
end
end R3

set_option maxHeartbeats 3900000
namespace LW
open PySem PySem.Spec PyProof.Rows L2 TL
open C8 (pss_cut tCut pe_gc)
open CB
/-! [g for x, y in zs]: the things are tuples of two -/
section
variable {J : It} {n : Nat} {G : Hp → Prop} {Y : Nat → Hp → V → Hp → Prop} {i j : Nat} {te : TE} {σ : L2.St} {H1 : Hp} {D : Addr} {Qd : Hp → Prop} {K : PySem.W.Frag}
theorem lcWT (w : Walk J n G Y) (hij : i ≠ j) (ys : List V) (hn : ys.length = n) (hs : n < 1000000) (hD : H1 D = none) (hG : ∀ H', Same H1 H' → G H')
    (turn : ∀ (m : Nat) (x y : V) (H2 H3 : Hp), ys[m]? = some y → Same H1 H2 → Y m H2 x H3 → H3 = H2 ∧ ∃ a b t, x = .ref t ∧ H2 t = some (.tup [a, b]) ∧ ∀ Q1 : VK, (∀ H4, Same H2 H4 → Q1 y H4) → te (((wipe σ [i, j]).set i (some a)).set j (some b)) H2 Q1)
    (hd : ∀ H', Same H1 H' → H' D = some (.lst ys) → Qd H') :
    ∃ W : Nat → Nat → Hp → Prop, (∃ m, W 0 m (upd H1 D (.lst []))) ∧ ∀ k m H, W k m H →
      (J.stop k H ∧ Qd H) ∨ (J.go k H ∧ ∃ Nx : Hp → Prop, (∀ H', Nx H' → ∃ m', m' < m ∧ W (k + 1) m' H') ∧ ∀ x H', J.yld k H x H' → gTup K 2 (gCons (gName i) (gCons (gName j) gNil)) x (wipe σ [i, j]) H' fun σ2 H2 => wipe σ2 [i, j] = wipe σ [i, j] ∧ tYes σ2 H2 fun b H3 =>
        if b = true then te σ2 H3 fun y H4 => ∃ acc, H4 D = some (.lst acc) ∧ acc.length < sizeLine ∧ Nx (upd H4 D (.lst (acc ++ [y]))) else Nx H3) := by
  subst hn
  refine lc_it w (fun i H' => Same H1 H' ∧ H' D = some (.lst (ys.take i))) ⟨same_mk hD, upd_same⟩ (fun i H' _ q => hG H' q.1) ?_ ?_
  · rintro m x H2 H3 hi ⟨s2, hd2⟩ y0
    have hy : ys[m]? = some ys[m] := List.getElem?_eq_getElem hi
    obtain ⟨rfl, a, b, t, rfl, ht, tn⟩ := turn m x ys[m] H2 H3 hy s2 y0
    refine ⟨t, _, rfl, SqT.of ht, rfl, a, _, rfl, b, _, rfl, rfl, wipe2 hij a b, ?_⟩
    refine tn _ fun H4 s4 => ⟨_, s4 _ _ hd2, ?_, same_ch (s2.trans s4) hD, ?_⟩
    · rw [List.length_take]
      exact Nat.lt_of_lt_of_le (show min m ys.length < 1000000 by omega) (by decide)
    · rw [upd_same, List.take_succ, hy]
      rfl
  · rintro H' ⟨s, h⟩
    rw [List.take_length] at h
    exact hd H' s h
end
end LW

set_option maxHeartbeats 3900000
namespace R3
open PySem PySem.Spec PyProof.Rows L2 TL
open C8 (pss_cut tCut pe_gc)
open CB XW LE LR
abbrev sWr : Stmt := top 45
abbrev sRd : Stmt := top 46
abbrev sLkTx : Stmt := top 47
abbrev sAnTx : Stmt := top 48
abbrev sSgIn : Stmt := top 49
abbrev sOuIn : Stmt := top 50
abbrev sLkIn : Stmt := top 51
abbrev sAnsIn : Stmt := top 52
abbrev sBtw : Stmt := top 53
structure TX (mg : Str → Option Value) : Prop where
  SIGN : ∃ t, mg "SIGN" = some (.str " : " t)
  NOTHING : ∃ t, mg "NOTHING" = some (.str "-" t)
  QUOTE : ∃ t, mg "QUOTE" = some (.str "\"" t)
def spLkTx : Sp := fun vs H Q _ => ∃ u k, vs = [.ref u] ∧ H u = some (.tup (lkV k)) ∧ LkOk k ∧ Q (.str (lkT k)) H
def spAnTx : Sp := fun vs H Q _ => ∃ v a, vs = [v] ∧ AnAt H v a ∧ GoodA a ∧ Q (.str (anT a)) H
def spWr (CR : Addr) : Sp := fun vs H Q _ => ∃ o sg y, vs = [.ref o] ∧ RnAt CR H o sg y ∧ sg.length ≤ 20 ∧ (∀ s ∈ sg, LkOk s.1 ∧ GoodA s.2) ∧ y.length ≤ 20 ∧ 10 ∉ tl y ∧ ∀ H', Same H H' → Q (.str (runT sg y)) H'
theorem wd_lens : ("read" : Str).length ≤ 7 ∧ ("list" : Str).length ≤ 7 ∧ ("setting" : Str).length ≤ 7 ∧ ("tool" : Str).length ≤ 7 := by decide +kernel
theorem wd_len (k : Lk) : (wdT k).length ≤ 7 := by
  cases k
  · exact wd_lens.1
  · exact wd_lens.2.1
  · exact wd_lens.2.2.1
  · exact wd_lens.2.2.2
theorem pt_wh {k : Lk} (ok : LkOk k) (h : k ≠ .tl) : (if ptT k = "" then ("/" : Str) else ptT k) = whT k := by
  cases k with
  | rd p => exact if_neg (js_ne ok.2.1 ok.1)
  | ls p =>
    show (if js p = "" then ("/" : Str) else js p) = (if p = [] then ("/" : Str) else js p)
    by_cases e : p = []
    · subst e
      rfl
    · rw [if_neg (js_ne ok.1 e), if_neg e]
  | se n => exact if_neg fun e => nm_ne ok (by show tl n = []; rw [show n = "" from e]; decide +kernel)
  | tl => exact absurd rfl h
theorem pt_len {k : Lk} (h : LkOk k) : (ptT k).length ≤ 1000 := by
  cases k with
  | rd p => exact js_sh h.2.1 (by have := h.2.2; omega)
  | ls p => exact js_sh h.1 (by have := h.2; omega)
  | se n => exact nm_sh h
  | tl => exact Nat.zero_le _
theorem str_add_len (x y : Str) : (x ++ y).length = x.length + y.length := by rw [len_tl, len_tl x, len_tl y, tl_append, List.length_append]
theorem lit_len : (" : " : Str).length = 3 ∧ ("\"" : Str).length = 1 ∧ ("(" : Str).length = 1 ∧ (")" : Str).length = 1 ∧ (" " : Str).length = 1 ∧ ("end" : Str).length = 3 ∧ ("-" : Str).length = 1 ∧ ("\n" : Str).length = 1 := by decide +kernel
theorem join_len (y : Str) : ∀ ps : List Str, (Txt.join y ps).length ≤ (ps.map (·.length)).sum + ps.length * y.length := by
  intro ps
  rw [len_tl, tl_tjoin, len_tl y]
  have main : ∀ (S : List Nat) (qs : List (List Nat)), (joinL S qs).length ≤ (qs.map (·.length)).sum + qs.length * S.length := by
    intro S qs
    induction qs with
    | nil => simp [joinL]
    | cons a r ih =>
      cases r with
      | nil => simp [joinL]
      | cons b r =>
        show (a ++ (S ++ joinL S (b :: r))).length ≤ _
        rw [List.length_append, List.length_append, List.map_cons, List.sum_cons, List.length_cons, Nat.succ_mul]
        omega
  have := main (tl y) (ps.map tl)
  rw [List.map_map, List.length_map] at this
  have e : ps.map ((fun x => x.length) ∘ tl) = ps.map (·.length) := List.map_congr_left fun p _ => (len_tl p).symm
  rw [e] at this
  exact this
theorem sum_le {ps : List Str} {b : Nat} (h : ∀ p ∈ ps, p.length ≤ b) : (ps.map (·.length)).sum ≤ ps.length * b := by
  induction ps with
  | nil => simp
  | cons p r ih =>
    rw [List.map_cons, List.sum_cons, List.length_cons, Nat.succ_mul]
    have := ih fun q hq => h q (List.mem_cons_of_mem _ hq)
    have := h p List.mem_cons_self
    omega
theorem ent_len {n : Str} (h : IsNm n) (b : Bool) : (ent n b).length ≤ 9 := by
  rw [len_tl, tl_ent, List.length_append]
  have := h.2.1
  rw [len_tl] at this
  have e : (if b = true then [47] else ([] : List Nat)).length ≤ 1 := by cases b <;> decide
  omega
theorem es_sum {l : List (Str × Bool)} (h : ∀ e ∈ l, IsNm e.1) (hl : l.length ≤ 20) : ((eS l).map (·.length)).sum + (eS l).length * 1 ≤ 200 := by
  have q := sum_le (ps := eS l) (b := 9) fun p hp => by
    obtain ⟨e, he, rfl⟩ := List.mem_map.mp hp
    exact ent_len (h e he) e.2
  have e : (eS l).length = l.length := List.length_map ..
  rw [e] at q ⊢
  omega
theorem an_len {a : An} (h : GoodA a) : (anT a).length ≤ 210 := by
  obtain ⟨_, l2, l3, l4, l5, _, l7, _⟩ := lit_len
  cases a with
  | no => show ("-" : Str).length ≤ 210; rw [l7]; decide
  | tx z =>
    show ("\"" ++ z ++ "\"" : Str).length ≤ 210
    rw [str_add_len, str_add_len, l2]
    have := h.2
    omega
  | es l =>
    show ("(" ++ Txt.join " " (eS l) ++ ")" : Str).length ≤ 210
    rw [str_add_len, str_add_len, l3, l4]
    have q := join_len " " (eS l)
    have r := es_sum h.1 h.2
    rw [l5] at q
    omega
theorem lk_len {k : Lk} (h : LkOk k) : (lkT k).length ≤ 1010 := by
  have := pt_len h
  have := wd_len k
  have l1 : (" " : Str).length = 1 := by decide +kernel
  unfold lkT
  by_cases e : k = .tl
  · rw [if_pos e]
    have := wd_lens.2.2.2
    omega
  · rw [if_neg e, str_add_len, str_add_len, l1, ← pt_wh h e]
    by_cases e2 : ptT k = ""
    · rw [if_pos e2, show ("/" : Str).length = 1 from by decide +kernel]
      omega
    · rw [if_neg e2]
      omega
theorem line_len {s : Sg} (h : LkOk s.1) (g : GoodA s.2) : (lineT s).length ≤ 1223 := by
  have := lk_len h
  have := an_len g
  unfold lineT
  rw [str_add_len, str_add_len, lit_len.1]
  omega
theorem end_len {y : Str} (g : y.length ≤ 20) : (endT y).length ≤ 30 := by
  obtain ⟨l1, l2, _, _, _, l6, _⟩ := lit_len
  show ("end" ++ " : " ++ ("\"" ++ y ++ "\"") : Str).length ≤ 30
  rw [str_add_len, str_add_len, str_add_len, str_add_len, l1, l2, l6]
  omega
theorem ents_V (l : List (Str × Bool)) : l.map entV = (eS l).map V.str := by rw [List.map_map]; rfl
section
variable {P : Program} {w : World} {K : PySem.W.Frag} {mg : Str → Option Value} {base : Heap} {CR : Addr}
theorem scLkTx : FnScope ["look"] ["look"] (defScope sLkTx) := ⟨rfl, rfl, rfl, by decide +kernel, rfl, by decide +kernel, by decide +kernel⟩
theorem ok_lktx {f : Addr} {fd : FuncData} (F : Fun K "look_text" "look_text" sLkTx f fd) (T0 : TPk mg) : FnOk P w K mg base CX0 1 f fd ["look"] spLkTx := by
  refine F.ok scLkTx (fun vs H Q E h => ?_) (fun cdv A outer s H vs Q E hr h => ?_)
  · obtain ⟨u, k, rfl, _⟩ := h
    rfl
  · obtain ⟨u, k, rfl, hu, ok, fin⟩ := h
    have pl := pt_len ok
    have T := T0.b
    obtain ⟨_, mSTROKE⟩ := T0.STROKE
    obtain ⟨_, mROOT⟩ := T0.ROOT
    refine ⟨_, pss_cons (ps_if (pt_cmpR op_eq (pe_callB call_len_seq (by rfl) T.len PySem.boot_len (pa_cons (pv 0) pa_nil)) pe_int (nomark _)) (pss_one (ps_ret (pe_ix ix_tup (pv 0) pe_int (fun _ _ => rfl)))) (pss_nil))
            (pss_one (ps_ret (pe_op op_add_str (pe_op op_add_str (pe_ix ix_tup (pv 0) pe_int (fun _ _ => rfl)) pe_str) (pe_ifExp (pt_cmpR op_eq (pe_ix ix_tup (pv 0) pe_int (fun _ _ => rfl)) (pe_glob (v := .str "") rfl mROOT ⟨_, rfl⟩) (nomark _)) (pe_glob (v := .str "/") rfl mSTROKE ⟨_, rfl⟩) (pe_ix ix_tup (pv 0) pe_int (fun _ _ => rfl)))))), ?_⟩
    by_cases e : k = .tl
    · subst e
      have e2 : lkT .tl = "tool" := if_pos rfl
      rw [e2] at fin
      refine ⟨_, rfl, u, _, rfl, .inr (SqT.of hu), rfl, ?_⟩
      exact ⟨_, rfl, iteT ⟨_, rfl, u, _, 0, _, rfl, rfl, SqT.of hu, atI_nat (j := 0) rfl, fin⟩⟩
    · rw [lkV_pt e] at hu
      have e2 : lkT k = wdT k ++ " " ++ whT k := if_neg e
      have e3 := pt_wh ok e
      have wl := wd_len k
      obtain ⟨_, _, _, _, l5, _⟩ := lit_len
      have sz : 1100 ≤ sizeLine := by decide
      have l9 : (wdT k ++ " " : Str).length ≤ 8 := by rw [str_add_len, l5]; omega
      rw [e2] at fin
      refine ⟨_, rfl, u, _, rfl, .inr (SqT.of hu), rfl, _, rfl, iteF ⟨_, rfl, u, _, 0, _, rfl, rfl, SqT.of hu, atI_nat (j := 0) rfl, _, _, rfl, rfl, by rw [l5]; omega, _, rfl, u, _, 1, _, rfl, rfl, SqT.of hu, atI_nat (j := 1) rfl, rfl, ?_⟩⟩
      by_cases e4 : ptT k = ""
      · rw [if_pos e4] at e3
        rw [← e3] at fin
        rw [show decide (V.str (ptT k) = V.str "") = true from decide_eq_true (by rw [e4])]
        refine ⟨_, rfl, iteT ⟨_, _, rfl, rfl, ?_, fin⟩⟩
        rw [show ("/" : Str).length = 1 from by decide +kernel]
        omega
      · rw [if_neg e4] at e3
        rw [← e3] at fin
        rw [show decide (V.str (ptT k) = V.str "") = false from decide_eq_false fun q => e4 (V.str.inj q)]
        exact ⟨_, rfl, iteF ⟨_, rfl, u, _, 1, _, rfl, rfl, SqT.of hu, atI_nat (j := 1) rfl, _, _, rfl, rfl, by omega, fin⟩⟩
theorem scAnTx : FnScope ["answer"] ["answer"] (defScope sAnTx) := ⟨rfl, rfl, rfl, by decide +kernel, rfl, by decide +kernel, by decide +kernel⟩
theorem ok_antx {f : Addr} {fd : FuncData} (F : Fun K "answer_text" "answer_text" sAnTx f fd) (T : TB mg) (X0 : TX mg) : FnOk P w K mg base CX0 1 f fd ["answer"] spAnTx := by
  refine F.ok scAnTx (fun vs H Q E h => ?_) (fun cdv A outer s H vs Q E hr h => ?_)
  · obtain ⟨v, a, rfl, _⟩ := h
    rfl
  · obtain ⟨v, a, rfl, ha, ga, fin⟩ := h
    obtain ⟨_, mNOTHING⟩ := X0.NOTHING
    obtain ⟨_, mQUOTE⟩ := X0.QUOTE
    refine ⟨_, pss_cons (ps_if (pt_cmp (pc_isN (pv 0))) (pss_one (ps_ret (pe_glob (v := .str "-") rfl mNOTHING ⟨_, rfl⟩))) (pss_nil))
            (pss_cons (ps_if (pt_val (pe_callB call_isi (by rfl) T.isinstance (by decide +kernel) (pa_cons (pv 0) (pa_cons (pe_bltn (v := .ty "str") (by rfl) T.str (by decide +kernel) rfl) pa_nil)))) (pss_one (ps_ret (pe_op op_add_str (pe_op op_add_str (pe_glob (v := .str "\"") rfl mQUOTE ⟨_, rfl⟩) (pv 0)) (pe_glob (v := .str "\"") rfl mQUOTE ⟨_, rfl⟩)))) (pss_nil))
            (pss_one (ps_ret (pe_op op_add_str (pe_op op_add_str pe_str (pe_join pe_str (pv 0))) pe_str)))), ?_⟩
    cases a with
    | no =>
      obtain rfl : v = .non := ha
      exact ⟨_, rfl, _, rfl, iteT fin⟩
    | tx z =>
      obtain rfl : v = .str z := ha
      have zl := ga.2
      obtain ⟨_, l2, _⟩ := lit_len
      have sz : 1100 ≤ sizeLine := by decide
      refine ⟨_, rfl, _, rfl, iteF ⟨_, rfl, _, _, .type "str", .type "str", true, rfl, .ty "str", .base (.str _), kit_ty (by decide +kernel), _, rfl, iteT ⟨_, rfl, _, _, rfl, rfl, by rw [l2]; omega, _, _, rfl, rfl, by rw [str_add_len, l2]; omega, fin⟩⟩⟩
    | es l =>
      obtain ⟨q, rfl, hq⟩ := ha
      obtain ⟨_, _, l3, l4, l5, _⟩ := lit_len
      have sz : 1100 ≤ sizeLine := by decide
      have es := es_sum ga.1 ga.2
      have jl2 := join_len " " (eS l)
      rw [l5] at jl2
      rw [ents_V] at hq
      refine ⟨_, rfl, _, rfl, iteF ⟨_, rfl, _, _, .type "tuple", .type "str", false, rfl, .ty "str", .base (.tup hq), kit_ty (by decide +kernel), _, rfl, iteF ?_⟩⟩
      exact ⟨⟨_, rfl⟩, _, rfl, _, q, eS l, rfl, rfl, .inr (SqT.of hq), by rw [l5]; omega, _, _, rfl, rfl, by rw [l3]; omega, _, _, rfl, rfl, by rw [str_add_len, l3, l4]; omega, fin⟩
end
end R3

set_option maxHeartbeats 3900000
namespace R3
open PySem PySem.Spec PyProof.Rows L2 TL
open C8 (pss_cut tCut pe_gc)
open CB XW LE LR
theorem run_sum {sg : List Sg} {y : Str} (h : ∀ s ∈ sg, LkOk s.1 ∧ GoodA s.2) (l : sg.length ≤ 20) (g : y.length ≤ 20) : ((sg.map lineT ++ [endT y]).map (·.length)).sum + (sg.map lineT ++ [endT y]).length * 1 ≤ 26000 := by
  have q := sum_le (ps := sg.map lineT ++ [endT y]) (b := 1223) fun p hp => by
    rcases List.mem_append.mp hp with hp | hp
    · obtain ⟨s, hs, rfl⟩ := List.mem_map.mp hp
      exact line_len (h s hs).1 (h s hs).2
    · rw [List.mem_singleton] at hp
      rw [hp]
      have := end_len g
      omega
  have e : (sg.map lineT ++ [endT y]).length = sg.length + 1 := by rw [List.length_append, List.length_map]; rfl
  rw [e] at q ⊢
  have : (sg.length + 1) * 1223 ≤ 21 * 1223 := Nat.mul_le_mul (by omega) (Nat.le_refl _)
  omega
theorem run_len {sg : List Sg} {y : Str} (h : ∀ s ∈ sg, LkOk s.1 ∧ GoodA s.2) (l : sg.length ≤ 20) (g : y.length ≤ 20) : (runT sg y).length ≤ 26000 := by
  have q := join_len "\n" (sg.map lineT ++ [endT y])
  rw [lit_len.2.2.2.2.2.2.2] at q
  exact Nat.le_trans q (run_sum h l g)
def spBtw : Sp := fun vs H Q _ => ∃ x q r : Str, vs = [.str x, .str q, .str r] ∧ x.length ≤ 1000000 ∧ Q (.bl (btw x q r)) H
def spAnsIn : Sp := fun vs H Q _ => ∃ a, vs = [.str (anT a)] ∧ GoodA a ∧ ∀ L v H', Same H H' → H' L = some (.lst [v]) → AnAt H' v a → Q (.ref L) H'
section
variable {P : Program} {w : World} {K : PySem.W.Frag} {mg : Str → Option Value} {base : Heap} {CR : Addr}
theorem scWr : FnScope ["run", "lines", "look", "answer"] ["run"] (defScope sWr) := ⟨rfl, rfl, rfl, by decide +kernel, rfl, by decide +kernel, by decide +kernel⟩
theorem ok_wr {f fL fA : Addr} {fd fdL fdA : FuncData} (F : Fun K "write_run" "write_run" sWr f fd) (X0 : TX mg) (R : RCl K mg CR) (aLkTx : At K mg "look_text" fL fdL ["look"]) (GLkTx : FnOk P w K mg base CX0 1 fL fdL ["look"] spLkTx) (aAnTx : At K mg "answer_text" fA fdA ["answer"]) (GAnTx : FnOk P w K mg base CX0 1 fA fdA ["answer"] spAnTx) : FnOk P w K mg base CX0 2 f fd ["run"] (spWr CR) := by
  refine F.ok scWr (fun vs H Q E h => ?_) (fun cdv A outer s H vs Q E hr h => ?_)
  · obtain ⟨o, sg, y, rfl, _⟩ := h
    rfl
  · obtain ⟨o, sg, y, rfl, ⟨dx, t, ho, vs, ht, vl, hvs⟩, hl, ok, yl, n10, fin⟩ := h
    obtain ⟨_, mSIGN⟩ := X0.SIGN
    have sz : 1000000 ≤ sizeLine := by decide
    obtain ⟨l1, l2, _, _, _, l6, _, l8⟩ := lit_len
    refine ⟨_, pss_cons (ps_setLc (i := 1) (own := [("look", 2), ("answer", 3)]) (g := gTup K 2 (gCons (gName 2) (gCons (gName 3) gNil))) (tt := tYes) rfl scWr.nd rfl rfl (sw_true rfl rfl rfl (by decide +kernel)) (pi_tup (pe_fld (pv 0) rfl)) (blkOk_by (own := [("look", 2), ("answer", 3)]) (N := ["run", "lines", "look", "answer"]) (sc := defScope sWr) (by decide +kernel)) (fun _ _ _ _ _ => (pg_tupK (K0 := K) rfl rfl (pgs_cons (pg_name (i := 2) scWr.nd rfl (Or.inl rfl)) (pgs_cons (pg_name (i := 3) scWr.nd rfl (Or.inl rfl)) pgs_nil)))) (fun _ _ _ _ _ => pts_nil) (fun _ _ _ _ _ => (by exact (pe_op op_add_str (pe_op op_add_str (pe_call GLkTx (hr.mono (by decide)) rfl aLkTx.m aLkTx.k aLkTx.b .nil pass0 (pa_cons (pv 2) pa_nil)) (pe_glob (v := .str " : ") rfl mSIGN ⟨_, rfl⟩)) (pe_call GAnTx (hr.mono (by decide)) rfl aAnTx.m aAnTx.k aAnTx.b .nil pass0 (pa_cons (pv 3) pa_nil))))))
            (pss_one (ps_ret (pe_join pe_str (pe_op op_cat (pv 1) (pe_lst (pa_cons (pe_op op_add_str (pe_op op_add_str pe_str (pe_glob (v := .str " : ") rfl mSIGN ⟨_, rfl⟩)) (pe_call GAnTx (hr.mono (by decide)) rfl aAnTx.m aAnTx.k aAnTx.b .nil pass0 (pa_cons (pe_fld (pv 0) rfl) pa_nil))) pa_nil)))))), ?_⟩
    refine ⟨_, rfl, o, CR, dx, _, _, rfl, ho, R.cl, R.n1, lk_r1 _ _, t, rfl, ⟨_, SqT.of ht⟩, fun L hL => ?_⟩
    refine LW.lcWT (walk_tup (K := K) (a := t) (xs := vs)) (by decide) (sg.map fun s => .str (lineT s)) (by rw [List.length_map, vl]) (by omega) hL (fun H2 s2 => SqT.of (s2 _ _ ht)) ?_ ?_
    · rintro m x0 z H2 _ hy s2 ⟨rfl, hx⟩
      rw [List.getElem?_map] at hy
      obtain ⟨sgm, hk, rfl⟩ := Option.map_eq_some_iff.mp hy
      obtain ⟨tt, u, va, e1, h1, h2, h3⟩ := (hvs m x0 sgm hx hk).up s2
      have okk := ok sgm (List.mem_of_getElem? hk)
      have a1 := lk_len okk.1
      have a2 := an_len okk.2
      refine ⟨rfl, .ref u, va, tt, e1, h1, fun Q1 q1 => ?_⟩
      exact ⟨_, rfl, u, sgm.1, rfl, h2, okk.1, _, _, rfl, rfl, by rw [l1]; omega, _, rfl, va, sgm.2, rfl, h3, okk.2, _, _, rfl, rfl, by rw [str_add_len, l1]; omega, q1 _ (Same.refl _)⟩
    · intro H2 s2 hL2
      have ho2 := s2 _ _ ho
      have gy : GoodA (.tx y) := ⟨n10, yl⟩
      have a2 := an_len (a := .tx y) gy
      refine ⟨⟨_, rfl⟩, _, rfl, _, _, rfl, rfl, by rw [l1, l6]; omega, _, rfl, o, CR, dx, _, _, rfl, ho2, R.cl, R.n2, lk_r2 _ _, .str y, .tx y, rfl, rfl, gy, _, _, rfl, rfl, by rw [str_add_len, l1, l6]; omega, by show 1 ≤ sizeLine; decide, fun B hB => ?_⟩
      have s3 := same_mk (o := .lst [.str (endT y)]) hB
      have hB2 := upd_same (H := H2) (a := B) (o := .lst [.str (endT y)])
      refine ⟨L, B, _, _, rfl, rfl, s3 _ _ hL2, hB2, by rw [List.length_map]; show sg.length + 1 ≤ sizeLine; omega, fun C hC => ?_⟩
      have s4 := same_mk (o := .lst ((sg.map fun s => V.str (lineT s)) ++ [.str (endT y)])) hC
      have e : (sg.map fun s => V.str (lineT s)) ++ [.str (endT y)] = (sg.map lineT ++ [endT y]).map V.str := by
        rw [List.map_append, List.map_map]
        rfl
      refine ⟨_, C, sg.map lineT ++ [endT y], rfl, rfl, .inl (SqL.of (by rw [upd_same, e])), ?_, fin _ ((s2.trans s3).trans s4)⟩
      have := run_sum ok hl yl
      rw [l8]
      omega
theorem scBtw : FnScope ["text", "first", "last"] ["text", "first", "last"] (defScope sBtw) := ⟨rfl, rfl, rfl, by decide +kernel, rfl, by decide +kernel, by decide +kernel⟩
theorem ok_btw {f : Addr} {fd : FuncData} (F : Fun K "is_between" "is_between" sBtw f fd) (T : TB mg) : FnOk P w K mg base CX0 1 f fd ["text", "first", "last"] spBtw := by
  refine F.ok scBtw (fun vs H Q E h => ?_) (fun cdv A outer s H vs Q E hr h => ?_)
  · obtain ⟨x, q, r, rfl, _⟩ := h
    rfl
  · obtain ⟨x, q, r, rfl, xl, fin⟩ := h
    have sz : 1000000 ≤ sizeLine := by decide
    refine ⟨_, pss_one (ps_ret (pe_and (pe_cmpR op_gt (pe_callB call_len_str (by rfl) T.len PySem.boot_len (pa_cons (pv 0) pa_nil)) pe_int (nomark _)) (pe_and (pe_bm PySem.F.plainAttrs_str PySem.F.slot_str_startswith PySem.F.type_str_startswith mt_startswith (pv 0) (pa_cons (pv 1) pa_nil)) (pe_one (pe_bm PySem.F.plainAttrs_str PySem.F.slot_str_endswith PySem.F.type_str_endswith mt_endswith (pv 0) (pa_cons (pv 2) pa_nil)))))), ?_⟩
    refine ⟨_, rfl, x, rfl, by omega, _, _, rfl, rfl, _, rfl, ?_⟩
    unfold btw at fin
    by_cases h1 : 1 < x.length
    · rw [decide_eq_true h1, Bool.true_and] at fin
      rw [decide_eq_true (show (1 : Int) < (x.length : Int) by omega)]
      refine iteT ⟨_, rfl, rfl, _, rfl, x, q, rfl, rfl, _, rfl, ?_⟩
      cases h2 : Txt.startswith x q with
      | true =>
        rw [h2, Bool.true_and] at fin
        exact iteT ⟨_, rfl, rfl, _, rfl, x, r, rfl, rfl, fin⟩
      | false =>
        rw [h2, Bool.false_and] at fin
        exact iteF fin
    · rw [decide_eq_false h1, Bool.false_and] at fin
      rw [decide_eq_false (show ¬ (1 : Int) < (x.length : Int) by omega)]
      exact iteF fin
end
end R3

set_option maxHeartbeats 3900000
namespace R3
open PySem PySem.Spec PyProof.Rows L2 TL
open C8 (pss_cut tCut pe_gc)
open CB XW LE LR
theorem eq_str {a b : Str} (h : a ≠ b) : decide (V.str a = V.str b) = false := decide_eq_false fun e => h (V.str.inj e)
theorem eq_strT (a : Str) : decide (V.str a = V.str a) = true := decide_eq_true rfl
def spLkIn : Sp := fun vs H Q _ => ∃ k, vs = [.str (lkT k)] ∧ LkOk k ∧ ∀ u H', Same H H' → H' u = some (.tup (lkV k)) → Q (.ref u) H'
def spSgIn : Sp := fun vs H Q _ => ∃ s, vs = [.str (lineT s)] ∧ SiOk' s ∧ LkOk s.1 ∧ GoodA s.2 ∧ ∀ v H', Same H H' → SiAt H' v s → Q v H'
def spOuIn : Sp := fun vs H Q _ => ∃ y, vs = [.str (endT y)] ∧ 10 ∉ tl y ∧ y.length ≤ 20 ∧ ∀ H', Same H H' → Q (.str y) H'
section
variable {P : Program} {w : World} {K : PySem.W.Frag} {mg : Str → Option Value} {base : Heap} {CR : Addr}
theorem scAnsIn : FnScope ["shown", "inside"] ["shown"] (defScope sAnsIn) := ⟨rfl, rfl, rfl, by decide +kernel, rfl, by decide +kernel, by decide +kernel⟩
theorem ok_ansin {f fB : Addr} {fd fdB : FuncData} (F : Fun K "answers_in" "answers_in" sAnsIn f fd) (T : TB mg) (X0 : TX mg) (aBtw : At K mg "is_between" fB fdB ["text", "first", "last"]) (GBtw : FnOk P w K mg base CX0 1 fB fdB ["text", "first", "last"] spBtw) : FnOk P w K mg base CX0 2 f fd ["shown"] spAnsIn := by
  refine F.ok scAnsIn (fun vs H Q E h => ?_) (fun cdv A outer s H vs Q E hr h => ?_)
  · obtain ⟨a, rfl, _⟩ := h
    rfl
  · obtain ⟨a, rfl, ga, fin⟩ := h
    obtain ⟨_, mNOTHING⟩ := X0.NOTHING
    obtain ⟨_, mQUOTE⟩ := X0.QUOTE
    have sz : 1000000 ≤ sizeLine := by decide
    have al := an_len ga
    refine ⟨_, pss_cons (ps_set (i := 1) scAnsIn.nd rfl (Or.inl rfl) (pe_slice sl_str (pv 0) (po_some pe_int) (po_some (pe_un un_neg pe_int))))
            (pss_cons (ps_if (pt_cmpR op_eq (pv 0) (pe_glob (v := .str "-") rfl mNOTHING ⟨_, rfl⟩) (nomark _)) (pss_one (ps_ret (pe_lst (pa_cons pe_non pa_nil)))) (pss_nil))
            (pss_cons (ps_if (pt_val (pe_call GBtw (hr.mono (by decide)) rfl aBtw.m aBtw.k aBtw.b .nil pass0 (pa_cons (pv 0) (pa_cons (pe_glob (v := .str "\"") rfl mQUOTE ⟨_, rfl⟩) (pa_cons (pe_glob (v := .str "\"") rfl mQUOTE ⟨_, rfl⟩) pa_nil))))) (pss_one (ps_ret (pe_lst (pa_cons (pv 1) pa_nil)))) (pss_nil))
            (pss_cons (ps_if (pt_val (pe_call GBtw (hr.mono (by decide)) rfl aBtw.m aBtw.k aBtw.b .nil pass0 (pa_cons (pv 0) (pa_cons pe_str (pa_cons pe_str pa_nil))))) (pss_one (ps_ret (pe_lst (pa_cons (pe_ifExp (pt_cmpR op_ne (pv 1) pe_str (nomark _)) (pe_callTy call_tuple_of (by rfl) T.tuple (by decide +kernel) (pa_cons (pe_bm PySem.F.plainAttrs_str PySem.F.slot_str_split PySem.F.type_str_split mt_split (pv 1) (pa_cons pe_str pa_nil)) pa_nil)) (pe_tup pa_nil)) pa_nil)))) (pss_nil))
            (pss_one (ps_ret (pe_lst pa_nil)))))), ?_⟩
    refine ⟨_, rfl, 1, rfl, 1, rfl, -1, rfl, anT a, rfl, by omega, ?_⟩
    cases a with
    | no =>
      refine ⟨_, rfl, rfl, ?_⟩
      rw [show decide (V.str (anT .no) = V.str "-") = true from decide_eq_true rfl]
      exact ⟨_, rfl, iteT ⟨by show 1 ≤ sizeLine; decide, fun L hL => fin L .non _ (same_mk hL) upd_same rfl⟩⟩
    | tx z =>
      rw [cut_tx]
      refine ⟨_, rfl, rfl, ?_⟩
      rw [eq_str (tx_ne z)]
      refine ⟨_, rfl, iteF ⟨_, rfl, anT (.tx z), "\"", "\"", rfl, by omega, ?_⟩⟩
      rw [btw_tx]
      exact ⟨_, rfl, iteT ⟨_, rfl, by show 1 ≤ sizeLine; decide, fun L hL => fin L (.str z) _ (same_mk hL) upd_same rfl⟩⟩
    | es l =>
      rw [cut_es]
      refine ⟨_, rfl, rfl, ?_⟩
      rw [eq_str (es_ne l)]
      refine ⟨_, rfl, iteF ⟨_, rfl, anT (.es l), "\"", "\"", rfl, by omega, ?_⟩⟩
      rw [(btw_es l).1]
      refine ⟨_, rfl, iteF ⟨_, rfl, anT (.es l), "(", ")", rfl, by omega, ?_⟩⟩
      rw [(btw_es l).2]
      refine ⟨_, rfl, iteT ⟨_, rfl, rfl, ?_⟩⟩
      by_cases e : l = []
      · subst e
        rw [show decide (V.str (Txt.join " " (eS [])) = V.str "") = true from decide_eq_true (by rw [(joinE_nil (l := []) ga.1).mpr rfl])]
        refine ⟨_, rfl, iteF ?_⟩
        refine ⟨by show 0 ≤ sizeLine; decide, fun p hp => ⟨by show 1 ≤ sizeLine; decide, fun L hL => ?_⟩⟩
        have s1 := same_mk (o := .tup []) hp
        have s2 := same_mk (o := .lst [.ref p]) hL
        exact fin L (.ref p) _ (s1.trans s2) upd_same ⟨p, rfl, s2 _ _ upd_same⟩
      · have ne : Txt.join " " (eS l) ≠ "" := fun q => e ((joinE_nil ga.1).mp q)
        rw [eq_str ne]
        have jl2 := join_len " " (eS l)
        have es := es_sum ga.1 ga.2
        rw [lit_len.2.2.2.2.1] at jl2
        refine ⟨_, rfl, iteT ⟨_, rfl, rfl, Txt.join " " (eS l), " ", rfl, rfl, by decide +kernel, by omega, fun p hp => ?_⟩⟩
        rw [split_es ga.1 e]
        have s1 := same_mk (o := .lst ((eS l).map V.str)) hp
        have g1 := upd_same (H := H) (a := p) (o := .lst ((eS l).map V.str))
        refine ⟨p, _, rfl, .inl ⟨SqL.of g1, fun t ht => ⟨by show 1 ≤ sizeLine; decide, fun L hL => ?_⟩⟩⟩
        have s2 := same_mk (o := .tup ((eS l).map V.str)) ht
        have s3 := same_mk (o := .lst [.ref t]) hL
        exact fin L (.ref t) _ ((s1.trans s2).trans s3) upd_same ⟨t, rfl, by rw [ents_V]; exact s3 _ _ upd_same⟩
theorem scLkIn : FnScope ["head", "word", "space", "where"] ["head"] (defScope sLkIn) := ⟨rfl, rfl, rfl, by decide +kernel, rfl, by decide +kernel, by decide +kernel⟩
theorem ok_lkin {f fA : Addr} {fd fdA : FuncData} (F : Fun K "look_in" "look_in" sLkIn f fd) (T0 : TPk mg) (aAsLook : At K mg "as_look" fA fdA ["thing"]) (GAsLook : FnOk P w K mg base CX0 5 fA fdA ["thing"] spAsLook) : FnOk P w K mg base CX0 6 f fd ["head"] spLkIn := by
  refine F.ok scLkIn (fun vs H Q E h => ?_) (fun cdv A outer s H vs Q E hr h => ?_)
  · obtain ⟨k, rfl, _⟩ := h
    rfl
  · obtain ⟨k, rfl, ok, fin⟩ := h
    have T := T0.b
    obtain ⟨_, mSTROKE⟩ := T0.STROKE
    obtain ⟨_, mROOT⟩ := T0.ROOT
    have sz : 1000000 ≤ sizeLine := by decide
    have ll := lk_len ok
    refine ⟨_, pss_cons (ps_if (pt_cmpR op_eq (pv 0) pe_str (nomark _)) (pss_one (ps_ret (pe_tup (pa_cons pe_str pa_nil)))) (pss_nil))
            (pss_cons (ps_asg (pe_bm PySem.F.plainAttrs_str PySem.F.slot_str_partition PySem.F.type_str_partition mt_partition (pv 0) (pa_cons pe_str pa_nil)) (pg_tup rfl (pgs_cons (pg_name (i := 1) scLkIn.nd rfl (Or.inl rfl)) (pgs_cons (pg_name (i := 2) scLkIn.nd rfl (Or.inl rfl)) (pgs_cons (pg_name (i := 3) scLkIn.nd rfl (Or.inl rfl)) pgs_nil)))))
            (pss_cons (ps_if (pt_cmpR op_eq (pv 3) (pe_glob (v := .str "") rfl mROOT ⟨_, rfl⟩) (nomark _)) (pss_one (ps_ret pe_non)) (pss_nil))
            (pss_one (ps_ret (pe_call GAsLook (hr.mono (by decide)) rfl aAsLook.m aAsLook.k aAsLook.b .nil pass0 (pa_cons (pe_tup (pa_cons (pv 1) (pa_cons (pe_ifExp (pt_cmpR op_eq (pv 3) (pe_glob (v := .str "/") rfl mSTROKE ⟨_, rfl⟩) (nomark _)) (pe_glob (v := .str "") rfl mROOT ⟨_, rfl⟩) (pv 3)) pa_nil))) pa_nil)))))), ?_⟩
    by_cases e : k = .tl
    · subst e
      have e2 : lkT .tl = "tool" := if_pos rfl
      rw [e2]
      refine ⟨_, rfl, rfl, ?_⟩
      rw [eq_strT]
      exact ⟨_, rfl, iteT ⟨by show 1 ≤ sizeLine; decide, fun u hu => fin u _ (same_mk hu) upd_same⟩⟩
    · have hp := part_lk e
      refine ⟨_, rfl, rfl, ?_⟩
      rw [eq_str (fun q => e (lk_tool.mp q))]
      refine ⟨_, rfl, iteF ⟨_, rfl, rfl, lkT k, " ", rfl, rfl, by decide +kernel, by omega, fun p hp0 => ?_⟩⟩
      rw [hp]
      have s1 := same_mk (o := .tup [.str (wdT k), .str " ", .str (whT k)]) hp0
      have g1 := upd_same (H := H) (a := p) (o := .tup [.str (wdT k), .str " ", .str (whT k)])
      generalize upd H p (.tup [.str (wdT k), .str " ", .str (whT k)]) = H1 at s1 g1 ⊢
      refine ⟨p, _, rfl, SqT.of g1, rfl, _, _, rfl, _, _, rfl, _, _, rfl, rfl, ?_⟩
      refine ⟨_, rfl, rfl, ?_⟩
      rw [eq_str (wh_ne ok e)]
      refine ⟨_, rfl, iteF ⟨_, rfl, _, rfl, rfl, ?_⟩⟩
      have pt := wh_pt ok e
      have main : ∀ u H2, Same H1 H2 → H2 u = some (.tup [.str (wdT k), .str (ptT k)]) → spAsLook [.ref u] H2 Q E := fun u H2 s2 hu => by
        rw [← lkV_pt e] at hu
        exact ⟨.ref u, k, rfl, ⟨u, rfl, .inl hu⟩, ok, fun t H3 s3 ht => fin t H3 ((s1.trans s2).trans s3) ht⟩
      by_cases e4 : whT k = "/"
      · rw [if_pos e4] at pt
        rw [show decide (V.str (whT k) = V.str "/") = true from decide_eq_true (by rw [e4])]
        rw [← pt] at main
        refine ⟨_, rfl, iteT ⟨by show 2 ≤ sizeLine; decide, fun u hu => main u _ (same_mk hu) upd_same⟩⟩
      · rw [if_neg e4] at pt
        rw [eq_str e4]
        rw [← pt] at main
        refine ⟨_, rfl, iteF ⟨_, rfl, by show 2 ≤ sizeLine; decide, fun u hu => main u _ (same_mk hu) upd_same⟩⟩
theorem scSgIn : FnScope ["line", "head", "sign", "shown", "answers"] ["line"] (defScope sSgIn) := ⟨rfl, rfl, rfl, by decide +kernel, rfl, by decide +kernel, by decide +kernel⟩
theorem ok_sgin {f fA fL fS : Addr} {fd fdA fdL fdS : FuncData} (F : Fun K "sight_in" "sight_in" sSgIn f fd) (T : TB mg) (X0 : TX mg) (aAnsIn : At K mg "answers_in" fA fdA ["shown"]) (GAnsIn : FnOk P w K mg base CX0 2 fA fdA ["shown"] spAnsIn) (aLkIn : At K mg "look_in" fL fdL ["head"]) (GLkIn : FnOk P w K mg base CX0 6 fL fdL ["head"] spLkIn)
    (aAsSight : At K mg "as_sight" fS fdS ["thing"]) (GAsSight : FnOk P w K mg base CX0 6 fS fdS ["thing"] spAsSight2) : FnOk P w K mg base CX0 7 f fd ["line"] spSgIn := by
  refine F.ok scSgIn (fun vs H Q E h => ?_) (fun cdv A outer s H vs Q E hr h => ?_)
  · obtain ⟨s, rfl, _⟩ := h
    rfl
  · obtain ⟨sg, rfl, so, ok, ga, fin⟩ := h
    obtain ⟨_, mSIGN⟩ := X0.SIGN
    have sz : 1000000 ≤ sizeLine := by decide
    have ll := line_len ok ga
    have hp := part_sg ok
    refine ⟨_, pss_cons (ps_asg (pe_bm PySem.F.plainAttrs_str PySem.F.slot_str_partition PySem.F.type_str_partition mt_partition (pv 0) (pa_cons (pe_glob (v := .str " : ") rfl mSIGN ⟨_, rfl⟩) pa_nil)) (pg_tup rfl (pgs_cons (pg_name (i := 1) scSgIn.nd rfl (Or.inl rfl)) (pgs_cons (pg_name (i := 2) scSgIn.nd rfl (Or.inl rfl)) (pgs_cons (pg_name (i := 3) scSgIn.nd rfl (Or.inl rfl)) pgs_nil)))))
            (pss_cons (ps_set (i := 4) scSgIn.nd rfl (Or.inl rfl) (pe_call GAnsIn (hr.mono (by decide)) rfl aAnsIn.m aAnsIn.k aAnsIn.b .nil pass0 (pa_cons (pv 3) pa_nil)))
            (pss_one (ps_ret (pe_ifExp (pt_cmpR op_gt (pe_callB call_len_seq (by rfl) T.len PySem.boot_len (pa_cons (pv 4) pa_nil)) pe_int (nomark _)) (pe_call GAsSight (hr.mono (by decide)) rfl aAsSight.m aAsSight.k aAsSight.b .nil pass0 (pa_cons (pe_tup (pa_cons (pe_call GLkIn (hr.mono (by decide)) rfl aLkIn.m aLkIn.k aLkIn.b .nil pass0 (pa_cons (pv 1) pa_nil)) (pa_cons (pe_ix ix_list (pv 4) pe_int (fun _ _ => rfl)) pa_nil))) pa_nil)) pe_non)))), ?_⟩
    refine ⟨_, rfl, rfl, lineT sg, " : ", rfl, rfl, by decide +kernel, by omega, fun p hp0 => ?_⟩
    rw [hp]
    have s1 := same_mk (o := .tup [.str (lkT sg.1), .str " : ", .str (anT sg.2)]) hp0
    have g1 := upd_same (H := H) (a := p) (o := .tup [.str (lkT sg.1), .str " : ", .str (anT sg.2)])
    generalize upd H p (.tup [.str (lkT sg.1), .str " : ", .str (anT sg.2)]) = H1 at s1 g1 ⊢
    refine ⟨p, _, rfl, SqT.of g1, rfl, _, _, rfl, _, _, rfl, _, _, rfl, rfl, ?_⟩
    refine ⟨_, rfl, sg.2, rfl, ga, fun L v H2 s2 hL ha => ?_⟩
    refine ⟨_, rfl, L, _, rfl, .inl (SqL.of hL), _, _, rfl, rfl, _, rfl, iteT ?_⟩
    refine ⟨_, rfl, sg.1, rfl, ok, fun u H3 s3 hu => ?_⟩
    refine ⟨_, rfl, L, _, 0, _, rfl, rfl, SqL.of (s3 _ _ hL), atI_nat (j := 0) rfl, by show 2 ≤ sizeLine; decide, fun t ht => ?_⟩
    have s4 := same_mk (o := .tup [.ref u, v]) ht
    have sa : SiAt (upd H3 t (.tup [.ref u, v])) (.ref t) sg := ⟨t, u, v, rfl, upd_same, s4 _ _ hu, (ha.up s3).up s4⟩
    exact .inl ⟨.ref t, sg, rfl, sa.in, so.1, fun v' H5 s5 h5 => fin v' H5 (((s1.trans s2).trans s3).trans (s4.trans s5)) h5⟩
theorem scOuIn : FnScope ["line", "head", "sign", "shown", "answers"] ["line"] (defScope sOuIn) := ⟨rfl, rfl, rfl, by decide +kernel, rfl, by decide +kernel, by decide +kernel⟩
theorem ok_ouin {f fA : Addr} {fd fdA : FuncData} (F : Fun K "outcome_in" "outcome_in" sOuIn f fd) (T : TB mg) (X0 : TX mg) (aAnsIn : At K mg "answers_in" fA fdA ["shown"]) (GAnsIn : FnOk P w K mg base CX0 2 fA fdA ["shown"] spAnsIn) : FnOk P w K mg base CX0 3 f fd ["line"] spOuIn := by
  refine F.ok scOuIn (fun vs H Q E h => ?_) (fun cdv A outer s H vs Q E hr h => ?_)
  · obtain ⟨y, rfl, _⟩ := h
    rfl
  · obtain ⟨y, rfl, n10, yl, fin⟩ := h
    obtain ⟨_, mSIGN⟩ := X0.SIGN
    have sz : 1000000 ≤ sizeLine := by decide
    have ll := end_len yl
    have hp := part_end y
    refine ⟨_, pss_cons (ps_asg (pe_bm PySem.F.plainAttrs_str PySem.F.slot_str_partition PySem.F.type_str_partition mt_partition (pv 0) (pa_cons (pe_glob (v := .str " : ") rfl mSIGN ⟨_, rfl⟩) pa_nil)) (pg_tup rfl (pgs_cons (pg_name (i := 1) scOuIn.nd rfl (Or.inl rfl)) (pgs_cons (pg_name (i := 2) scOuIn.nd rfl (Or.inl rfl)) (pgs_cons (pg_name (i := 3) scOuIn.nd rfl (Or.inl rfl)) pgs_nil)))))
            (pss_cons (ps_set (i := 4) scOuIn.nd rfl (Or.inl rfl) (pe_call GAnsIn (hr.mono (by decide)) rfl aAnsIn.m aAnsIn.k aAnsIn.b .nil pass0 (pa_cons (pv 3) pa_nil)))
            (pss_cons (ps_if (PW.pt (pw_or (pt_cmpR op_ne (pv 1) pe_str (nomark _)) (pw_or (pt_cmpR op_eq (pe_callB call_len_seq (by rfl) T.len PySem.boot_len (pa_cons (pv 4) pa_nil)) pe_int (nomark _)) (pw_or1 (pt_not (pt_val (pe_callB call_isi (by rfl) T.isinstance (by decide +kernel) (pa_cons (pe_ix ix_list (pv 4) pe_int (fun _ _ => rfl)) (pa_cons (pe_bltn (v := .ty "str") (by rfl) T.str (by decide +kernel) rfl) pa_nil))))))))) (pss_one (ps_ret pe_non)) (pss_nil))
            (pss_one (ps_ret (pe_ix ix_list (pv 4) pe_int (fun _ _ => rfl)))))), ?_⟩
    refine ⟨_, rfl, rfl, endT y, " : ", rfl, rfl, by decide +kernel, by omega, fun p hp0 => ?_⟩
    rw [hp]
    have s1 := same_mk (o := .tup [.str "end", .str " : ", .str (anT (.tx y))]) hp0
    have g1 := upd_same (H := H) (a := p) (o := .tup [.str "end", .str " : ", .str (anT (.tx y))])
    generalize upd H p (.tup [.str "end", .str " : ", .str (anT (.tx y))]) = H1 at s1 g1 ⊢
    refine ⟨p, _, rfl, SqT.of g1, rfl, _, _, rfl, _, _, rfl, _, _, rfl, rfl, ?_⟩
    refine ⟨_, rfl, .tx y, rfl, ⟨n10, yl⟩, fun L v H2 s2 hL ha => ?_⟩
    obtain rfl : v = .str y := ha
    refine ⟨_, rfl, rfl, ?_⟩
    rw [eq_strT]
    refine ⟨_, rfl, iteF ⟨_, rfl, L, _, rfl, .inl (SqL.of hL), rfl, _, rfl, iteF ⟨_, rfl, L, _, 0, _, rfl, rfl, SqL.of hL, atI_nat (j := 0) rfl, _, _, .type "str", .type "str", true, rfl, .ty "str", .base (.str _), kit_ty (by decide +kernel), _, rfl, iteF ?_⟩⟩⟩
    exact ⟨_, rfl, L, _, 0, _, rfl, rfl, SqL.of hL, atI_nat (j := 0) rfl, fin H2 (s1.trans s2)⟩
end
end R3

set_option maxHeartbeats 3900000
namespace R3
open PySem PySem.Spec PyProof.Rows L2 TL
open C8 (pss_cut tCut pe_gc)
open CB XW
abbrev sSOR : Stmt := top 40
/-! the first two that bar each other -/
/-! sights of a run -/
section
variable {P : Program} {w : World} {K : PySem.W.Frag} {mg : Str → Option Value} {base : Heap} {CS CA fS fA : Addr} {fdS fdA : FuncData}
theorem scSOR : FnScope ["things", "plain", "looks", "index", "thing", "sight"] ["things"] (defScope sSOR) := ⟨rfl, rfl, rfl, by decide +kernel, rfl, by decide +kernel, by decide +kernel⟩
theorem ok_sor {f fG : Addr} {fd fdG : FuncData} (F : Fun K "sights_of_run" "sights_of_run" sSOR f fd) (T : TB mg) (aAsSight : At K mg "as_sight" fG fdG ["thing"]) (GAsSight : FnOk P w K mg base CX0 6 fG fdG ["thing"] spAsSight2)
    (BS : BSig K mg CS fS) (bBS : L2.Binds K fdS ["self", "index"] []) (GBS : FnOk P w K mg base CX0 1 fS fdS ["self", "index"] (spEIni "index" CS)) : FnOk P w K mg base (CX P w) 7 f fd ["things"] (spSOR CS) := by
  refine F.okX scSOR (fun vs H Q E h => ?_) (fun cdv A outer s H vs Q E hr h => ?_)
  · obtain ⟨v, xs, os, rfl, _⟩ := h
    rfl
  · obtain ⟨v, xs, os, rfl, hv, ⟨xl, hx⟩, hl, k⟩ := h
    have hu1 := hu_of hr
    refine ⟨_, pss_cons (ps_set (i := 1) scSOR.nd rfl (Or.inl rfl) (pe_lst pa_nil))
            (pss_cons (ps_set (i := 2) scSOR.nd rfl (Or.inl rfl) pe_dnewT)
            (pss_cons (ps_for (passes_of rfl) rfl (ER.pi_enumV rfl T.enumerate (pv 0)) (pg_tup rfl (pgs_cons (pg_name (i := 3) scSOR.nd rfl (Or.inl rfl)) (pgs_cons (pg_name (i := 4) scSOR.nd rfl (Or.inl rfl)) pgs_nil))) (pss_cons (ps_set (i := 5) scSOR.nd rfl (Or.inl rfl) (pe_call GAsSight (hr.mono (by decide)) rfl aAsSight.m aAsSight.k aAsSight.b .nil pass0 (pa_cons (pv 4) pa_nil)))
            (pss_cons (ps_if (PW.pt (pw_or (pt_cmp (pc_isN (pv 5))) (pw_or1 (pt_cmp (pc_din hu1 (pe_ix ix_tup (pv 5) pe_int (fun _ _ => rfl)) (pv 2)))))) (pss_one (ps_raise rfl (takes_of rfl rfl rfl rfl) (pmk_oex BS.ox BS.iC BS.tI GBS (hr.mono (by decide)) bBS .nil pass0 rfl BS.mg (pa_cons (pv 3) pa_nil)))) (pss_nil))
            (pss_cons (ps_dput hu1 (pv 2) (pe_ix ix_tup (pv 5) pe_int (fun _ _ => rfl)) pe_bl rfl)
            (pss_one (ps_expr (pe_bm PySem.F.plainAttrs_list PySem.F.slot_list_append PySem.F.type_list_append mt_append (pv 1) (pa_cons (pv 5) pa_nil))))))))
            (pss_one (ps_ret (pv 1))))), ?_⟩
    refine ⟨by exact Nat.zero_le _, fun p hp => fun d hd => ?_⟩
    have s1 := same_mk (o := .lst []) hp
    have s2 := same_mk (o := .dT []) hd
    have s12 := s1.trans s2
    have hp2 := s2 _ _ (upd_same (H := H) (a := p) (o := .lst []))
    have hd2 := upd_same (H := upd H p (.lst [])) (a := d) (o := .dT [])
    have pd : p ≠ d := fun e => by rw [← e, upd_same] at hd; cases hd
    have hd0 : H d = none := by rw [upd_ne (Ne.symm pd)] at hd; exact hd
    generalize upd (upd H p (.lst [])) d (.dT []) = H2 at s12 hp2 hd2 ⊢
    refine ER.for_enumV (v := v) (xs := xs) rfl (hv.up s12) (fun i σ H' => ∃ x3 x4 x5 vs ss kvs, σ = [some v, some (.ref p), some (.ref d), x3, x4, x5] ∧ Same H H' ∧ Okp (os.take i) ∧ os.take i = ss.map some ∧ H' p = some (.lst vs) ∧ vs.length = ss.length ∧ (∀ (j : Nat) (x : V) (s : Lk × An), vs[j]? = some x → ss[j]? = some s → SiAt H' x s) ∧ H' d = some (.dT kvs) ∧ kvs.length ≤ i ∧
        (∀ s ∈ ss, SiOk' s) ∧ ∀ q, LkW q → ((valV kvs (lkey q)).isSome = true ↔ ∃ s ∈ ss, s.1 = q))
      ⟨_, _, _, [], [], [], rfl, s12, ⟨fun o ho => by simp at ho, by rw [List.take_zero]; exact .nil⟩, rfl, hp2, rfl, fun j x s h => by simp at h, hd2, Nat.le_refl _, (fun s hs => by cases hs), fun q _ => ⟨(fun z => by cases z), fun ⟨s, hs, _⟩ => by cases hs⟩⟩ ?_ ?_ ?_
    · rintro i τ H' ⟨_, _, _, _, _, _, _, sm, _⟩ a o rfl e
      obtain ⟨a', ea, ha⟩ := hv
      cases ea
      rcases ha with ha | ha <;> (have e2 := s12 _ _ ha; rw [e] at e2; cases e2; exact sm _ _ ha)
    · rintro i x T _ H3 hi ⟨x3, x4, x5, vs, ss, kvs, rfl, s3, okp, tk, hp3, vl, hvs, hd3, kl, good, keys⟩ ex hT
      have hio : i < os.length := by omega
      have eo : os[i]? = some os[i] := List.getElem?_eq_getElem hio
      generalize os[i] = o at eo
      have hxo := hx i x o ex eo
      have sT := same_mk (o := .tup [.int (i : Nat), x]) hT
      refine ⟨T, _, rfl, SqT.of upd_same, rfl, _, _, rfl, _, _, rfl, rfl, ?_⟩
      have s4 := s3.trans sT
      have hp4 := sT _ _ hp3
      have hd4 := sT _ _ hd3
      have hvs4 : ∀ (j : Nat) (y : V) (s : Lk × An), vs[j]? = some y → ss[j]? = some s → SiAt (upd H3 T (.tup [.int (i : Nat), x])) y s := fun j y t h1 h2 => (hvs j y t h1 h2).up sT
      have hx4 : SgO (upd H3 T (.tup [.int (i : Nat), x])) x o := hxo.up s4
      generalize upd H3 T (.tup [.int (i : Nat), x]) = H4 at sT s4 hp4 hd4 hx4 hvs4 ⊢
      have raise : ∀ (H5 : Hp), Same H4 H5 → Bad os i → ∀ b, H5 b = none → ∀ dx, upd H5 b (exo b CS none) dx = none → dx ≠ b → ∃ (d : Addr) (fs : List (Str × V)), upd (upd (upd H5 b (exo b CS none)) dx (exd dx [(("index" : Str), V.int (i : Nat))])) b (exo b CS (some dx)) b = some (exo b CS (some d)) ∧
          upd (upd (upd H5 b (exo b CS none)) dx (exd dx [(("index" : Str), V.int (i : Nat))])) b (exo b CS (some dx)) d = some (exd d fs) ∧ H5 d = none ∧ E (.ref CS) (some d) (upd (del (upd (upd (upd H5 b (exo b CS none)) dx (exd dx [(("index" : Str), V.int (i : Nat))])) b (exo b CS (some dx))) b) d (.xd fs)) := fun H5 s5 bad b hb dx hdx hne => by
        rcases k with ⟨ss2, e2, nd2, _⟩ | ⟨j, bj, want⟩
        · have z := bad.le (i := os.length) (by rw [List.take_length, e2]; exact okp_of nd2)
          omega
        · have h1 := bj.le okp
          have h2 := bad.le bj.1
          obtain rfl : i = j := by omega
          exact eraise_at (s4.trans s5) hb hdx hne want
      cases o with
      | none =>
        refine ⟨_, rfl, .inr ⟨x, rfl, hx4, fun H5 s5 => ⟨_, rfl, _, rfl, iteT ⟨_, rfl, by show 1 ≤ 1000; decide, fun b hb => ⟨b, _, rfl, upd_same, fun dx hdx hne => ⟨rfl, raise H5 s5 ⟨okp, none, eo, .inl rfl⟩ b hb dx hdx hne⟩⟩⟩⟩⟩⟩
      | some sg =>
        refine ⟨_, rfl, .inl ⟨x, sg, rfl, hx4.1, hx4.2.1, fun v' H5 s5 sat => ?_⟩⟩
        have hp5 := s5 _ _ hp4
        have hd5 := s5 _ _ hd4
        obtain ⟨t, u, va, rfl, ht, hu, ha⟩ := id sat
        have ku : H5 u = some (.tup ((lkey sg.1).map kV)) := by rw [lkey_V]; exact hu
        refine ⟨_, rfl, _, rfl, iteN (by intro z; cases z) ⟨_, rfl, t, _, 0, _, rfl, rfl, SqT.of ht, atI_nat (j := 0) rfl, _, rfl, d, _, rfl, DGet.t hd5 ku, ?_⟩⟩
        have kk := keys sg.1 hx4.2.2.1
        by_cases old : ∃ s ∈ ss, s.1 = sg.1
        · rw [kk.mpr old]
          refine ⟨_, rfl, iteT ⟨_, rfl, by show 1 ≤ 1000; decide, fun b hb => ⟨b, _, rfl, upd_same, fun dx hdx hne => ⟨rfl, raise H5 s5 ⟨okp, _, eo, .inr ?_⟩ b hb dx hdx hne⟩⟩⟩⟩
          obtain ⟨so, hs, e⟩ := old
          exact ⟨sg, so, rfl, by rw [tk]; exact List.mem_map.mpr ⟨so, hs, rfl⟩, e⟩
        · have nk : (valV kvs (lkey sg.1)).isSome = false := by
            rw [← Bool.not_eq_true]
            exact fun z => old (kk.mp z)
          rw [nk]
          refine ⟨_, rfl, iteF ⟨_, rfl, _, rfl, t, _, 0, _, rfl, rfl, SqT.of ht, atI_nat (j := 0) rfl, d, _, rfl, DPut.t hd5 ku ?_, ?_⟩⟩
          · exact Nat.lt_of_le_of_lt (show kvs.length ≤ 1000 by omega) (by decide)
          · have s45 := s4.trans s5
            have ts6 : TupS H5 (upd H5 d (.dT (putK kvs (lkey sg.1) (.bl true)))) := tupS_put hd5 fun xs z => by cases z
            have hp6 : upd H5 d (.dT (putK kvs (lkey sg.1) (.bl true))) p = some (.lst vs) := by rw [upd_ne pd]; exact hp5
            have hd6 := upd_same (H := H5) (a := d) (o := .dT (putK kvs (lkey sg.1) (.bl true)))
            have s6 : Same H (upd H5 d (.dT (putK kvs (lkey sg.1) (.bl true)))) := same_ch s45 hd0
            generalize upd H5 d (.dT (putK kvs (lkey sg.1) (.bl true))) = H6 at ts6 hp6 hd6 s6 ⊢
            have ts7 : TupS H5 (upd H6 p (.lst (vs ++ [.ref t]))) := TupS.trans ts6 (tupS_put hp6 fun xs z => by cases z)
            have tl : ss.length ≤ i := by
              have := congrArg List.length tk
              rw [List.length_take, List.length_map] at this
              omega
            refine ⟨_, rfl, .inl ⟨rfl, _, SqL.of hp6⟩, _, rfl, p, _, _, rfl, rfl, hp6, ?_, _, _, _, vs ++ [.ref t], ss ++ [sg], putK kvs (lkey sg.1) (.bl true), rfl, same_ch s6 hp, okp_snoc okp eo fun t' ht' e' => ?_, ?_, upd_same, ?_, fun j y s h1 h2 => ?_, ?_, ?_, fun s hs => ?_, fun q hq => ?_⟩
            · exact Nat.lt_of_lt_of_le (show vs.length < 1001 by omega) (by decide)
            · rw [tk] at ht'
              obtain ⟨s, hs, e2⟩ := List.mem_map.mp ht'
              cases e2
              exact old ⟨_, hs, e'⟩
            · rw [List.take_succ, tk, eo, List.map_append]
              rfl
            · rw [List.length_append, List.length_append, vl]
              rfl
            · rcases Nat.lt_or_ge j vs.length with h3 | h3
              · rw [List.getElem?_append_left h3] at h1
                rw [List.getElem?_append_left (by omega)] at h2
                exact ((hvs4 j y s h1 h2).up s5).tup ts7
              · rw [List.getElem?_append_right h3] at h1
                rw [List.getElem?_append_right (by omega)] at h2
                have j0 : j - vs.length = 0 := by
                  have := (List.getElem?_eq_some_iff.mp h1).1
                  simp only [List.length_cons, List.length_nil] at this
                  omega
                rw [j0] at h1
                rw [show j - ss.length = 0 by omega] at h2
                cases h1
                cases h2
                exact sat.tup ts7
            · rw [upd_ne (Ne.symm pd)]
              exact hd6
            · have := length_putK kvs (lkey sg.1) (.bl true)
              omega
            · rcases List.mem_append.mp hs with hs | hs
              · exact good s hs
              · rw [List.mem_singleton.mp hs]
                exact hx4.2
            · rw [valV_put]
              by_cases e : q = sg.1
              · subst e
                rw [if_pos rfl]
                exact ⟨fun _ => ⟨sg, List.mem_append_right _ (List.mem_singleton.mpr rfl), rfl⟩, fun _ => rfl⟩
              · rw [if_neg fun z => e ((lkey_inj hq hx4.2.2.1).mp z), keys q hq]
                constructor
                · rintro ⟨s, hs, e2⟩
                  exact ⟨s, List.mem_append_left _ hs, e2⟩
                · rintro ⟨s, hs, e2⟩
                  rcases List.mem_append.mp hs with hs | hs
                  · exact ⟨s, hs, e2⟩
                  · rw [List.mem_singleton.mp hs] at e2
                    exact absurd e2.symm e
    · rintro τ H3 ⟨x3, x4, x5, vs, ss, kvs, rfl, s3, okp, tk, hp3, vl, hvs, hd3, kl, good, keys⟩
      rw [xl, List.take_length] at okp tk
      rcases k with ⟨ss2, e2, nd2, fin⟩ | ⟨j, bj, want⟩
      · obtain rfl := some_map_inj (e2.symm.trans tk)
        exact ⟨_, rfl, fin p H3 s3 hp ⟨vs, hp3, vl, hvs⟩⟩
      · have h1 := bj.le (i := os.length) (by rw [List.take_length]; exact okp)
        obtain ⟨_, o, e, _⟩ := bj
        have := (List.getElem?_eq_some_iff.mp e).1
        omega
end
end R3

set_option maxHeartbeats 3900000
namespace R3
open PySem PySem.Spec PyProof.Rows L2 TL
open C8 (pss_cut tCut pe_gc)
open CB XW LE LR
theorem cut_init (xs : List V) (x : V) : cutV (xs ++ [x]) none (some (-1)) = xs := by
  have e1 : HT.sIx (xs ++ [x]).length (xs ++ [x]).length (some (-1)) = xs.length := by
    show (if (-1 : Int) < 0 then ((-1 : Int) + ((xs ++ [x]).length : Int)).toNat else min (-1 : Int).toNat (xs ++ [x]).length) = _
    rw [if_pos (by decide), List.length_append, List.length_singleton]
    omega
  unfold cutV
  rw [e1]
  show (((xs ++ [x]).drop 0).take (xs.length - 0)) = xs
  rw [List.drop_zero, Nat.sub_zero, List.take_append_of_le_length (Nat.le_refl _), List.take_length]
theorem mkS2 {H : Hp} {o dx : Addr} {u : HO} (ho : H o = none) (hdx : H dx = none) : Same H (upd (upd H dx (.own o)) o u) := fun b q hb => by
  rw [upd_ne (fun e => by rw [e, ho] at hb; cases hb), upd_ne (fun e => by rw [e, hdx] at hb; cases hb)]
  exact hb
theorem sis_sgs {H : Hp} {D : Addr} {sg : List Sg} (h : SisL H D sg) (ok : ∀ s ∈ sg, SiOk' s) : ∃ xs, H D = some (.lst xs) ∧ Sgs H xs (sg.map some) := by
  obtain ⟨vs, h1, h2, h3⟩ := h
  refine ⟨vs, h1, by rw [List.length_map]; exact h2, fun i x o hx ho => ?_⟩
  rw [List.getElem?_map] at ho
  obtain ⟨s, hs, rfl⟩ := Option.map_eq_some_iff.mp ho
  exact ⟨(h3 i x s hx hs).in, ok s (List.mem_of_getElem? hs)⟩
/-- what is wanted of a run that is written and read -/
structure GR (sg : List Sg) (y : Str) : Prop where
  ok : ∀ s ∈ sg, SiOk' s
  ga : ∀ s ∈ sg, GoodA s.2
  nd : (sg.map (·.1)).Nodup
  tog : Tog sg
  len : sg.length ≤ 20
  yl : y.length ≤ 20
  n10 : 10 ∉ tl y
theorem GR.lk {sg : List Sg} {y : Str} (g : GR sg y) : ∀ s ∈ sg, LkOk s.1 ∧ GoodA s.2 := fun s hs => ⟨(g.ok s hs).1.1, g.ga s hs⟩
theorem mk_run {CR CS CA : Addr} {H : Hp} {D : Addr} {sg : List Sg} {y : Str} (hS : SisL H D sg) (g : GR sg y) {o dx : Addr} (ho : H o = none) (hdx : H dx = none) {Q : VK} {E : XK} (k : ∀ H2, Same H H2 → RnAt CR H2 o sg y → Q .non H2) : spRIni CR CS CA [.ref o, .ref D, .str y] (upd (upd H dx (.own o)) o (.ins CR dx [])) Q E := by
  have sM := mkS2 ho hdx (u := .ins CR dx [])
  obtain ⟨xs, hx, hs⟩ := sis_sgs (hS.up sM) g.ok
  have ln := g.len
  refine ⟨o, dx, .ref D, xs, sg.map some, y, rfl, upd_same, ⟨D, rfl, .inr hx⟩, hs, by rw [List.length_map]; omega, .inr ⟨sg, rfl, g.nd, fun oo fa => ⟨fun _ H2 kp rn => ?_, fun p e => ?_⟩⟩⟩
  · exact k H2 (fun b q hb => kp b q (sM _ _ hb) fun e => by rw [e, ho] at hb; cases hb) rn
  · rw [fa.det (fst_tog.mpr g.tog)] at e
    cases e
def spRd (CR : Addr) : Sp := fun vs H Q _ => ∃ sg y, vs = [.str (runT sg y)] ∧ GR sg y ∧ ∀ o H', Same H H' → RnAt CR H' o sg y → Q (.ref o) H'
section
variable {P : Program} {w : World} {K : PySem.W.Frag} {mg : Str → Option Value} {base : Heap} {CR CS CA : Addr}
theorem scRd : FnScope ["text", "lines", "sights", "looks", "index", "line", "sight", "outcome"] ["text"] (defScope sRd) := ⟨rfl, rfl, rfl, by decide +kernel, rfl, by decide +kernel, by decide +kernel⟩
theorem ok_rd {f fS fO fI : Addr} {fd fdS fdO fdI : FuncData} (F : Fun K "read_run" "read_run" sRd f fd) (T : TB mg) (R : RCl K mg CR) (mkR : Mk K CR fI) (bRIni : L2.Binds K fdI ["self", "sights", "outcome"] []) (GRIni0 : FnOk P w K mg base (CX P w) 10 fI fdI ["self", "sights", "outcome"] (spRIni CR CS CA))
    (aSgIn : At K mg "sight_in" fS fdS ["line"]) (GSgIn : FnOk P w K mg base CX0 7 fS fdS ["line"] spSgIn) (aOuIn : At K mg "outcome_in" fO fdO ["line"]) (GOuIn : FnOk P w K mg base CX0 3 fO fdO ["line"] spOuIn) : FnOk P w K mg base CX0 12 f fd ["text"] (spRd CR) := by
  refine F.ok scRd (fun vs H Q E h => ?_) (fun cdv A outer s H vs Q E hr h => ?_)
  · obtain ⟨sg, y, rfl, _⟩ := h
    rfl
  · obtain ⟨sg, y, rfl, g, fin⟩ := h
    have GRIni := noX GRIni0
    have hu1 := hu_of hr
    have sz : 1000000 ≤ sizeLine := by decide
    have rl := run_len g.lk g.len g.yl
    have ln := g.len
    refine ⟨_, pss_cons (ps_set (i := 1) scRd.nd rfl (Or.inl rfl) (pe_bm PySem.F.plainAttrs_str PySem.F.slot_str_split PySem.F.type_str_split mt_split (pv 0) (pa_cons pe_str pa_nil)))
            (pss_cons (ps_set (i := 2) scRd.nd rfl (Or.inl rfl) (pe_lst pa_nil))
            (pss_cons (ps_set (i := 3) scRd.nd rfl (Or.inl rfl) pe_dnewT)
            (pss_cons (ps_for PassesOwn.never rfl (pi_enum rfl T.enumerate (pa_cons (pe_slice sl_list (pv 1) po_none (po_some (pe_un un_neg pe_int))) pa_nil)) (pg_tup rfl (pgs_cons (pg_name (i := 4) scRd.nd rfl (Or.inl rfl)) (pgs_cons (pg_name (i := 5) scRd.nd rfl (Or.inl rfl)) pgs_nil))) (pss_cons (ps_set (i := 6) scRd.nd rfl (Or.inl rfl) (pe_call GSgIn (hr.mono (by decide)) rfl aSgIn.m aSgIn.k aSgIn.b .nil pass0 (pa_cons (pv 5) pa_nil)))
            (pss_cons (ps_if (PW.pt (pw_or (pt_cmp (pc_isN (pv 6))) (pw_or1 (pt_cmp (pc_din hu1 (pe_ix ix_tup (pv 6) pe_int (fun _ _ => rfl)) (pv 3)))))) (pss_one (ps_never)) (pss_nil))
            (pss_cons (ps_dput hu1 (pv 3) (pe_ix ix_tup (pv 6) pe_int (fun _ _ => rfl)) pe_bl rfl)
            (pss_one (ps_expr (pe_bm PySem.F.plainAttrs_list PySem.F.slot_list_append PySem.F.type_list_append mt_append (pv 2) (pa_cons (pv 6) pa_nil))))))))
            (pss_cons (ps_set (i := 7) scRd.nd rfl (Or.inl rfl) (pe_call GOuIn (hr.mono (by decide)) rfl aOuIn.m aOuIn.k aOuIn.b .nil pass0 (pa_cons (pe_ix ix_list (pv 1) (pe_un un_neg pe_int) (fun _ _ => rfl)) pa_nil)))
            (pss_cons (ps_if (pt_cmp (pc_isN (pv 7))) (pss_one (ps_never)) (pss_nil))
            (pss_one (ps_ret (pe_make mkR GRIni (hr.mono (by decide)) rfl R.mg bRIni .nil pass0 (pa_cons (pv 2) (pa_cons (pv 7) pa_nil)))))))))), ?_⟩
    refine ⟨_, rfl, rfl, runT sg y, "\n", rfl, rfl, by decide +kernel, by omega, fun L hL => ?_⟩
    rw [split_run g.lk g.n10]
    have s1 := same_mk (o := .lst ((sg.map lineT ++ [endT y]).map V.str)) hL
    have hL1 := upd_same (H := H) (a := L) (o := .lst ((sg.map lineT ++ [endT y]).map V.str))
    generalize upd H L (.lst ((sg.map lineT ++ [endT y]).map V.str)) = H1 at s1 hL1 ⊢
    refine ⟨by exact Nat.zero_le _, fun p hp => fun d hd => ?_⟩
    have t1 := same_mk (o := .lst []) hp
    have t2 := same_mk (o := .dT []) hd
    have t12 := t1.trans t2
    have hp2 := t2 _ _ (upd_same (H := H1) (a := p) (o := .lst []))
    have hd2 := upd_same (H := upd H1 p (.lst [])) (a := d) (o := .dT [])
    have pd : p ≠ d := fun e => by rw [← e, upd_same] at hd; cases hd
    have hd0 : H1 d = none := by rw [upd_ne (Ne.symm pd)] at hd; exact hd
    generalize upd (upd H1 p (.lst [])) d (.dT []) = H2 at t12 hp2 hd2 ⊢
    have eL : (sg.map lineT ++ [endT y]).map V.str = sg.map (fun s => V.str (lineT s)) ++ [.str (endT y)] := by
      rw [List.map_append, List.map_map]
      rfl
    rw [eL] at hL1
    refine ⟨_, rfl, 1, rfl, -1, rfl, L, _, rfl, SqL.of (t12 _ _ hL1), fun L2 hL2 => ?_⟩
    rw [cut_init]
    have t3 := same_mk (o := .lst (sg.map fun s => V.str (lineT s))) hL2
    have hL3 := upd_same (H := H2) (a := L2) (o := .lst (sg.map fun s => V.str (lineT s)))
    have hp3 := t3 _ _ hp2
    have hd3 := t3 _ _ hd2
    have nL2 : L2 ≠ p := fun e => by rw [e, hp2] at hL2; cases hL2
    have t13 := t12.trans t3
    generalize upd H2 L2 (.lst (sg.map fun s => V.str (lineT s))) = H3 at t3 t13 hL3 hp3 hd3 ⊢
    refine ⟨L2, _, rfl, SqL.of hL3, for_it (walk_enum (K := K) (a := L2) (xs := sg.map fun s => V.str (lineT s))) (fun i σ H' => ∃ x4 x5 x6 vs kvs, σ = [some (.str (runT sg y)), some (.ref L), some (.ref p), some (.ref d), x4, x5, x6, none] ∧ Same H1 H' ∧ H' L2 = some (.lst (sg.map fun s => V.str (lineT s))) ∧ H' p = some (.lst vs) ∧ vs.length = i ∧ (∀ (j : Nat) (v : V) (s : Sg), vs[j]? = some v → sg[j]? = some s → SiAt H' v s) ∧ H' d = some (.dT kvs) ∧ kvs.length ≤ i ∧ ∀ q, LkW q → ((valV kvs (lkey q)).isSome = true ↔ ∃ s ∈ sg.take i, s.1 = q))
      ⟨_, _, _, [], [], rfl, t13, hL3, hp3, rfl, (fun j v s h => by simp at h), hd3, Nat.le_refl _, fun q _ => ⟨(fun z => by cases z), fun ⟨s, hs, _⟩ => by simp at hs⟩⟩ (fun i σ H' _ q => by obtain ⟨_, _, _, _, _, _, _, h, _⟩ := q; exact SqL.of h) ?_ ?_⟩
    · rintro i _ _ H4 H4' hi ⟨x4, x5, x6, vs, kvs, rfl, s4, hL4, hp4, vl, hvs, hd4, kl, keys⟩ ⟨T3, y0, y1, rfl, hT, rfl, hy0, hy1⟩
      cases hy0
      rw [List.length_map] at hi
      have hsi : sg[i]? = some sg[i] := List.getElem?_eq_getElem hi
      have hy1 : (sg.map fun s => V.str (lineT s))[i]? = some y1 := hy1
      rw [List.getElem?_map, hsi] at hy1
      cases hy1
      have sT := same_mk (o := .tup [.int (i : Nat), .str (lineT sg[i])]) hT
      refine ⟨T3, _, rfl, SqT.of upd_same, rfl, _, _, rfl, _, _, rfl, rfl, ?_⟩
      have oki := g.ok sg[i] (List.mem_of_getElem? hsi)
      refine ⟨_, rfl, sg[i], rfl, oki, oki.1.1, g.ga _ (List.mem_of_getElem? hsi), fun v H5 s5 sat => ?_⟩
      have s45 := sT.trans s5
      obtain ⟨t, u, va, rfl, ht, hu, ha⟩ := id sat
      have ku : H5 u = some (.tup ((lkey sg[i].1).map kV)) := by rw [lkey_V]; exact hu
      have hd5 := s45 _ _ hd4
      have hp5 := s45 _ _ hp4
      have hL5 := s45 _ _ hL4
      have nk : (valV kvs (lkey sg[i].1)).isSome = false := by
        rw [← Bool.not_eq_true]
        intro z
        obtain ⟨s', hs', e'⟩ := (keys sg[i].1 oki.2.1).mp z
        obtain ⟨j, hj⟩ := List.mem_iff_getElem?.mp hs'
        have lj : j < i := by
          have := (List.getElem?_eq_some_iff.mp hj).1
          rw [List.length_take] at this
          omega
        rw [List.getElem?_take_of_lt lj] at hj
        obtain ⟨lj2, ej⟩ := List.getElem?_eq_some_iff.mp hj
        have nd := List.pairwise_iff_getElem.mp g.nd j i (by rw [List.length_map]; exact lj2) (by rw [List.length_map]; exact hi) lj
        rw [List.getElem_map, List.getElem_map, ej] at nd
        exact nd e'
      refine ⟨_, rfl, _, rfl, iteN (by intro z; cases z) ⟨_, rfl, t, _, 0, _, rfl, rfl, SqT.of ht, atI_nat (j := 0) rfl, _, rfl, d, _, rfl, DGet.t hd5 ku, ?_⟩⟩
      rw [nk]
      refine ⟨_, rfl, iteF ⟨_, rfl, _, rfl, t, _, 0, _, rfl, rfl, SqT.of ht, atI_nat (j := 0) rfl, d, _, rfl, DPut.t hd5 ku ?_, ?_⟩⟩
      · exact Nat.lt_of_le_of_lt (show kvs.length ≤ 1000 by omega) (by decide)
      have ts6 : TupS H5 (upd H5 d (.dT (putK kvs (lkey sg[i].1) (.bl true)))) := tupS_put hd5 fun xs z => by cases z
      have hp6 : upd H5 d (.dT (putK kvs (lkey sg[i].1) (.bl true))) p = some (.lst vs) := by rw [upd_ne pd]; exact hp5
      have hL6 : upd H5 d (.dT (putK kvs (lkey sg[i].1) (.bl true))) L2 = some (.lst (sg.map fun s => V.str (lineT s))) := by rw [upd_ne (ne_of hL5 hd5 (by intro z; cases z))]; exact hL5
      have hd6 := upd_same (H := H5) (a := d) (o := .dT (putK kvs (lkey sg[i].1) (.bl true)))
      have s6 : Same H1 (upd H5 d (.dT (putK kvs (lkey sg[i].1) (.bl true)))) := same_ch (s4.trans s45) hd0
      generalize upd H5 d (.dT (putK kvs (lkey sg[i].1) (.bl true))) = H6 at ts6 hp6 hd6 hL6 s6 ⊢
      have ts7 : TupS H5 (upd H6 p (.lst (vs ++ [.ref t]))) := TupS.trans ts6 (tupS_put hp6 fun xs z => by cases z)
      refine ⟨_, rfl, .inl ⟨rfl, _, SqL.of hp6⟩, _, rfl, p, _, _, rfl, rfl, hp6, ?_, _, _, _, vs ++ [.ref t], putK kvs (lkey sg[i].1) (.bl true), rfl, same_ch s6 hp, by rw [upd_ne nL2]; exact hL6, upd_same, by rw [List.length_append, vl]; rfl, fun j v s h1 h2 => ?_, ?_, ?_, fun q hq => ?_⟩
      · exact Nat.lt_of_lt_of_le (show vs.length < 1001 by omega) (by decide)
      · rcases Nat.lt_or_ge j vs.length with h3 | h3
        · rw [List.getElem?_append_left h3] at h1
          exact ((hvs j v s h1 h2).up s45).tup ts7
        · rw [List.getElem?_append_right h3] at h1
          have j0 : j - vs.length = 0 := by
            have := (List.getElem?_eq_some_iff.mp h1).1
            simp only [List.length_cons, List.length_nil] at this
            omega
          rw [j0] at h1
          rw [show j = i by omega, hsi] at h2
          cases h1
          cases h2
          exact sat.tup ts7
      · rw [upd_ne (Ne.symm pd)]
        exact hd6
      · have := length_putK kvs (lkey sg[i].1) (.bl true)
        omega
      · rw [valV_put]
        have e9 : sg.take (i + 1) = sg.take i ++ [sg[i]] := by
          rw [List.take_succ, hsi]
          rfl
        rw [e9]
        by_cases e : q = sg[i].1
        · subst e
          rw [if_pos rfl]
          exact ⟨fun _ => ⟨sg[i], List.mem_append_right _ (List.mem_singleton.mpr rfl), rfl⟩, fun _ => rfl⟩
        · rw [if_neg fun z => e ((lkey_inj hq oki.2.1).mp z), keys q hq]
          constructor
          · rintro ⟨s, hs, e2⟩
            exact ⟨s, List.mem_append_left _ hs, e2⟩
          · rintro ⟨s, hs, e2⟩
            rcases List.mem_append.mp hs with hs | hs
            · exact ⟨s, hs, e2⟩
            · rw [List.mem_singleton.mp hs] at e2
              exact absurd e2.symm e
    · rintro _ H4 ⟨x4, x5, x6, vs, kvs, rfl, s4, hL4, hp4, vl, hvs, hd4, kl, keys⟩
      have hL5 := s4 _ _ hL1
      have hS : SisL H4 p sg := ⟨vs, hp4, by rw [vl, List.length_map], hvs⟩
      refine ⟨_, rfl, 1, rfl, L, _, _, _, rfl, rfl, SqL.of hL5, atI_last _ _, y, rfl, g.n10, g.yl, fun H5 s5 => ?_⟩
      refine ⟨_, rfl, _, rfl, iteN (by intro z; cases z) ⟨_, rfl, _, rfl, fun o1 dx1 ho1 hdx1 hne1 => ?_⟩⟩
      exact mk_run (hS.up s5) g ho1 hdx1 fun H6 s6 rn => ⟨rfl, fin o1 H6 (((s1.trans s4).trans s5).trans s6) rn⟩
end
end R3

set_option maxHeartbeats 3900000
namespace R3
open PySem PySem.Spec PyProof.Rows L2 TL
open C8 (pss_cut tCut pe_gc)
open CB XW LE LR
abbrev sLAnTx : Stmt := top 73
abbrev sLRnTx : Stmt := top 74
theorem join2 (y a b : Str) : Txt.join y [a, b] = a ++ y ++ b := ext_tl (by
  rw [tl_tjoin, tl_append, tl_append, List.append_assoc]
  rfl)
theorem join1 (y a : Str) : Txt.join y [a] = a := ext_tl (by
  rw [tl_tjoin]
  rfl)
theorem join_lk {k : Lk} (h : k ≠ .ls []) : Txt.join " " (lkS k) = lkT k := by
  cases k with
  | rd p => exact join2 _ _ _
  | ls p =>
    have e : p ≠ [] := fun e => h (by rw [e])
    show Txt.join " " ["list", js p] = wdT (.ls p) ++ " " ++ (if p = [] then ("/" : Str) else js p)
    rw [if_neg e, join2]
    rfl
  | se n => exact join2 _ _ _
  | tl => exact join1 _ _
theorem begin_ls : ("list /" : Str) = lkT (.ls []) := by decide +kernel
theorem begin_len {k : Lk} (h : LkOk k) : ((lkS k).map (·.length)).sum + (lkS k).length * 1 ≤ 2000 := by
  have := pt_len h
  obtain ⟨w1, w2, w3, w4⟩ := wd_lens
  cases k with
  | rd p => show (("read" : Str).length + ((js p).length + 0)) + 2 * 1 ≤ 2000; have : (js p).length ≤ 1000 := this; omega
  | ls p => show (("list" : Str).length + ((js p).length + 0)) + 2 * 1 ≤ 2000; have : (js p).length ≤ 1000 := this; omega
  | se n => show (("setting" : Str).length + (n.length + 0)) + 2 * 1 ≤ 2000; have : n.length ≤ 1000 := this; omega
  | tl => show (("tool" : Str).length + 0) + 1 * 1 ≤ 2000; omega
theorem end_lit (y : Str) : ("end : \"" : Str) ++ y ++ "\"" = endT y := ext_tl (by
  show _ = tl ("end" ++ " : " ++ ("\"" ++ y ++ "\"") : Str)
  simp only [tl_append]
  rw [show tl ("end : \"" : Str) = tl ("end" : Str) ++ tl (" : " : Str) ++ tl ("\"" : Str) from by decide +kernel]
  simp only [List.append_assoc])
def spLRnTx : Sp := fun vs H Q _ => ∃ D y sg, vs = [.ref D, .str y] ∧ SisL H D sg ∧ (∀ s ∈ sg, LkOk s.1 ∧ GoodA s.2) ∧ sg.length ≤ 20 ∧ y.length ≤ 20 ∧ ∀ H', Same H H' → Q (.str (runT sg y)) H'
section
variable {P : Program} {w : World} {K : PySem.W.Frag} {mg : Str → Option Value} {base : Heap}
theorem scLAnTx : FnScope ["_law_answer"] ["_law_answer"] (defScope sLAnTx) := ⟨rfl, rfl, rfl, by decide +kernel, rfl, by decide +kernel, by decide +kernel⟩
theorem ok_lantx {f : Addr} {fd : FuncData} (F : Fun K "_law_answer_text" "_law_answer_text" sLAnTx f fd) (T : TB mg) : FnOk P w K mg base CX0 1 f fd ["_law_answer"] spAnTx := by
  refine F.ok scLAnTx (fun vs H Q E h => ?_) (fun cdv A outer s H vs Q E hr h => ?_)
  · obtain ⟨v, a, rfl, _⟩ := h
    rfl
  · obtain ⟨v, a, rfl, ha, ga, fin⟩ := h
    refine ⟨_, pss_cons (ps_if (pt_cmp (pc_isN (pv 0))) (pss_one (ps_ret pe_str)) (pss_nil))
            (pss_one (ps_ret (pe_ifExp (pt_val (pe_callB call_isi (by rfl) T.isinstance (by decide +kernel) (pa_cons (pv 0) (pa_cons (pe_bltn (v := .ty "str") (by rfl) T.str (by decide +kernel) rfl) pa_nil)))) (pe_op op_add_str (pe_op op_add_str pe_str (pv 0)) pe_str) (pe_op op_add_str (pe_op op_add_str pe_str (pe_join pe_str (pv 0))) pe_str)))), ?_⟩
    have sz : 1100 ≤ sizeLine := by decide
    cases a with
    | no =>
      obtain rfl : v = .non := ha
      exact ⟨_, rfl, _, rfl, iteT fin⟩
    | tx z =>
      obtain rfl : v = .str z := ha
      have zl := ga.2
      obtain ⟨_, l2, _⟩ := lit_len
      refine ⟨_, rfl, _, rfl, iteF ⟨_, rfl, _, _, .type "str", .type "str", true, rfl, .ty "str", .base (.str _), kit_ty (by decide +kernel), _, rfl, iteT ⟨_, rfl, _, _, rfl, rfl, by rw [l2]; omega, _, _, rfl, rfl, by rw [str_add_len, l2]; omega, fin⟩⟩⟩
    | es l =>
      obtain ⟨q, rfl, hq⟩ := ha
      obtain ⟨_, _, l3, l4, l5, _⟩ := lit_len
      have es := es_sum ga.1 ga.2
      have jl2 := join_len " " (eS l)
      rw [l5] at jl2
      rw [ents_V] at hq
      refine ⟨_, rfl, _, rfl, iteF ⟨_, rfl, _, _, .type "tuple", .type "str", false, rfl, .ty "str", .base (.tup hq), kit_ty (by decide +kernel), _, rfl, iteF ?_⟩⟩
      exact ⟨⟨_, rfl⟩, _, rfl, _, q, eS l, rfl, rfl, .inr (SqT.of hq), by rw [l5]; omega, _, _, rfl, rfl, by rw [l3]; omega, _, _, rfl, rfl, by rw [str_add_len, l3, l4]; omega, fin⟩
theorem scLRnTx : FnScope ["_law_sights", "_law_outcome", "_law_lines", "_law_look_here", "_law_answer", "_law_begin"] ["_law_sights", "_law_outcome"] (defScope sLRnTx) := ⟨rfl, rfl, rfl, by decide +kernel, rfl, by decide +kernel, by decide +kernel⟩
theorem ok_lrntx {f fA : Addr} {fd fdA : FuncData} (F : Fun K "_law_run_text" "_law_run_text" sLRnTx f fd) (T : TB mg) (aLAnTx : At K mg "_law_answer_text" fA fdA ["_law_answer"]) (GLAnTx : FnOk P w K mg base CX0 1 fA fdA ["_law_answer"] spAnTx) : FnOk P w K mg base CX0 2 f fd ["_law_sights", "_law_outcome"] spLRnTx := by
  refine F.ok scLRnTx (fun vs H Q E h => ?_) (fun cdv A outer s H vs Q E hr h => ?_)
  · obtain ⟨D, y, sg, rfl, _⟩ := h
    rfl
  · obtain ⟨D, y, sg, rfl, ⟨vs, hD, vl, hvs⟩, ok, ln, yl, fin⟩ := h
    have hu := hr.units
    have sz : 1000000 ≤ sizeLine := by decide
    obtain ⟨l1, l2, l3, l4, l5, l6, l7, l8⟩ := lit_len
    refine ⟨_, pss_cons (ps_set (i := 2) scLRnTx.nd rfl (Or.inl rfl) (pe_lst pa_nil))
            (pss_cons (ps_for PassesOwn.never rfl (pi_list (pv 0)) (pg_tup rfl (pgs_cons (pg_name (i := 3) scLRnTx.nd rfl (Or.inl rfl)) (pgs_cons (pg_name (i := 4) scLRnTx.nd rfl (Or.inl rfl)) pgs_nil))) (pss_cons (ps_set (i := 5) scLRnTx.nd rfl (Or.inl rfl) (pe_ifExp (pt_cmpR (op_eqD hu) (pv 3) (pe_tup (pa_cons pe_str (pa_cons pe_str pa_nil))) (nomark _)) pe_str (pe_join pe_str (pv 3))))
            (pss_one (ps_expr (pe_bm PySem.F.plainAttrs_list PySem.F.slot_list_append PySem.F.type_list_append mt_append (pv 2) (pa_cons (pe_op op_add_str (pe_op op_add_str (pv 5) pe_str) (pe_call GLAnTx (hr.mono (by decide)) rfl aLAnTx.m aLAnTx.k aLAnTx.b .nil pass0 (pa_cons (pv 4) pa_nil))) pa_nil))))))
            (pss_one (ps_ret (pe_join pe_str (pe_op op_cat (pv 2) (pe_lst (pa_cons (pe_op op_add_str (pe_op op_add_str pe_str (pv 1)) pe_str) pa_nil))))))), ?_⟩
    refine ⟨by show 0 ≤ sizeLine; decide, fun L hL => ?_⟩
    have s1 := same_mk (o := .lst []) hL
    have hL1 := upd_same (H := H) (a := L) (o := .lst [])
    generalize upd H L (.lst []) = H1 at s1 hL1 ⊢
    refine ⟨_, rfl, D, rfl, ⟨_, SqL.of (s1 _ _ hD)⟩, for_list (K := K) (a := D) (xs := vs) (fun j σ H' => ∃ x3 x4 x5, σ = [some (.ref D), some (.str y), some (.ref L), x3, x4, x5] ∧ Same H H' ∧ H' L = some (.lst (((sg.take j).map lineT).map V.str)))
      ⟨_, _, _, rfl, s1, hL1⟩ (fun j σ H' _ q => by obtain ⟨_, _, _, _, s, _⟩ := q; exact SqL.of (s _ _ hD)) ?_ ?_⟩
    · rintro j v _ H2 hv ⟨x3, x4, x5, rfl, s2, hL2⟩
      have lj : j < sg.length := by rw [← vl]; exact (List.getElem?_eq_some_iff.mp hv).1
      have hsj : sg[j]? = some sg[j] := List.getElem?_eq_getElem lj
      obtain ⟨t, u, va, rfl, h1, h2, h3⟩ := (hvs j v sg[j] hv hsj).up s2
      have okj := ok sg[j] (List.mem_of_getElem? hsj)
      have kl := lk_len okj.1
      have al := an_len okj.2
      refine ⟨t, _, rfl, SqT.of h1, rfl, _, _, rfl, _, _, rfl, rfl, ?_⟩
      have main : ∀ H3, Same H2 H3 → ∀ x5, ∃ L0 xs v0, V.ref L = .ref L0 ∧ [V.str (lineT sg[j])] = [v0] ∧ H3 L0 = some (.lst xs) ∧ xs.length < sizeLine ∧ ∃ y3 y4 y5, [some (V.ref D), some (V.str y), some (V.ref L), some (V.ref u), some va, x5] = [some (V.ref D), some (V.str y), some (V.ref L), y3, y4, y5] ∧ Same H (upd H3 L0 (.lst (xs ++ [v0]))) ∧ upd H3 L0 (.lst (xs ++ [v0])) L = some (.lst (((sg.take (j + 1)).map lineT).map V.str)) := fun H3 s3 x5 => by
        refine ⟨L, _, _, rfl, rfl, s3 _ _ hL2, ?_, _, _, _, rfl, same_ch (s2.trans s3) hL, ?_⟩
        · rw [List.length_map, List.length_map, List.length_take]
          omega
        · rw [upd_same, List.take_succ, hsj, List.map_append, List.map_append]
          rfl
      have okw := LkOk.w okj.1
      refine ⟨_, rfl, by show 2 ≤ sizeLine; decide, fun q hq => ?_⟩
      have s3 := same_mk (o := .tup [.str "list", .str ""]) hq
      have hq2 := upd_same (H := H2) (a := q) (o := .tup [.str "list", .str ""])
      have hq3 : upd H2 q (.tup [.str "list", .str ""]) q = some (.tup (lkV (.ls []))) := hq2
      generalize upd H2 q (.tup [.str "list", .str ""]) = H3 at s3 hq3 ⊢
      have w0 : LkW (.ls []) := LkOk.w (k := .ls []) ⟨(fun y hy => by cases hy), by decide⟩
      refine ⟨lkD sg[j].1, lkD (.ls []), lk_dp (s3 _ _ h2), lk_dp hq3, lkD_shaped okw, lkD_shaped w0, ?_⟩
      rw [eqv_lk okw w0]
      have hL3 := s3 _ _ hL2
      by_cases e : sg[j].1 = .ls []
      · refine ⟨_, rfl, iteY e ?_⟩
        refine ⟨_, rfl, .inl ⟨rfl, _, SqL.of hL3⟩, _, rfl, _, _, rfl, rfl, ?_, _, rfl, va, sg[j].2, rfl, h3.up s3, okj.2, _, _, rfl, rfl, ?_, ?_⟩
        · rw [begin_ls, ← e, l1]
          omega
        · rw [str_add_len, begin_ls, ← e, l1]
          omega
        · have m := main H3 s3 (some (.str "list /"))
          have e2 : lineT sg[j] = "list /" ++ " : " ++ anT sg[j].2 := by
            unfold lineT
            rw [e, begin_ls]
          rw [e2] at m
          exact m
      · refine ⟨_, rfl, iteN e ?_⟩
        have jl := begin_len okj.1
        refine ⟨⟨_, rfl⟩, _, rfl, " ", u, lkS sg[j].1, rfl, rfl, .inr (SqT.of (by rw [← lkV_S]; exact s3 _ _ h2)), by rw [l5]; omega, ?_⟩
        rw [join_lk e]
        exact ⟨_, rfl, .inl ⟨rfl, _, SqL.of hL3⟩, _, rfl, _, _, rfl, rfl, by rw [l1]; omega, _, rfl, va, sg[j].2, rfl, h3.up s3, okj.2, _, _, rfl, rfl, by rw [str_add_len, l1]; omega, main H3 s3 _⟩
    · rintro _ H2 ⟨x3, x4, x5, rfl, s2, hL2⟩
      rw [vl, List.take_length] at hL2
      have le := end_len yl
      have l9 : ("end : \"" : Str).length = 7 := by decide +kernel
      refine ⟨⟨_, rfl⟩, _, rfl, _, rfl, _, _, rfl, rfl, by rw [l9]; omega, _, _, rfl, rfl, by rw [str_add_len, l9, l2]; omega, by show 1 ≤ sizeLine; decide, fun B hB => ?_⟩
      rw [end_lit]
      have s3 := same_mk (o := .lst [.str (endT y)]) hB
      have hB2 := upd_same (H := H2) (a := B) (o := .lst [.str (endT y)])
      refine ⟨L, B, _, _, rfl, rfl, s3 _ _ hL2, hB2, by rw [List.length_map, List.length_map]; show sg.length + 1 ≤ sizeLine; omega, fun C hC => ?_⟩
      have s4 := same_mk (o := .lst (((sg.map lineT).map V.str) ++ [.str (endT y)])) hC
      have e : ((sg.map lineT).map V.str) ++ [.str (endT y)] = (sg.map lineT ++ [endT y]).map V.str := by
        rw [List.map_append]
        rfl
      refine ⟨_, C, sg.map lineT ++ [endT y], rfl, rfl, .inl (SqL.of (by rw [upd_same, e])), ?_, fin _ ((s2.trans s3).trans s4)⟩
      have := run_sum ok ln yl
      rw [l8]
      omega
end
end R3

set_option maxHeartbeats 3900000
namespace R3
open PySem PySem.Spec PyProof.Rows L2 TL
/-- the same sight, or its text another one -/
def Od (s s' : Sg) : Prop := s' = s ∨ ∃ k z z', s = (k, .tx z) ∧ s' = (k, .tx z')
theorem con_od {s s' : Sg} (h : Od s s') : con s' = con s := by
  rcases h with rfl | ⟨k, z, z', rfl, rfl⟩
  · rfl
  · cases k <;> rfl
theorem foll_od {s s' t : Sg} (h : Od s s') (n : ∀ z, t.2 ≠ .tx z) : follM s' t = follM s t := by
  rcases h with rfl | ⟨k, z, z', rfl, rfl⟩
  · rfl
  · have hk : ∀ k2, follL (k, .tx z') k2 = follL (k, .tx z) k2 := by intro k2; cases k <;> rfl
    obtain ⟨tk, ta⟩ := t
    have e1 : ((k, An.tx z') : Sg) ≠ (tk, ta) := fun e => n z' (by injection e with _ e; exact e.symm)
    have e2 : ((k, An.tx z) : Sg) ≠ (tk, ta) := fun e => n z (by injection e with _ e; exact e.symm)
    unfold follM
    rw [decide_eq_false e1, decide_eq_false e2]
    cases tk <;> cases ta <;> simp [hk]
theorem con_no (t : Sg) : ∀ x ∈ con t, ∀ z, x.2 ≠ .tx z := by
  obtain ⟨k, a⟩ := t
  intro x hx z e
  cases k with
  | rd p =>
    cases a with
    | no => cases hx
    | tx y =>
      rw [show x = (Lk.rd p, An.no) from List.mem_singleton.mp hx] at e
      cases e
    | es l => cases hx
  | ls p =>
    cases a with
    | no => cases hx
    | tx y => cases hx
    | es l =>
      obtain ⟨en, _, rfl⟩ := List.mem_map.mp hx
      cases e
  | se n => cases a <;> cases hx
  | tl => cases a <;> cases hx
theorem den_od {s s' : Sg} (h : Od s s') (t : Sg) : denM s' (con t) = denM s (con t) := by
  unfold denM
  rw [Bool.eq_iff_iff, List.any_eq_true, List.any_eq_true]
  constructor
  · rintro ⟨x, hx, e⟩
    exact ⟨x, hx, by rw [← foll_od h (con_no t x hx)]; exact e⟩
  · rintro ⟨x, hx, e⟩
    exact ⟨x, hx, by rw [foll_od h (con_no t x hx)]; exact e⟩
theorem od_key {s s' : Sg} (h : Od s s') : s'.1 = s.1 := by
  rcases h with rfl | ⟨k, z, z', rfl, rfl⟩ <;> rfl
theorem bars_od {s s' t t' : Sg} (h : Od s s') (h' : Od t t') (ne : s.1 ≠ t.1) : barsM s' t' = barsM s t := by
  unfold barsM
  rw [od_key h, od_key h', if_neg ne, if_neg ne, con_od h, con_od h', den_od h, den_od h']
structure OdL (sg sg' : List Sg) : Prop where
  l : sg'.length = sg.length
  od : ∀ (i : Nat) (s s' : Sg), sg[i]? = some s → sg'[i]? = some s' → Od s s'
  dn : ∀ s ∈ sg', Dn s
  ga : ∀ s ∈ sg', GoodA s.2
theorem OdL.keys {sg sg' : List Sg} (h : OdL sg sg') : sg'.map (·.1) = sg.map (·.1) := by
  refine List.ext_getElem? fun i => ?_
  rw [List.getElem?_map, List.getElem?_map]
  by_cases lt : i < sg.length
  · have e1 : sg[i]? = some sg[i] := List.getElem?_eq_getElem lt
    have lt2 : i < sg'.length := by rw [h.l]; exact lt
    have e2 : sg'[i]? = some sg'[i] := List.getElem?_eq_getElem lt2
    rw [e1, e2]
    exact congrArg some (od_key (h.od i _ _ e1 e2))
  · rw [List.getElem?_eq_none (by rw [h.l]; omega), List.getElem?_eq_none (by omega)]
theorem OdL.tog {sg sg' : List Sg} (h : OdL sg sg') (nd : (sg.map (·.1)).Nodup) (t : Tog sg) : Tog sg' := by
  intro a ha b hb
  obtain ⟨i, hi⟩ := List.mem_iff_getElem?.mp ha
  obtain ⟨j, hj⟩ := List.mem_iff_getElem?.mp hb
  have li := (List.getElem?_eq_some_iff.mp hi).1
  have lj := (List.getElem?_eq_some_iff.mp hj).1
  rw [h.l] at li lj
  have e1 : sg[i]? = some sg[i] := List.getElem?_eq_getElem li
  have e2 : sg[j]? = some sg[j] := List.getElem?_eq_getElem lj
  have oi := h.od i _ _ e1 hi
  have oj := h.od j _ _ e2 hj
  by_cases e : i = j
  · subst e
    rw [hi] at hj
    cases hj
    exact bars_self a
  · have ne : sg[i].1 ≠ sg[j].1 := by
      have q := List.pairwise_iff_getElem.mp nd
      rcases Nat.lt_or_gt_of_ne e with g | g
      · have := q i j (by rw [List.length_map]; exact li) (by rw [List.length_map]; exact lj) g
        rwa [List.getElem_map, List.getElem_map] at this
      · have := q j i (by rw [List.length_map]; exact lj) (by rw [List.length_map]; exact li) g
        rw [List.getElem_map, List.getElem_map] at this
        exact this.symm
    rw [bars_od oi oj ne]
    exact t _ (List.mem_of_getElem? e1) _ (List.mem_of_getElem? e2)
theorem OdL.gr {sg sg' : List Sg} {y : Str} (h : OdL sg sg') (nd : (sg.map (·.1)).Nodup) (t : Tog sg) (l : sg.length ≤ 20) (yl : y.length ≤ 20) (n10 : 10 ∉ tl y) : GR sg' y :=
  ⟨fun s hs => (h.dn s hs).ok, h.ga, by rw [h.keys]; exact nd, h.tog nd t, by rw [h.l]; exact l, yl, n10⟩
theorem texts_good : ∀ t ∈ texts, 10 ∉ tl t ∧ t.length ≤ 20 := by decide +kernel
theorem tools_good : ∀ t ∈ tools, 10 ∉ tl t ∧ t.length ≤ 20 := by decide +kernel
theorem tru_good {zs : List Str} {fs : Fs} {ss : Ss} {z : Str} {k : Lk} {a : An} (h : Tru fs ss z (k, a)) (ok : SiOk (k, a)) (sz : Sz (k, a)) (g : GoodF zs fs) (gs : GoodS zs ss) (tz : z ∈ tools) : GoodA a := by
  have tw : ∀ o : Option Str, (∀ t, o = some t → t ∈ texts) → GoodA (oA o) := fun o h => by
    cases o with
    | none => exact trivial
    | some t => exact texts_good t (h t rfl)
  cases k with
  | rd p =>
    obtain rfl : a = oA (fOf fs p) := h
    refine tw _ fun t e => ?_
    obtain ⟨x, hx, _, e2⟩ := fOf_some e
    rw [← e2]
    exact g.text x hx
  | se n =>
    obtain rfl : a = oA (sOf ss n) := h
    refine tw _ fun t e => ?_
    obtain ⟨x, hx, _, e2⟩ := sOf_some e
    rw [← e2]
    exact gs.text x hx
  | tl =>
    obtain rfl : a = .tx z := h
    exact tools_good z tz
  | ls q =>
    cases a with
    | no => exact trivial
    | tx _ => exact absurd ok.2 (by simp [AnOk])
    | es l => exact ⟨ok.2.1.1, sz.2⟩
end R3

set_option maxHeartbeats 3900000
/-! a block, statement by statement -/
namespace STP
open PySem PySem.Spec PyProof.Rows L2
open C8 (pss_cut tCut pe_gc)
def Step (X : Cx) (st : Stmt) (A B : L2.St → Hp → Prop) : Prop := ∃ t, PS X st t ∧ ∀ (D : Ends) σ H, A σ H → (∀ σ' H', B σ' H' → D.nx σ' H') → t D σ H
def Steps (X : Cx) (ss : List Stmt) (A B : L2.St → Hp → Prop) : Prop := ∃ t, PSs X ss t ∧ ∀ (D : Ends) σ H, A σ H → (∀ σ' H', B σ' H' → D.nx σ' H') → t D σ H
theorem steps_cons {X : Cx} {st : Stmt} {ss : List Stmt} {A B C : L2.St → Hp → Prop} (h : Step X st A B) (r : Steps X ss B C) : Steps X (st :: ss) A C := by
  obtain ⟨t, p, q⟩ := h
  obtain ⟨u, p2, q2⟩ := r
  exact ⟨_, pss_cut p p2, fun D σ H a k => ⟨B, q _ σ H a fun _ _ b => b, fun σ' H' b => q2 D σ' H' b k⟩⟩
theorem steps_one {X : Cx} {st : Stmt} {A B : L2.St → Hp → Prop} (h : Step X st A B) : Steps X [st] A B := by
  obtain ⟨t, p, q⟩ := h
  exact ⟨_, pss_one p, fun D σ H a k => q D σ H a k⟩
/-- what a block itself asks -/
def tW (X : Cx) (ss : List Stmt) : TS := fun D σ H => ∀ (pins : List (Addr × Obj)) (s : Shared), Inv X pins σ H s → wpAny (model X.prog X.w) X.A (execs ss X.env) (SP X pins D) X.xe s
theorem psW {X : Cx} {ss : List Stmt} : PSs X ss (tW X ss) := ⟨fun pins s σ H D I h => h pins s I⟩
theorem Steps.wish {X : Cx} {ss : List Stmt} {A B : L2.St → Hp → Prop} (h : Steps X ss A B) {D : Ends} {σ : L2.St} {H : Hp} (a : A σ H) (k : ∀ σ' H', B σ' H' → D.nx σ' H') : tW X ss D σ H := by
  obtain ⟨t, p, q⟩ := h
  exact fun pins s I => p.run pins s σ H D I (q D σ H a k)
def forBody : Stmt → List Stmt
  | .For _ _ b _ _ => b
  | _ => []
def ifBody : Stmt → List Stmt
  | .If _ b _ _ => b
  | _ => []
/-- the i-th of a block -/
abbrev nth (ss : List Stmt) (i : Nat) : Stmt := ss.getD i (.Pass ⟨0, 0, 0, 0⟩)
end STP

set_option maxHeartbeats 3900000
/-! operators by the text's own methods: rules for ~o, o | u, o & u, x in o, len(o), o == u -/
namespace OW
open PySem PySem.Spec PyProof.Rows L2 PySem.F
section
variable {X : Cx} {k : Nat} {C f : Addr} {fd : FuncData} {ps : List Str} {sp : Sp} {CX : CXT} {E : XK}
/-- what stands where an instance is tracked -/
theorem inst_at {pins : List (Addr × Obj)} {σ : L2.St} {H : Hp} {s : Shared} {a dx : Addr} {fs : List (Str × V)} (I : Inv X pins σ H s) (ha : H a = some (.ins C dx fs)) : ∃ ox od, PySem.W.InstAt s.heap a ox C od := by
  obtain ⟨mA, J, _⟩ := ins_get I.hok ha
  obtain ⟨od, J, _⟩ := J.look
  exact ⟨_, _, J⟩
theorem cmp_back {pins : List (Addr × Obj)} {σ : L2.St} {Q : VK} {A : Around} {m : Sem Value} {Es : Value → Shared → Prop} {s : Shared} (h : wpAny (model X.prog X.w) A m (EP X pins σ Q) Es s) : wpAny (model X.prog X.w) A m (PySem.W.CmpBack (EP X pins σ Q)) Es s :=
  wpAny_mono h (fun u s' hq => by
    obtain ⟨v, H', I', rv, q⟩ := hq
    have e : EP X pins σ Q u s' := ⟨v, H', I', rv, q⟩
    cases v with
    | non => cases rv; exact e
    | bl b => cases rv; exact e
    | int i => obtain ⟨t, rfl⟩ := rv; exact e
    | str z => obtain ⟨t, rfl⟩ := rv; exact e
    | byt z => obtain ⟨t, rfl⟩ := rv; exact e
    | flt z => obtain ⟨t, rfl⟩ := rv; exact e
    | ref z => cases rv; exact e
    | ty z => cases rv; exact e) fun _ _ e => e
/-- a call of a def from within an operation -/
theorem run_in {A : Around} {pins : List (Addr × Obj)} {σ : L2.St} {H : Hp} {s : Shared} {Q : VK} {us : List Value} {vs : List V} (F : FnOk X.prog X.w X.K X.mg X.base CX k f fd ps sp) (sb : Sub X k A) (hb : Binds X.K fd ps []) (hx : Passes CX X E)
    (I : Inv X pins σ H s) (r : Vals vs us) (h : sp vs H Q E) : wpAny (model X.prog X.w) A (call (.ref f) us) (EP X pins σ Q) X.xe s := by
  have e0 : Env0 X.prog X.w X.K X.mg X.base A X.stack s H := by
    have e := I.env0
    exact ⟨by rw [sb.fr]; exact e.frames, e.mod, e.bs, e.bsz, e.funs, e.frf, e.hok, e.bare⟩
  have hl : us.length = ps.length := by rw [← r.length]; exact F.len _ _ _ _ h
  refine wpAny_call (codeAny_mono (F.run A X.stack s H ⟨us, []⟩ us vs Q E sb.room e0 (by
    have := hb s us I.kIn (by simpa using hl)
    simpa using this) r h) fun r s' hq => ?_)
  cases r with
  | error e => exact hx pins σ H s e s' I hq
  | ok fl =>
    cases fl with
    | ret w =>
      obtain ⟨z, H', I', rz, q⟩ := I.after hq
      exact ⟨z, H', I', rz, q⟩
    | next => exact False.elim hq
    | brk => exact False.elim hq
    | cont => exact False.elim hq
/-- ~o -/
def rInv (C : Addr) (sp : Sp) (E : XK) : V → Hp → VK → Prop := fun x H Q => ∃ a dx fs, x = .ref a ∧ H a = some (.ins C dx fs) ∧ sp [.ref a] H Q E
theorem un_inv (F : FnOk X.prog X.w X.K X.mg X.base CX k f fd ps sp) (hr : Room k X.A) (hb : Binds X.K fd ps []) (hx : Passes CX X E) (M : Meth X.K C "__invert__" f) : UnR X (unaryOp .Invert) (rInv C sp E) := by
  intro pins s σ H x v Q I rx h
  obtain ⟨a, dx, fs, rfl, ha, q⟩ := h
  cases rx
  obtain ⟨ox, od, J⟩ := inst_at I ha
  obtain ⟨m, hF⟩ := I.fr
  exact PySem.W.ksp_inv hF I.ok.mod.kin J M.at_ M.fn (run_fn F hr hb .nil hx I (vs := [.ref a]) (.cons rfl .nil) q)
/-- x in o -/
def rInO (C : Addr) (sp : Sp) (E : XK) : R2 := fun x y H Q => ∃ a dx fs, y = .ref a ∧ H a = some (.ins C dx fs) ∧ sp [.ref a, x] H (fun v H' => ∃ b, v = .bl b ∧ Q (.bl b) H') E
theorem op_inO (F : FnOk X.prog X.w X.K X.mg X.base CX k f fd ps sp) (hr : Room k X.A) (hb : Binds X.K fd ps []) (hx : Passes CX X E) (M : Meth X.K C "__contains__" f) : OpR X (compareOp .In) (rInO C sp E) := by
  intro pins s σ H x y v u Q I rx ry h
  obtain ⟨a, dx, fs, rfl, ha, q⟩ := h
  cases ry
  obtain ⟨ox, od, J⟩ := inst_at I ha
  have K0 := I.kIn
  show wpAny (model X.prog X.w) X.A (do return .bool (← contains (.ref a) v)) (EP X pins σ Q) X.xe s
  refine wpAny_bind ?_
  unfold contains
  refine wpAny_holding ?_
  have e0 : stdlibNamesSay? (.ref a) v = none := rfl
  rw [e0]
  refine wpAny_bind (wpAny_bind (J.type.here ((PySem.W.looks_findIn K0 M.at_).here ?_)))
  show wpAny _ _ (if (some (Value.ref f) == some Value.none) = true then _ else _) _ _ s
  rw [if_neg (by simp)]
  have run := run_fn F hr hb .nil hx I (vs := [.ref a, x]) (us := [.ref a, v]) (.cons rfl (.cons rx .nil)) q
  unfold callSpecialUnlessNone?
  refine wpAny_bind (wpAny_bind (wpAny_bind (J.type.here ((PySem.W.looks_findIn K0 M.at_).here ?_))))
  refine wpAny_holding (wpAny_bind ((PySem.W.bind_fn K0 _ (beq_iff_eq.mp M.fn)).here ?_))
  show wpAny _ _ (if (Value.ref f == Value.none) = true then _ else _) _ _ s
  rw [if_neg (by simp)]
  refine wpAny_bind (wpAny_mono run (fun r s' hq => ?_) fun _ _ e => e)
  obtain ⟨w, H', I', rw', b, rfl, q'⟩ := hq
  cases rw'
  refine wpAny_pure ?_
  refine wpAny_truthy_bool (wpAny_pure ⟨.bl b, H', I', rfl, q'⟩)
/-- len(o) -/
def rLenO (C : Addr) (sp : Sp) (E : XK) : List V → Hp → VK → Prop := fun vs H Q => ∃ a dx fs, vs = [.ref a] ∧ H a = some (.ins C dx fs) ∧ sp [.ref a] H (fun v H' => ∃ n : Nat, v = .int (n : Int) ∧ n < 2 ^ 62 ∧ Q (.int (n : Int)) H') E
theorem call_lenO (F : FnOk X.prog X.w X.K X.mg X.base CX k f fd ps sp) (hr : Room (k + 1) X.A) (hb : Binds X.K fd ps []) (hx : Passes CX X E) (M : Meth X.K C "__len__" f) : CallR X (.builtin "len") (rLenO C sp E) := by
  intro pins s σ H xs us Q I r h
  obtain ⟨a, dx, fs, rfl, ha, q⟩ := h
  obtain ⟨ox, od, J⟩ := inst_at I ha
  obtain ⟨u, rfl, ru⟩ := vals1 r
  cases ru
  have K0 := I.kIn
  refine Calls.call_function_entry kind_len plain_len entry_len (args_len1 _) ?_
  unfold Builtin.«len»
  refine wpAny_bind (m := oneArg "len" _) (wpAny_pure ?_)
  have run := run_in F (A := X.A.in1) ⟨hr.in1, rfl⟩ hb hx I (vs := [.ref a]) (us := [.ref a]) (.cons rfl .nil) q
  refine wpAny_bind (m := callSpecial? (.ref a) (Str.ofString "__len__")) (PySem.W.special_fn K0 J M.at_ (beq_iff_eq.mp M.fn) (wpAny_mono run (fun rv s' hq => ?_) fun _ _ e => e))
  obtain ⟨w, H', I', rw', n, rfl, hn, q'⟩ := hq
  obtain ⟨t, rfl⟩ := rw'
  show wpAny _ _ _ _ _ s'
  refine wpAny_bind (wpAny_holding (wpAny_pure ?_))
  refine wpAny_bind (wpAny_letGo ?_)
  show wpAny _ _ (if (n : Int) < 0 then _ else _) _ _ _
  rw [if_neg (by omega)]
  show wpAny _ _ (if (n : Int) ≥ 2 ^ 63 then _ else _) _ _ _
  rw [if_neg (by omega)]
  exact wpAny_bind (wpAny_mkInt (wpAny_pure ⟨_, rfl, ⟨.int n, H', I'.tok _, ⟨_, rfl⟩, q'⟩⟩))
/-- a op b of two instances of one class, by its own method -/
theorem bin_own {op : Operator} {A : Around} {Es : Value → Shared → Prop} {s : Shared} {K : PySem.W.Frag} {x y : Addr} {ox oy : Obj} {od od' : Option Obj} {R : Value → Shared → Prop} (K0 : K.In s.heap) (J : PySem.W.InstAt s.heap x ox C od) (J' : PySem.W.InstAt s.heap y oy C od') (hc : PySem.W.selfFirst K C = true)
    (hs : PySem.W.findIn K (.ref C) (PySem.dunder op.info.2) = some (some (.ref f))) (hf : PySem.W.isFn K (.ref f) = true)
    (h : wpAny (model X.prog X.w) A (call (.ref f) [.ref x, .ref y]) (PySem.W.CmpBack R) Es s) : wpAny (model X.prog X.w) A (binaryOp op (.ref x) (.ref y)) R Es s := by
  obtain ⟨cd, rest, hcd, hm⟩ := PySem.W.ksp_first hc
  rcases hi : op.info with ⟨sym, nm'⟩
  rw [hi] at hs
  dsimp only at hs
  have one := PySem.W.ksp_try K0 J hs hf h
  have L1 : PySem.W.Looks (model X.prog X.w) s.heap (typeOf (.ref x)) (.ref C) := J.type
  have L2' : PySem.W.Looks (model X.prog X.w) s.heap (typeOf (.ref y)) (.ref C) := J'.type
  have L3 : PySem.W.Looks (model X.prog X.w) s.heap (fillsNumberSlot (.ref C) nm') true := PySem.W.fills_K K0 hcd hm hs
  simp only [binaryOp, hi]
  refine wpAny_holding (wpAny_bind ?_)
  unfold binaryOp1
  refine wpAny_bind (L1.here (wpAny_bind (L2'.here (wpAny_bind (L3.here ?_)))))
  have hne : (Value.ref C == Value.ref C) = true := by simp
  simp only [hne, if_true, pure_bind, Bool.and_false, Bool.false_and, Bool.false_eq_true, if_false]
  refine wpAny_bind (wpAny_mono one (fun r s' hr' => ?_) fun _ _ e => e)
  obtain ⟨v, rfl, hq⟩ := hr'
  exact wpAny_pure (wpAny_pure hq)
def rBinO (C : Addr) (sp : Sp) (E : XK) : R2 := fun x y H Q => ∃ a b dx dy fs gs, x = .ref a ∧ y = .ref b ∧ H a = some (.ins C dx fs) ∧ H b = some (.ins C dy gs) ∧ sp [.ref a, .ref b] H Q E
theorem op_binO {op : Operator} (F : FnOk X.prog X.w X.K X.mg X.base CX k f fd ps sp) (hr : Room k X.A) (hb : Binds X.K fd ps []) (hx : Passes CX X E) (hc : PySem.W.selfFirst X.K C = true)
    (hs : PySem.W.findIn X.K (.ref C) (PySem.dunder op.info.2) = some (some (.ref f))) (hf : PySem.W.isFn X.K (.ref f) = true) : OpR X (binaryOp op) (rBinO C sp E) := by
  intro pins s σ H x y v u Q I rx ry h
  obtain ⟨a, b, dx, dy, fs, gs, rfl, rfl, ha, hb', q⟩ := h
  cases rx
  cases ry
  obtain ⟨ox, od, J⟩ := inst_at I ha
  obtain ⟨oy, od', J'⟩ := inst_at I hb'
  exact bin_own I.kIn J J' hc hs hf (cmp_back (run_fn F hr hb .nil hx I (vs := [.ref a, .ref b]) (.cons rfl (.cons rfl .nil)) q))
/-- o == y: y of any kind -/
def rEqO (K : PySem.W.Frag) (C : Addr) (sp : Sp) (E : XK) : R2 := fun x y H Q => ∃ a dx fs t, x = .ref a ∧ H a = some (.ins C dx fs) ∧ TyX K H y t ∧ PySem.W.notFirst K C t = true ∧ sp [.ref a, y] H Q E
theorem op_eqO (F : FnOk X.prog X.w X.K X.mg X.base CX k f fd ps sp) (hr : Room k X.A) (hu : X.A.units < cLine) (hb : Binds X.K fd ps []) (hx : Passes CX X E) (M : Meth X.K C "__eq__" f) : OpR X (compareOp .Eq) (rEqO X.K C sp E) := by
  intro pins s σ H x y v u Q I rx ry h
  obtain ⟨a, dx, fs, t, rfl, ha, ht, hn, q⟩ := h
  cases rx
  obtain ⟨ox, od, J⟩ := inst_at I ha
  obtain ⟨m, hF⟩ := I.fr
  show wpAny (model X.prog X.w) X.A (richCompare .Eq (.ref a) u) (EP X pins σ Q) X.xe s
  exact PySem.W.cmp_K (op := .Eq) (tb := t) hu hF I.ok.mod.kin J (by obtain ⟨P, Z, p, _⟩ := kit_of I ry ht; exact Z.ty _ _ I.kIn p) hn M.at_ M.fn (cmp_back (run_fn F hr hb .nil hx I (vs := [.ref a, y]) (.cons rfl (.cons ry .nil)) q))
theorem ne_slot : PySem.Slot "object" "__ne__" "object.__ne__" := .of (T := "object") (name := "__ne__") (owner := "object") (n := "__ne__") (by rw [typeLookup_type, builtinLookup_eq_fast]; kernel_rfl) (by decide +kernel) (by decide +kernel) (by decide +kernel) (.inl (by decide +kernel)) (by rw [isSubtype_type]; kernel_rfl)
/-- a slot of object's, found in an own class -/
theorem ifBound_B {M : Model} {A : Around} {Es : Value → Shared → Prop} {s : Shared} {K : PySem.W.Frag} {x : Addr} {ox : Obj} {od : Option Obj} {name : Str} {id : String} {args : List Value} {R : Option Value → Shared → Prop} (S : PySem.Slot "object" name id) (K0 : K.In s.heap) (J : PySem.W.InstAt s.heap x ox C od)
    (hs : PySem.W.findIn K (.ref C) name = some (some (.builtin id))) (h : wpAny M A (call (.builtin id) (.ref x :: args)) (fun v => R (some v)) Es s) : wpAny M A (callSpecialIfBound? (.ref x) name args) R Es s := by
  simp only [callSpecialIfBound?, bindSpecialIfBound?]
  refine wpAny_holding (wpAny_bind (wpAny_bind (wpAny_bind (J.type.here ((PySem.W.looks_findIn K0 hs).here ?_)))))
  refine wpAny_bind (wpAny_askSetting (wpAny_ite ?_))
  have fin : wpAny M A (call (.builtin id) ([.ref x] ++ args) >>= fun v => pure (some v)) R Es s := wpAny_bind (wpAny_mono h (fun v s' h' => wpAny_pure h') fun _ _ h' => h')
  split
  · rw [S.bind]
    exact wpAny_bind (wpAny_pure (wpAny_pure (by exact fin)))
  · rw [S.bind]
    exact wpAny_tryCatch (wpAny_bind (wpAny_pure (wpAny_pure (by exact fin))))
/-- o != u of two instances of one class whose == is its own -/
def rNeO (C : Addr) (sp : Sp) (E : XK) : R2 := fun x y H Q => ∃ a b dx dy fs gs, x = .ref a ∧ y = .ref b ∧ H a = some (.ins C dx fs) ∧ H b = some (.ins C dy gs) ∧ sp [.ref a, .ref b] H (fun v H' => ∃ r, v = .bl r ∧ Q (.bl (!r)) H') E
theorem op_neO (F : FnOk X.prog X.w X.K X.mg X.base CX k f fd ps sp) (hr : Room (k + 1) X.A) (hu : X.A.units + 1 < cLine) (hb : Binds X.K fd ps []) (hx : Passes CX X E) (M : Meth X.K C "__eq__" f)
    (hn : PySem.W.findIn X.K (.ref C) "__ne__" = some (some (.builtin "object.__ne__"))) (hO : PySem.W.subIn X.K (.ref C) (.type "object") = some true) : OpR X (compareOp .NotEq) (rNeO C sp E) := by
  intro pins s σ H x y v u Q I rx ry h
  obtain ⟨a, b, dx, dy, fs, gs, rfl, rfl, ha, hb', q⟩ := h
  cases rx
  cases ry
  obtain ⟨ox, od, J⟩ := inst_at I ha
  obtain ⟨oy, od', J'⟩ := inst_at I hb'
  have K0 := I.kIn
  have hu0 : X.A.units < cLine := by omega
  show wpAny (model X.prog X.w) X.A (richCompare .NotEq (.ref a) (.ref b)) (EP X pins σ Q) X.xe s
  unfold richCompare
  simp only [oneThing_ref]
  refine wpAny_holding (wpAny_bind (wpAny_cRoomFor hu0 ?_))
  rw [cmpInfo_NotEq]
  dsimp only
  refine wpAny_bind (J.type.here (wpAny_bind (J'.type.here ?_)))
  rw [show (Value.ref C != Value.ref C) = false from by simp]
  simp only [Bool.false_eq_true, if_false]
  refine wpAny_bind (wpAny_pure ?_)
  simp only [Bool.false_eq_true, if_false]
  have run := run_in F (A := X.A.in1) ⟨hr.in1, rfl⟩ hb hx I (vs := [.ref a, .ref b]) (us := [.ref a, .ref b]) (.cons rfl (.cons rfl .nil)) q
  have isO : PySem.W.Looks (model X.prog X.w) s.heap (isInstance (.ref a) (.type "object")) true := J.type.andThen (PySem.W.looks_subIn K0 hO)
  have one : wpAny (model X.prog X.w) X.A (tryCompare (.ref a) "__ne__" (.ref b)) (fun r s' => ∃ v, r = some v ∧ EP X pins σ Q v s') X.xe s := by
    simp only [tryCompare]
    refine wpAny_bind (ifBound_B ne_slot K0 J hn (wpAny_call (codeAny_call_builtin (by decide +kernel) PySem.F.cmpEntry_ne (PySem.W.check_slot PySem.F.cmpKind_ne PySem.F.cmpSplit_ne isO (PySem.F.cmpArgs_ne _ _) ?_))))
    unfold Builtin.«object.__ne__»
    have hu1 : X.A.in1.units < cLine := by
      have : X.A.in1.units = X.A.units + 1 := rfl
      omega
    repeat (first
      | with_reducible refine wpAny_cRoomFor hu1 ?_
      | (refine wpAny_bind (m := callSpecialIfBound? (.ref a) (Str.ofString "__eq__") [.ref b])
          (PySem.W.ifBound_K K0 J M.at_ M.fn (wpAny_mono run (fun r s' hq => by
            obtain ⟨w, H', I', rw', b', rfl, q'⟩ := hq
            cases rw'
            have fin : EP X pins σ Q (.bool (!b')) s' := ⟨.bl (!b'), H', I', rfl, q'⟩
            repeat (first | exact ⟨_, rfl, fin⟩ | exact wpAny_pure ⟨_, rfl, fin⟩ | (refine wpAny_bind (m := truthy (.bool _)) (wpAny_truthy_bool ?_)) | wp_step)) fun _ _ e => e)))
      | wp_step)
  refine wpAny_bind (wpAny_mono one (fun r s' hr' => ?_) fun _ _ e => e)
  obtain ⟨v, rfl, hq⟩ := hr'
  exact wpAny_pure hq
end
end OW

set_option maxHeartbeats 3900000
namespace R3
open PySem PySem.Spec PyProof.Rows L2 TL
open CB XW LE LR RP FI
def Ch (x : Str) : Prop := ∀ c ∈ tl x, c < 2000000
instance (x : Str) : Decidable (Ch x) := by unfold Ch; infer_instance
theorem Ch.app {x y : Str} (h : Ch x) (h' : Ch y) : Ch (x ++ y) := fun c hc => by
  rw [tl_append] at hc
  rcases List.mem_append.mp hc with q | q
  · exact h c q
  · exact h' c q
theorem Ch.join {y : Str} {ps : List Str} (h : Ch y) (h' : ∀ p ∈ ps, Ch p) : Ch (Txt.join y ps) := fun c hc => by
  rw [tl_tjoin] at hc
  rcases mem_joinL hc with q | ⟨x, hx, q⟩
  · exact h c q
  · obtain ⟨p, hp, rfl⟩ := List.mem_map.mp hx
    exact h' p hp c q
theorem lits : Ch " : " ∧ Ch "\"" ∧ Ch "(" ∧ Ch ")" ∧ Ch " " ∧ Ch "end" ∧ Ch "-" ∧ Ch "\n" := by decide +kernel
theorem ch_lk {k : Lk} (h : LkOk k) : Ch (lkT k) := fun c hc => by have := lk_chars h c hc; omega
theorem ch_ok {z : Str} (h : PyData.strOk z = true) : Ch z := fun c hc => by
  have := Array.all_eq_true_iff_forall_mem.mp h c (Array.mem_toList_iff.mp hc)
  have := of_decide_eq_true this
  omega
theorem ch_an {k : Lk} {a : An} (ok : SiOk' (k, a)) (g : GoodA a) : Ch (anT a) := by
  cases a with
  | no => exact lits.2.2.2.2.2.2.1
  | tx z => exact (lits.2.1.app (ch_ok ok.2.2)).app lits.2.1
  | es l =>
    refine (lits.2.2.1.app (Ch.join lits.2.2.2.2.1 fun p hp => ?_)).app lits.2.2.2.1
    obtain ⟨e, he, rfl⟩ := List.mem_map.mp hp
    intro c hc
    have := ent_chars (g.1 e he) e.2 c hc
    omega
structure Oc (y : Str) : Prop where
  n10 : 10 ∉ tl y
  yl : y.length ≤ 20
  ch : Ch y
theorem ch_run {sg : List Sg} {y : Str} (g : GR sg y) (h : Ch y) : Ch (runT sg y) := by
  refine Ch.join lits.2.2.2.2.2.2.2 fun p hp => ?_
  rcases List.mem_append.mp hp with hp | hp
  · obtain ⟨s, hs, rfl⟩ := List.mem_map.mp hp
    exact ((ch_lk (g.ok s hs).1.1).app lits.1).app (ch_an (k := s.1) (g.ok s hs) (g.ga s hs))
  · rw [List.mem_singleton] at hp
    rw [hp]
    exact (lits.2.2.2.2.2.1.app lits.1).app ((lits.2.1.app h).app lits.2.1)
theorem run_fine {sg : List Sg} {y : Str} (g : GR sg y) (h : Ch y) : Fine (.str (runT sg y)) 20 1000000 :=
  (fine_str (n := 26000) (fun c hc => by have := ch_run g h c hc; omega) (run_len g.lk g.len g.yl)).up (by decide) (by decide)
theorem out_fine {y : Str} (h : Oc y) : Fine (.str y) 20 1000000 := (fine_str (n := 20) (fun c hc => by have := h.ch c hc; omega) h.yl).up (by decide) (by decide)
theorem sis_fineT {ss : List Sg} (d : ∀ s ∈ ss, Dn s) (l : ss.length ≤ 20) : Fine (.tuple (ss.map siD)) 20 1000000 := by
  refine (fine_any (n := 4000) (m := 1000000) (fun x hx => ?_) ?_ (Nat.le_refl 6) (.inl rfl)).up (by decide) (Nat.le_refl _)
  · obtain ⟨s, hs, rfl⟩ := List.mem_map.mp hx
    exact si_fine (d s hs)
  · rw [List.length_map]
    omega
theorem oc_texts : ∀ t ∈ texts, Oc t := by
  have : ∀ t ∈ texts, 10 ∉ tl t ∧ t.length ≤ 20 ∧ Ch t := by decide +kernel
  exact fun t ht => ⟨(this t ht).1, (this t ht).2.1, (this t ht).2.2⟩
abbrev odds : List Str := [" : ", "end : ", "(a b)", "-", "'", " ", "read a : -", "tool", "/", "\"", "\" : \""]
theorem odd_ok : ∀ t ∈ odds, 10 ∉ tl t ∧ t.length ≤ 20 ∧ PyData.strOk t = true := by decide +kernel
theorem oc_lits : Oc " : " ∧ Oc "(a)" ∧ Oc "end" := by
  have : ∀ t ∈ ([" : ", "(a)", "end"] : List Str), 10 ∉ tl t ∧ t.length ≤ 20 ∧ Ch t := by decide +kernel
  have q : ∀ t ∈ ([" : ", "(a)", "end"] : List Str), Oc t := fun t ht => ⟨(this t ht).1, (this t ht).2.1, (this t ht).2.2⟩
  exact ⟨q _ (by simp), q _ (by simp), q _ (by simp)⟩
/-- another text for a sight that is no listing -/
theorem od_dn {k : Lk} {z t : Str} (d : Dn (k, .tx z)) (ht : t ∈ odds) : Dn (k, .tx t) ∧ GoodA (.tx t) := by
  obtain ⟨h1, h2, h3⟩ := odd_ok t ht
  have ok := d.ok
  refine ⟨⟨⟨⟨ok.1.1, ?_⟩, ok.2.1, h3⟩, ?_, h2, d.lk⟩, h1, h2⟩
  · have := ok.1.2
    cases k <;> simp_all [AnOk]
  · have := d.sz
    cases k <;> simp_all [Sz]
end R3

set_option maxHeartbeats 3900000
namespace R3
open PySem PySem.Spec PyProof.Rows L2 TL
open C8 (pss_cut tCut pe_gc)
open STP CB XW LE LR RP FI
abbrev sLaw : Stmt := top 75
abbrev bd (i : Nat) : Stmt := nth (forBody (nth (defBody sLaw) 2)) i
theorem eqRK {X : Cx} {K0 : PySem.W.Frag} {k : Nat} {C f : Addr} {fd : FuncData} {ps : List Str} {sp : Sp} {CX : CXT} {E : XK} (hK : X.K = K0) (F : FnOk X.prog X.w X.K X.mg X.base CX k f fd ps sp) (hr : Room k X.A) (hu : X.A.units < cLine) (hb : L2.Binds X.K fd ps []) (hx : Passes CX X E) (M : Meth X.K C "__eq__" f) :
    OpR X (compareOp .Eq) (OW.rEqO K0 C sp E) := by
  subst hK
  exact OW.op_eqO F hr hu hb hx M
structure PlO (H : Hp) (st l p : Addr) (zs : List Str) : Prop where
  L : Pool H st l p zs
  nd : zs.Nodup
  z1 : 1 < zs.length
  z3 : zs.length ≤ 3
  nm : ∀ y ∈ zs, IsNm y
theorem PlO.but {H H' : Hp} {st l p : Addr} {zs : List Str} (h : PlO H st l p zs) (B : But st l H H') : PlO H' st l p zs := ⟨h.L.but B, h.nd, h.z1, h.z3, h.nm⟩
theorem SisL.tup2 {H H' : Hp} {D : Addr} {ss : List Sg} (h : SisL H D ss) (t : TupS H H') (k : ∀ xs, H D = some (.lst xs) → H' D = some (.lst xs)) : SisL H' D ss := by
  obtain ⟨vs, h1, h2, h3⟩ := h
  exact ⟨vs, k _ h1, h2, fun i v s a b => (h3 i v s a b).tup t⟩
theorem SisL.but {H H' : Hp} {st l D : Addr} {c : Nat} {ss : List Sg} (h : SisL H D ss) (n1 : D ≠ st) (n2 : D ≠ l) (S : Strm H st l c) (B : But st l H H') : SisL H' D ss := h.tup2 (tup_but S B) fun _ e => B _ _ e n1 n2
theorem SisL.put {H : Hp} {D F : Addr} {ss : List Sg} {xs ys : List V} (h : SisL H D ss) (hF : H F = some (.lst xs)) (n : D ≠ F) : SisL (upd H F (.lst ys)) D ss := h.tup2 (tupS_put hF fun _ z => by cases z) fun _ e => by rw [upd_ne n]; exact e
theorem RnAt.but {C st l : Addr} {H H' : Hp} {o : Addr} {c : Nat} {ss : List Sg} {z : Str} (h : RnAt C H o ss z) (S : Strm H st l c) (B : But st l H H') : RnAt C H' o ss z := by
  obtain ⟨dx, t, h1, h2⟩ := h
  obtain ⟨ns, a, m, ⟨g1, g2⟩, _⟩ := id S.ex
  exact ⟨dx, t, B _ _ h1 (ne_of h1 g1 (by intro z; cases z)) (ne_of h1 g2 (by intro z; cases z)), h2.tup (tup_but S B)⟩
theorem RnAt.put {C : Addr} {H : Hp} {o F : Addr} {ss : List Sg} {z : Str} {xs ys : List V} (h : RnAt C H o ss z) (hF : H F = some (.lst xs)) : RnAt C (upd H F (.lst ys)) o ss z := by
  obtain ⟨dx, t, h1, h2⟩ := h
  exact ⟨dx, t, by rw [upd_ne (ne_of h1 hF (by intro z; cases z))]; exact h1, h2.tup (tupS_put hF fun _ z => by cases z)⟩
abbrev Rw := List Sg × Str
theorem on_sh {zs : List Str} {k : Lk} (h : LkOn zs 3 k) : ShN 3 k := by
  cases k
  · exact h.2.1
  · exact h.1
  · trivial
  · trivial
theorem an_tupS {H H' : Hp} {v : V} {a : An} (h : AnAt H v a) (s : TupS H H') : AnAt H' v a := by
  cases a
  · exact h
  · exact h
  · obtain ⟨q, e, hq⟩ := h
    exact ⟨q, e, s _ _ hq⟩
/-- the runs that were found -/
structure FD (CR st l F : Addr) (rows : List Rw) (n : Nat) (H : Hp) : Prop where
  ex : ∃ vs, H F = some (.lst vs) ∧ vs.length = rows.length ∧ ∀ (i : Nat) (v : V) (r : Rw), vs[i]? = some v → rows[i]? = some r → ∃ o, v = .ref o ∧ RnAt CR H o r.1 r.2
  gr : ∀ r ∈ rows, GR r.1 r.2
  n1 : F ≠ st
  n2 : F ≠ l
  len : rows.length = n
theorem FD.but {CR st l F : Addr} {rows : List Rw} {n c : Nat} {H H' : Hp} (h : FD CR st l F rows n H) (S : Strm H st l c) (B : But st l H H') : FD CR st l F rows n H' := by
  obtain ⟨vs, h1, h2, h3⟩ := h.ex
  exact ⟨⟨vs, B _ _ h1 h.n1 h.n2, h2, fun i v r a b => by obtain ⟨o, e, q⟩ := h3 i v r a b; exact ⟨o, e, q.but S B⟩⟩, h.gr, h.n1, h.n2, h.len⟩
theorem FD.up {CR st l F : Addr} {rows : List Rw} {n c : Nat} {H H' : Hp} (h : FD CR st l F rows n H) (S : Strm H st l c) (s : Same H H') : FD CR st l F rows n H' := h.but S (But.same s)
theorem FD.put {CR st l F R : Addr} {rows : List Rw} {n : Nat} {H : Hp} {xs ys : List V} (h : FD CR st l F rows n H) (hR : H R = some (.lst xs)) (ne : F ≠ R) : FD CR st l F rows n (upd H R (.lst ys)) := by
  obtain ⟨vs, h1, h2, h3⟩ := h.ex
  exact ⟨⟨vs, by rw [upd_ne ne]; exact h1, h2, fun i v r a b => by obtain ⟨o, e, q⟩ := h3 i v r a b; exact ⟨o, e, q.put hR⟩⟩, h.gr, h.n1, h.n2, h.len⟩
/-- the sights that are true -/
structure TS (st l F D : Addr) (vz : List V) (zs : List Str) (sg : List Sg) (H : Hp) : Prop where
  h : SisL H D sg
  n1 : D ≠ st
  n2 : D ≠ l
  nF : D ≠ F
  nd : (sg.map (·.1)).Nodup
  tog : Tog sg
  dn : ∀ s ∈ sg, Dn s
  ga : ∀ s ∈ sg, GoodA s.2
  len : sg.length ≤ 10
  hz : H D = some (.lst vz)
theorem TS.but {st l F D : Addr} {vz : List V} {zs : List Str} {sg : List Sg} {c : Nat} {H H' : Hp} (h : TS st l F D vz zs sg H) (S : Strm H st l c) (B : But st l H H') : TS st l F D vz zs sg H' := ⟨h.h.but h.n1 h.n2 S B, h.n1, h.n2, h.nF, h.nd, h.tog, h.dn, h.ga, h.len, B _ _ h.hz h.n1 h.n2⟩
/-- the rows -/
structure RS (st l F R : Addr) (sg sg' : List Sg) (H : Hp) : Prop where
  h : SisL H R sg'
  n1 : R ≠ st
  n2 : R ≠ l
  nF : R ≠ F
  od : OdL sg sg'
theorem RS.but {st l F R : Addr} {sg sg' : List Sg} {c : Nat} {H H' : Hp} (h : RS st l F R sg sg' H) (S : Strm H st l c) (B : But st l H H') : RS st l F R sg sg' H' := ⟨h.h.but h.n1 h.n2 S B, h.n1, h.n2, h.nF, h.od⟩
theorem OdL.snoc {sg sg' : List Sg} {n : Nat} {s s' : Sg} (h : OdL (sg.take n) sg') (hs : sg[n]? = some s) (o : Od s s') (d : Dn s') (g : GoodA s'.2) : OdL (sg.take (n + 1)) (sg' ++ [s']) := by
  have e : sg.take (n + 1) = sg.take n ++ [s] := by
    rw [List.take_succ, hs]
    rfl
  rw [e]
  refine ⟨by rw [List.length_append, List.length_append, h.l]; rfl, fun i a b ha hb => ?_, fun x hx => ?_, fun x hx => ?_⟩
  · by_cases lt : i < (sg.take n).length
    · rw [List.getElem?_append_left lt] at ha
      rw [List.getElem?_append_left (by rw [h.l]; exact lt)] at hb
      exact h.od i a b ha hb
    · rw [List.getElem?_append_right (by omega)] at ha
      rw [List.getElem?_append_right (by rw [h.l]; omega), h.l] at hb
      have l0 : i - (sg.take n).length = 0 := by
        have := (List.getElem?_eq_some_iff.mp ha).1
        simp only [List.length_cons, List.length_nil] at this
        omega
      rw [l0] at ha hb
      cases ha
      cases hb
      exact o
  · rcases List.mem_append.mp hx with hx | hx
    · exact h.dn x hx
    · rw [List.mem_singleton.mp hx]; exact d
  · rcases List.mem_append.mp hx with hx | hx
    · exact h.ga x hx
    · rw [List.mem_singleton.mp hx]; exact g
theorem OdL.nil {sg : List Sg} : OdL (sg.take 0) [] := ⟨rfl, (fun i s s' _ h => by simp at h), (fun s hs => by cases hs), (fun s hs => by cases hs)⟩
theorem sis_snoc {H : Hp} {R : Addr} {sg : List Sg} {vs : List V} {v : V} {s : Sg} (hR : H R = some (.lst vs)) (h : SisL H R sg) (hv : SiAt H v s) : SisL (upd H R (.lst (vs ++ [v]))) R (sg ++ [s]) := SisL.app hR h hv
def J0 (CR : Addr) (F : Addr) (rows : List Rw) (m : Nat) (v0 : V) (st l : Addr) (c : Nat) : L2.St → Hp → Prop := fun σ H => ∃  (x3 x4 x5 x6 x7 x8 x9 x10 x11 x12 x13 x14 x15 x16 : Option V), σ = [some v0, some (.ref st), some (.ref F), x3, x4, x5, x6, x7, x8, x9, x10, x11, x12, x13, x14, x15, x16] ∧ Strm H st l c ∧ c ≤ 400000 ∧ FD CR st l F rows m H
def J1 (CR : Addr) (F : Addr) (rows : List Rw) (m : Nat) (v0 : V) (st l : Addr) (c : Nat) : L2.St → Hp → Prop := fun σ H => ∃ (p : Addr) (zs : List Str) (x3 x5 x6 x7 x8 x9 x10 x11 x12 x13 x14 x15 x16 : Option V), σ = [some v0, some (.ref st), some (.ref F), x3, some (.ref p), x5, x6, x7, x8, x9, x10, x11, x12, x13, x14, x15, x16] ∧ (∃ c' ≤ c + 40, Strm H st l c') ∧ c ≤ 400000 ∧ FD CR st l F rows m H ∧ PlO H st l p zs
def J2 (CR : Addr) (F : Addr) (rows : List Rw) (m : Nat) (v0 : V) (st l : Addr) (c : Nat) : L2.St → Hp → Prop := fun σ H => ∃ (p Z : Addr) (vz : List V) (zs : List Str) (sg : List Sg) (x3 x4 x5 x7 x8 x9 x10 x11 x12 x13 x14 x15 x16 : Option V), σ = [some v0, some (.ref st), some (.ref F), x3, x4, x5, some (.ref Z), x7, x8, x9, x10, x11, x12, x13, x14, x15, x16] ∧ (∃ c' ≤ c + 260, Strm H st l c') ∧ c ≤ 400000 ∧ FD CR st l F rows m H ∧ TS st l F Z vz zs sg H
def K3 (CR : Addr) (F : Addr) (rows : List Rw) (m : Nat) (Z : Addr) (vz : List V) (zs : List Str) (sg : List Sg) (n : Nat) (v0 : V) (st l : Addr) (c : Nat) : L2.St → Hp → Prop := fun σ H => ∃ (R : Addr) (sg2 : List Sg) (x3 x4 x5 x8 x9 x10 x11 x12 x13 x14 x15 x16 : Option V), σ = [some v0, some (.ref st), some (.ref F), x3, x4, x5, some (.ref Z), some (.ref R), x8, x9, x10, x11, x12, x13, x14, x15, x16] ∧ (∃ c' ≤ c + (260 + 2 * n), Strm H st l c') ∧ c ≤ 400000 ∧ FD CR st l F rows m H ∧ TS st l F Z vz zs sg H ∧ RS st l F R (sg.take n) sg2 H ∧ R ≠ Z
def K3s (CR F : Addr) (rows : List Rw) (m : Nat) (v0 : V) (st l : Addr) (c : Nat) : L2.St → Hp → Prop := fun σ H => ∃ Z vz zs sg, K3 CR F rows m Z vz zs sg 0 v0 st l c σ H
def M3 (CR : Addr) (F : Addr) (rows : List Rw) (m : Nat) (Z : Addr) (vz : List V) (zs : List Str) (sg : List Sg) (n : Nat) (s : Sg) (v0 : V) (st l : Addr) (c : Nat) : L2.St → Hp → Prop := fun σ H => ∃ (R u : Addr) (va : V) (sg2 : List Sg) (x3 x4 x5 x10 x11 x12 x13 x14 x15 x16 : Option V), σ = [some v0, some (.ref st), some (.ref F), x3, x4, x5, some (.ref Z), some (.ref R), some (.ref u), some (va), x10, x11, x12, x13, x14, x15, x16] ∧ (∃ c' ≤ c + (260 + 2 * n), Strm H st l c') ∧ c ≤ 400000 ∧ FD CR st l F rows m H ∧ TS st l F Z vz zs sg H ∧ RS st l F R (sg.take n) sg2 H ∧ R ≠ Z ∧ sg[n]? = some s ∧ H u = some (.tup (lkV s.1)) ∧ AnAt H va s.2
def N3 (CR : Addr) (F : Addr) (rows : List Rw) (m : Nat) (Z : Addr) (vz : List V) (zs : List Str) (sg : List Sg) (n : Nat) (s : Sg) (v0 : V) (st l : Addr) (c : Nat) : L2.St → Hp → Prop := fun σ H => ∃ (R u : Addr) (va : V) (sg2 : List Sg) (t : Str) (x3 x4 x5 x11 x12 x13 x14 x15 x16 : Option V), σ = [some v0, some (.ref st), some (.ref F), x3, x4, x5, some (.ref Z), some (.ref R), some (.ref u), some (va), some (.str t), x11, x12, x13, x14, x15, x16] ∧ (∃ c' ≤ c + (261 + 2 * n), Strm H st l c') ∧ c ≤ 400000 ∧ FD CR st l F rows m H ∧ TS st l F Z vz zs sg H ∧ RS st l F R (sg.take n) sg2 H ∧ R ≠ Z ∧ sg[n]? = some s ∧ H u = some (.tup (lkV s.1)) ∧ AnAt H va s.2 ∧ t ∈ odds
def O3 (CR : Addr) (F : Addr) (rows : List Rw) (m : Nat) (Z : Addr) (vz : List V) (zs : List Str) (sg : List Sg) (n : Nat) (s : Sg) (v0 : V) (st l : Addr) (c : Nat) : L2.St → Hp → Prop := fun σ H => ∃ (R u : Addr) (va : V) (sg2 : List Sg) (t : Str) (b : Bool) (x3 x4 x5 x12 x13 x14 x15 x16 : Option V), σ = [some v0, some (.ref st), some (.ref F), x3, x4, x5, some (.ref Z), some (.ref R), some (.ref u), some (va), some (.str t), some (.bl b), x12, x13, x14, x15, x16] ∧ (∃ c' ≤ c + (262 + 2 * n), Strm H st l c') ∧ c ≤ 400000 ∧ FD CR st l F rows m H ∧ TS st l F Z vz zs sg H ∧ RS st l F R (sg.take n) sg2 H ∧ R ≠ Z ∧ sg[n]? = some s ∧ H u = some (.tup (lkV s.1)) ∧ AnAt H va s.2 ∧ t ∈ odds ∧ (b = true → ∃ z, s.2 = .tx z)
/-- rows that are drawn -/
structure TG (st l F R : Addr) (sg : List Sg) (H : Hp) : Prop where
  h : SisL H R sg
  n1 : R ≠ st
  n2 : R ≠ l
  nF : R ≠ F
  gr : ∀ y, Oc y → GR sg y
  dn : ∀ s ∈ sg, Dn s
theorem TG.but {st l F R : Addr} {sg : List Sg} {c : Nat} {H H' : Hp} (h : TG st l F R sg H) (S : Strm H st l c) (B : But st l H H') : TG st l F R sg H' := ⟨h.h.but h.n1 h.n2 S B, h.n1, h.n2, h.nF, h.gr, h.dn⟩
theorem TG.up {st l F R : Addr} {sg : List Sg} {c : Nat} {H H' : Hp} (h : TG st l F R sg H) (S : Strm H st l c) (s : Same H H') : TG st l F R sg H' := h.but S (But.same s)
def J4 (CR : Addr) (F : Addr) (rows : List Rw) (m : Nat) (v0 : V) (st l : Addr) (c : Nat) : L2.St → Hp → Prop := fun σ H => ∃ (R : Addr) (sg : List Sg) (x3 x4 x5 x6 x8 x9 x10 x11 x12 x13 x14 x15 x16 : Option V), σ = [some v0, some (.ref st), some (.ref F), x3, x4, x5, x6, some (.ref R), x8, x9, x10, x11, x12, x13, x14, x15, x16] ∧ (∃ c' ≤ c + 290, Strm H st l c') ∧ c ≤ 400000 ∧ FD CR st l F rows m H ∧ TG st l F R sg H
def J5 (CR : Addr) (F : Addr) (rows : List Rw) (m : Nat) (v0 : V) (st l : Addr) (c : Nat) : L2.St → Hp → Prop := fun σ H => ∃ (R : Addr) (sg : List Sg) (y : Str) (x3 x4 x5 x6 x8 x9 x10 x11 x13 x14 x15 x16 : Option V), σ = [some v0, some (.ref st), some (.ref F), x3, x4, x5, x6, some (.ref R), x8, x9, x10, x11, some (.str y), x13, x14, x15, x16] ∧ (∃ c' ≤ c + 300, Strm H st l c') ∧ c ≤ 400000 ∧ FD CR st l F rows m H ∧ TG st l F R sg H ∧ Oc y
def J6 (CR : Addr) (F : Addr) (rows : List Rw) (m : Nat) (v0 : V) (st l : Addr) (c : Nat) : L2.St → Hp → Prop := fun σ H => ∃ (R o : Addr) (sg : List Sg) (y : Str) (x3 x4 x5 x6 x8 x9 x10 x11 x15 x16 : Option V), σ = [some v0, some (.ref st), some (.ref F), x3, x4, x5, x6, some (.ref R), x8, x9, x10, x11, some (.str y), some (.ref o), some (.str (runT sg y)), x15, x16] ∧ (∃ c' ≤ c + 300, Strm H st l c') ∧ c ≤ 400000 ∧ FD CR st l F rows m H ∧ TG st l F R sg H ∧ Oc y ∧ RnAt CR H o sg y
def J7 (CR : Addr) (F : Addr) (rows : List Rw) (m : Nat) (v0 : V) (st l : Addr) (c : Nat) : L2.St → Hp → Prop := fun σ H => ∃ (R o : Addr) (sg : List Sg) (y : Str) (x3 x4 x5 x6 x8 x9 x10 x11 x16 : Option V), σ = [some v0, some (.ref st), some (.ref F), x3, x4, x5, x6, some (.ref R), x8, x9, x10, x11, some (.str y), some (.ref o), some (.str (runT sg y)), some (.str (runT sg y)), x16] ∧ (∃ c' ≤ c + 300, Strm H st l c') ∧ c ≤ 400000 ∧ FD CR st l F rows m H ∧ TG st l F R sg H ∧ Oc y ∧ RnAt CR H o sg y
def JE (CR : Addr) (F : Addr) (rows : List Rw) (m : Nat) (v0 : V) (st l : Addr) (c : Nat) : L2.St → Hp → Prop := fun σ H => ∃ (sg : List Sg) (y : Str) (x3 x4 x5 x6 x7 x8 x9 x10 x11 x12 x13 x14 x15 x16 : Option V), σ = [some v0, some (.ref st), some (.ref F), x3, x4, x5, x6, x7, x8, x9, x10, x11, x12, x13, x14, x15, x16] ∧ (∃ c' ≤ c + 330, Strm H st l c') ∧ c ≤ 400000 ∧ FD CR st l F (rows ++ [(sg, y)]) (m + 1) H

theorem scLaw : FnScope ["_law_script", "_law_stream", "_law_found", "_law_turn", "_law_pool_here", "_law_w", "_law_sights", "_law_rows", "_law_look_here", "_law_answer", "_law_odd", "_law_is_odd", "_law_outcome", "_law_run", "_law_due", "_law_text_here", "_law_one"] ["_law_script"] (defScope sLaw) := ⟨rfl, rfl, rfl, by decide +kernel, rfl, by decide +kernel, by decide +kernel⟩
structure LV (P : Program) (w : World) (K : PySem.W.Frag) (mg : Str → Option Value) (base : Heap) (CR CS CA : Addr) (fa : Str → Addr) (fd : Str → FuncData) : Prop where
  T : TB mg
  aD : aD' K mg (fa "D") (fd "D")
  GD : FnOk P w K mg base CX0 1 (fa "D") (fd "D") ["_law_stream", "_law_many"] (spDraw)
  aPo : At K mg "_law_pool" (fa "Po") (fd "Po") ["_law_stream", "_law_many"]
  GPo : FnOk P w K mg base CX0 4 (fa "Po") (fd "Po") ["_law_stream", "_law_many"] (spPool)
  aTrue : At K mg "_law_true_sights" (fa "True") (fd "True") ["_law_stream", "_law_pool_here", "_law_many"]
  GTrue : FnOk P w K mg base CX0 6 (fa "True") (fd "True") ["_law_stream", "_law_pool_here", "_law_many"] (spTrue)
  aTe : At K mg "_law_text" (fa "Te") (fd "Te") ["_law_stream"]
  GTe : FnOk P w K mg base CX0 2 (fa "Te") (fd "Te") ["_law_stream"] (spText)
  aP : At K mg "_law_pick" (fa "P") (fd "P") ["_law_stream", "_law_things"]
  GP : FnOk P w K mg base CX0 2 (fa "P") (fd "P") ["_law_stream", "_law_things"] (spPick)
  aLRnTx : At K mg "_law_run_text" (fa "LRnTx") (fd "LRnTx") ["_law_sights", "_law_outcome"]
  GLRnTx : FnOk P w K mg base CX0 2 (fa "LRnTx") (fd "LRnTx") ["_law_sights", "_law_outcome"] (spLRnTx)
  aWr : At K mg "write_run" (fa "Wr") (fd "Wr") ["run"]
  GWr : FnOk P w K mg base CX0 2 (fa "Wr") (fd "Wr") ["run"] (spWr CR)
  aRd : At K mg "read_run" (fa "Rd") (fd "Rd") ["text"]
  GRd : FnOk P w K mg base CX0 12 (fa "Rd") (fd "Rd") ["text"] (spRd CR)
  aSa : At K mg "_law_same" (fa "Sa") (fd "Sa") ["_law_found", "_law_due"]
  GSa : FnG P w K mg base CX0 1 (fa "Sa") (fd "Sa") ["_law_found", "_law_due"] (spSame K)
  R : RCl K mg CR
  IR : ClIs K CR
  mkR : Mk K CR (fa "RIni")
  bRIni : L2.Binds K (fd "RIni") ["self", "sights", "outcome"] []
  GRIni0 : FnOk P w K mg base (CX P w) 10 (fa "RIni") (fd "RIni") ["self", "sights", "outcome"] (spRIni CR CS CA)
  mREq : Meth K CR "__eq__" (fa "REq")
  bREq : L2.Binds K (fd "REq") ["self", "other"] []
  GREq : FnOk P w K mg base CX0 1 (fa "REq") (fd "REq") ["self", "other"] (spREq CR)
  rne : PySem.W.findIn K (.ref CR) "__ne__" = some (some (.builtin "object.__ne__"))
  rso : PySem.W.subIn K (.ref CR) (.type "object") = some true
  nC : PySem.W.notFirst K CR (.ref CR) = true
abbrev XL (P : Program) (w : World) (K : PySem.W.Frag) (mg : Str → Option Value) (base : Heap) (f : Addr) (cdv : Value) (A : Around) (outer : List Env) (s : Shared) (H : Hp) (E : XK) : Cx :=
  (cxOf CX0 P w K mg base ["_law_script", "_law_stream", "_law_found", "_law_turn", "_law_pool_here", "_law_w", "_law_sights", "_law_rows", "_law_look_here", "_law_answer", "_law_odd", "_law_is_odd", "_law_outcome", "_law_run", "_law_due", "_law_text_here", "_law_one"] "law" (defScope sLaw) f cdv A outer s H E).nox
end R3

set_option maxHeartbeats 3900000
namespace R3
open PySem PySem.Spec PyProof.Rows L2 TL
open C8 (pss_cut tCut pe_gc)
open STP CB XW LE LR RP FI
theorem tl_ls : ("tool" : Str) ≠ "list" := by decide +kernel
section
variable {P : Program} {w : World} {K : PySem.W.Frag} {mg : Str → Option Value} {base : Heap} {CR CS CA : Addr} {fa : Str → Addr} {fd : Str → FuncData}
  {f : Addr} {cdv : Value} {A : Around} {outer : List Env} {s : Shared} {H : Hp} {E : XK} {v0 : V} {st l : Addr} {c : Nat}
theorem st0 {F : Addr} {rows : List Rw} {m : Nat}  (Lv : LV P w K mg base CR CS CA fa fd) (hg : A.guards = some []) (SM : (base.get? sysModules).isSome = true) (hr : Room 15 (A.deeper (envOfC "law" (defScope sLaw) s.heap.objs.size f cdv))) : Step (XL P w K mg base f cdv A outer s H E) (bd 0) (J0 CR F rows m v0 st l c) (J1 CR F rows m v0 st l c) := by
  obtain ⟨T, aD, GD, aPo, GPo, aTrue, GTrue, aTe, GTe, aP, GP, aLRnTx, GLRnTx, aWr, GWr, aRd, GRd, aSa, GSa, R, IR, mkR, bRIni, GRIni0, mREq, bREq, GREq, rne, rso, nC⟩ := id Lv
  have GRIni := noX GRIni0
  have hu := hr.units
  have hu0 := Nat.lt_of_le_of_lt (Nat.le_add_right _ 64) hr.units
  have hu1 := Nat.lt_of_le_of_lt (Nat.add_le_add_left (show 1 ≤ 64 by decide) _) hr.units
  refine ⟨_, ps_set (i := 4) scLaw.nd rfl (Or.inl rfl) (pe_call GPo (hr.mono (by decide)) rfl aPo.m aPo.k aPo.b .nil pass0 (pa_cons (pv 1) (pa_cons pe_int pa_nil))), fun D σ H' hA k => ?_⟩
  obtain ⟨x3, x4, x5, x6, x7, x8, x9, x10, x11, x12, x13, x14, x15, x16, rfl, S, hc, fd⟩ := hA
  refine ⟨_, rfl, st, l, c, 3, rfl, S, by omega, by decide, by decide, fun p zs H2 c2 zl nd nm np L B2 S2 hc2 => ?_⟩
  exact k _ _ ⟨p, zs, _, _, _, _, _, _, _, _, _, _, _, _, _, rfl, ⟨c2, by omega, S2⟩, hc, fd.but S B2, ⟨L, nd, by omega, by omega, nm⟩⟩
theorem st1 {F : Addr} {rows : List Rw} {m : Nat}  (Lv : LV P w K mg base CR CS CA fa fd) (hg : A.guards = some []) (SM : (base.get? sysModules).isSome = true) (hr : Room 15 (A.deeper (envOfC "law" (defScope sLaw) s.heap.objs.size f cdv))) : Step (XL P w K mg base f cdv A outer s H E) (bd 1) (J1 CR F rows m v0 st l c) (J2 CR F rows m v0 st l c) := by
  obtain ⟨T, aD, GD, aPo, GPo, aTrue, GTrue, aTe, GTe, aP, GP, aLRnTx, GLRnTx, aWr, GWr, aRd, GRd, aSa, GSa, R, IR, mkR, bRIni, GRIni0, mREq, bREq, GREq, rne, rso, nC⟩ := id Lv
  have GRIni := noX GRIni0
  have hu := hr.units
  have hu0 := Nat.lt_of_le_of_lt (Nat.le_add_right _ 64) hr.units
  have hu1 := Nat.lt_of_le_of_lt (Nat.add_le_add_left (show 1 ≤ 64 by decide) _) hr.units
  refine ⟨_, ps_asg (pe_call GTrue (hr.mono (by decide)) rfl aTrue.m aTrue.k aTrue.b .nil pass0 (pa_cons (pv 1) (pa_cons (pv 4) (pa_cons (pe_call GD (hr.mono (by decide)) rfl aD.m aD.k aD.b .nil pass0 (pa_cons (pv 1) (pa_cons pe_int pa_nil))) pa_nil)))) (pg_tup rfl (pgs_cons (pg_name (i := 5) scLaw.nd rfl (Or.inl rfl)) (pgs_cons (pg_name (i := 6) scLaw.nd rfl (Or.inl rfl)) pgs_nil))), fun D σ H' hA k => ?_⟩
  obtain ⟨p, zs, x3, x5, x6, x7, x8, x9, x10, x11, x12, x13, x14, x15, x16, rfl, ⟨c1, hc1, S⟩, hc, fd, pl⟩ := hA
  have z1 := pl.z1
  have z3 := pl.z3
  refine ⟨_, rfl, _, rfl, _, rfl, st, l, c1, 11, rfl, S, by omega, by decide, by decide, fun n H1 n0 n6 B1 S1 => ?_⟩
  refine ⟨st, l, p, c1 + 1, zs, n, rfl, S1, by omega, (pl.but B1).L, pl.nd, by omega, by omega, pl.nm, n0, by omega, fun T x Z fs ss z sg H2 c2 hT hD sl nd ok on wa g fl gs ssl tz hD0 B2 S2 hc2 => ?_⟩
  have nD := S1.ne_new hD0
  have nDF : Z ≠ F := fun e => by
    obtain ⟨vs, h, _⟩ := (fd.but S B1).ex
    rw [e, h] at hD0
    cases hD0
  obtain ⟨vz, hz, _⟩ := id hD
  refine ⟨T, _, rfl, SqT.of hT, rfl, _, _, rfl, _, _, rfl, rfl, k _ _ ⟨p, Z, _, zs, sg, _, _, _, _, _, _, _, _, _, _, _, _, _, rfl, ⟨c2, by omega, S2⟩, hc, (fd.but S B1).but S1 B2, ⟨hD, nD.1, nD.2, nDF, nd, fun a ha b hb => tru_apart g pl.nm (ok a ha).1.1.1 (ok b hb).1.1.1 (ok a ha).2 (ok b hb).2, fun s hs => ⟨(ok s hs).1.1, (ok s hs).1.2.1, (ok s hs).1.2.2, on_sh (on s hs)⟩, fun s hs => tru_good (k := s.1) (a := s.2) (ok s hs).2 (ok s hs).1.1.1 (ok s hs).1.2.1 g gs tz, by omega, hz⟩⟩⟩
theorem st2 {F : Addr} {rows : List Rw} {m : Nat}  (Lv : LV P w K mg base CR CS CA fa fd) (hg : A.guards = some []) (SM : (base.get? sysModules).isSome = true) (hr : Room 15 (A.deeper (envOfC "law" (defScope sLaw) s.heap.objs.size f cdv))) : Step (XL P w K mg base f cdv A outer s H E) (bd 2) (J2 CR F rows m v0 st l c) (K3s CR F rows m v0 st l c) := by
  obtain ⟨T, aD, GD, aPo, GPo, aTrue, GTrue, aTe, GTe, aP, GP, aLRnTx, GLRnTx, aWr, GWr, aRd, GRd, aSa, GSa, R, IR, mkR, bRIni, GRIni0, mREq, bREq, GREq, rne, rso, nC⟩ := id Lv
  have GRIni := noX GRIni0
  have hu := hr.units
  have hu0 := Nat.lt_of_le_of_lt (Nat.le_add_right _ 64) hr.units
  have hu1 := Nat.lt_of_le_of_lt (Nat.add_le_add_left (show 1 ≤ 64 by decide) _) hr.units
  refine ⟨_, ps_set (i := 7) scLaw.nd rfl (Or.inl rfl) (pe_lst pa_nil), fun D σ H' hA k => ?_⟩
  obtain ⟨p, Z, vz, zs, sg, x3, x4, x5, x7, x8, x9, x10, x11, x12, x13, x14, x15, x16, rfl, ⟨c1, hc1, S⟩, hc, fd, ts⟩ := hA
  refine ⟨by show 0 ≤ sizeLine; decide, fun R hR => ?_⟩
  have s1 := same_mk (o := .lst []) hR
  have nR := S.ne_new hR
  have nRF : R ≠ F := fun e => by
    obtain ⟨vs, h, _⟩ := fd.ex
    rw [e, h] at hR
    cases hR
  have nRD : R ≠ Z := fun e => by
    obtain ⟨vs, h, _⟩ := ts.h
    rw [e, h] at hR
    cases hR
  exact k _ _ ⟨Z, vz, zs, sg, R, [], _, _, _, _, _, _, _, _, _, _, _, _, rfl, ⟨c1, by omega, S.up s1⟩, hc, fd.up S s1, ts.but S (But.same s1), ⟨⟨[], upd_same, rfl, fun i v s h => by simp at h⟩, nR.1, nR.2, nRF, OdL.nil⟩, nRD⟩
theorem s30 {F : Addr} {rows : List Rw} {m : Nat} {Z : Addr} {vz : List V} {zs : List Str} {sg : List Sg} {n : Nat} {s0 : Sg} (Lv : LV P w K mg base CR CS CA fa fd) (hg : A.guards = some []) (SM : (base.get? sysModules).isSome = true) (hr : Room 15 (A.deeper (envOfC "law" (defScope sLaw) s.heap.objs.size f cdv))) : Step (XL P w K mg base f cdv A outer s H E) (nth (forBody (bd 3)) 0) (M3 CR F rows m Z vz zs sg n s0 v0 st l c) (N3 CR F rows m Z vz zs sg n s0 v0 st l c) := by
  obtain ⟨T, aD, GD, aPo, GPo, aTrue, GTrue, aTe, GTe, aP, GP, aLRnTx, GLRnTx, aWr, GWr, aRd, GRd, aSa, GSa, R, IR, mkR, bRIni, GRIni0, mREq, bREq, GREq, rne, rso, nC⟩ := id Lv
  have GRIni := noX GRIni0
  have hu := hr.units
  have hu0 := Nat.lt_of_le_of_lt (Nat.le_add_right _ 64) hr.units
  have hu1 := Nat.lt_of_le_of_lt (Nat.add_le_add_left (show 1 ≤ 64 by decide) _) hr.units
  refine ⟨_, ps_set (i := 10) scLaw.nd rfl (Or.inl rfl) (pe_call GP (hr.mono (by decide)) rfl aP.m aP.k aP.b .nil pass0 (pa_cons (pv 1) (pa_cons (pe_lst (pa_cons pe_str (pa_cons pe_str (pa_cons pe_str (pa_cons pe_str (pa_cons pe_str (pa_cons pe_str (pa_cons pe_str (pa_cons pe_str (pa_cons pe_str (pa_cons pe_str (pa_cons pe_str pa_nil)))))))))))) pa_nil))), fun D σ H' hA k => ?_⟩
  obtain ⟨R, u, va, sg2, x3, x4, x5, x10, x11, x12, x13, x14, x15, x16, rfl, ⟨c1, hc1, S⟩, hc, fd, ts, rs, ne, hn, hu, ha⟩ := hA
  have ln := ts.len
  have li := (List.getElem?_eq_some_iff.mp hn).1
  refine ⟨_, rfl, by show 11 ≤ sizeLine; decide, fun q hq => ?_⟩
  have s1 := same_mk (o := .lst (odds.map V.str)) hq
  have hq1 := upd_same (H := H') (a := q) (o := .lst (odds.map V.str))
  have nq := S.ne_new hq
  refine .inl ⟨st, l, c1, q, odds.map V.str, rfl, S.up s1, by omega, hq1, nq.1, nq.2, by decide, by decide, fun i x H2 hx B2 S2 => ?_⟩
  rw [List.getElem?_map] at hx
  obtain ⟨t, ht, rfl⟩ := Option.map_eq_some_iff.mp hx
  have tb := tup_but (S.up s1) B2
  exact k _ _ ⟨R, u, va, sg2, t, _, _, _, _, _, _, _, _, _, rfl, ⟨c1 + 1, by omega, S2⟩, hc, (fd.up S s1).but (S.up s1) B2, (ts.but S (But.same s1)).but (S.up s1) B2, (rs.but S (But.same s1)).but (S.up s1) B2, ne, hn, tb _ _ (s1 _ _ hu), an_tupS (ha.up s1) tb, List.mem_of_getElem? ht⟩
theorem s31 {F : Addr} {rows : List Rw} {m : Nat} {Z : Addr} {vz : List V} {zs : List Str} {sg : List Sg} {n : Nat} {s0 : Sg} (Lv : LV P w K mg base CR CS CA fa fd) (hg : A.guards = some []) (SM : (base.get? sysModules).isSome = true) (hr : Room 15 (A.deeper (envOfC "law" (defScope sLaw) s.heap.objs.size f cdv))) : Step (XL P w K mg base f cdv A outer s H E) (nth (forBody (bd 3)) 1) (N3 CR F rows m Z vz zs sg n s0 v0 st l c) (O3 CR F rows m Z vz zs sg n s0 v0 st l c) := by
  obtain ⟨T, aD, GD, aPo, GPo, aTrue, GTrue, aTe, GTe, aP, GP, aLRnTx, GLRnTx, aWr, GWr, aRd, GRd, aSa, GSa, R, IR, mkR, bRIni, GRIni0, mREq, bREq, GREq, rne, rso, nC⟩ := id Lv
  have GRIni := noX GRIni0
  have hu := hr.units
  have hu0 := Nat.lt_of_le_of_lt (Nat.le_add_right _ 64) hr.units
  have hu1 := Nat.lt_of_le_of_lt (Nat.add_le_add_left (show 1 ≤ 64 by decide) _) hr.units
  refine ⟨_, ps_set (i := 11) scLaw.nd rfl (Or.inl rfl) (pe_and (pe_cmpR op_ne (pe_ix ix_tup (pv 8) pe_int (fun _ _ => rfl)) pe_str (nomark _)) (pe_and (pe_cmp (pc_notN (pv 9)) rfl) (pe_one (pe_cmpR op_eq (pe_call GD (hr.mono (by decide)) rfl aD.m aD.k aD.b .nil pass0 (pa_cons (pv 1) (pa_cons pe_int pa_nil))) pe_int (nomark _))))), fun D σ H' hA k => ?_⟩
  obtain ⟨R, u, va, sg2, t, x3, x4, x5, x11, x12, x13, x14, x15, x16, rfl, ⟨c1, hc1, S⟩, hc, fd, ts, rs, ne, hn, hu, ha, ht⟩ := hA
  have ln := ts.len
  have li := (List.getElem?_eq_some_iff.mp hn).1
  have ok := (ts.dn s0 (List.mem_of_getElem? hn)).ok
  have fin : ∀ (b : Bool) H2 (c2 : Nat), But st l H' H2 → Strm H2 st l c2 → c2 ≤ c + (262 + 2 * n) → (b = true → ∃ z, s0.2 = .tx z) → O3 CR F rows m Z vz zs sg n s0 v0 st l c [some v0, some (.ref st), some (.ref F), x3, x4, x5, some (.ref Z), some (.ref R), some (.ref u), some va, some (.str t), some (.bl b), x12, x13, x14, x15, x16] H2 := fun b H2 c2 B2 S2 hc2 hb =>
    ⟨R, u, va, sg2, t, b, _, _, _, _, _, _, _, _, rfl, ⟨c2, hc2, S2⟩, hc, fd.but S B2, ts.but S B2, rs.but S B2, ne, hn, tup_but S B2 _ _ hu, an_tupS ha (tup_but S B2), ht, hb⟩
  have no : ∀ H2, Same H' H2 → O3 CR F rows m Z vz zs sg n s0 v0 st l c [some v0, some (.ref st), some (.ref F), x3, x4, x5, some (.ref Z), some (.ref R), some (.ref u), some va, some (.str t), some (.bl false), x12, x13, x14, x15, x16] H2 := fun H2 s2 => fin false H2 c1 (But.same s2) (S.up s2) (by omega) (fun e => by cases e)
  obtain ⟨k0, a0⟩ := s0
  cases k0 with
  | ls p =>
    refine ⟨_, rfl, u, _, 0, _, rfl, rfl, SqT.of hu, atI_nat (j := 0) rfl, rfl, _, rfl, ?_⟩
    rw [eq_strT]
    exact iteF (k _ _ (no _ (Same.refl _)))
  | rd p =>
    refine ⟨_, rfl, u, _, 0, _, rfl, rfl, SqT.of hu, atI_nat (j := 0) rfl, rfl, _, rfl, ?_⟩
    rw [eq_str wd_ne.1]
    refine iteT ?_
    cases a0 with
    | no =>
      obtain rfl : va = .non := ha
      exact ⟨_, rfl, _, rfl, iteF (k _ _ (no _ (Same.refl _)))⟩
    | tx z =>
      obtain rfl : va = .str z := ha
      refine ⟨_, rfl, _, rfl, iteT ?_⟩
      exact ⟨_, rfl, st, l, c1, 3, rfl, S, by omega, by decide, by decide, fun d0 H2 d1 d3 B2 S2 => ⟨rfl, k _ _ (fin _ H2 (c1 + 1) B2 S2 (by omega) fun _ => ⟨z, rfl⟩)⟩⟩
    | es l => exact absurd ok.1.2 (by simp [AnOk])
  | se p =>
    refine ⟨_, rfl, u, _, 0, _, rfl, rfl, SqT.of hu, atI_nat (j := 0) rfl, rfl, _, rfl, ?_⟩
    rw [eq_str wd_ne.2.2.symm]
    refine iteT ?_
    cases a0 with
    | no =>
      obtain rfl : va = .non := ha
      exact ⟨_, rfl, _, rfl, iteF (k _ _ (no _ (Same.refl _)))⟩
    | tx z =>
      obtain rfl : va = .str z := ha
      refine ⟨_, rfl, _, rfl, iteT ?_⟩
      exact ⟨_, rfl, st, l, c1, 3, rfl, S, by omega, by decide, by decide, fun d0 H2 d1 d3 B2 S2 => ⟨rfl, k _ _ (fin _ H2 (c1 + 1) B2 S2 (by omega) fun _ => ⟨z, rfl⟩)⟩⟩
    | es l => exact absurd ok.1.2 (by simp [AnOk])
  | tl =>
    refine ⟨_, rfl, u, _, 0, _, rfl, rfl, SqT.of hu, atI_nat (j := 0) rfl, rfl, _, rfl, ?_⟩
    rw [eq_str tl_ls]
    refine iteT ?_
    cases a0 with
    | no =>
      exact absurd ok.1.2 (by simp [AnOk])
    | tx z =>
      obtain rfl : va = .str z := ha
      refine ⟨_, rfl, _, rfl, iteT ?_⟩
      exact ⟨_, rfl, st, l, c1, 3, rfl, S, by omega, by decide, by decide, fun d0 H2 d1 d3 B2 S2 => ⟨rfl, k _ _ (fin _ H2 (c1 + 1) B2 S2 (by omega) fun _ => ⟨z, rfl⟩)⟩⟩
    | es l => exact absurd ok.1.2 (by simp [AnOk])
end
end R3

set_option maxHeartbeats 3900000
namespace R3
open PySem PySem.Spec PyProof.Rows L2 TL
open C8 (pss_cut tCut pe_gc)
open STP CB XW LE LR RP FI
section
variable {P : Program} {w : World} {K : PySem.W.Frag} {mg : Str → Option Value} {base : Heap} {CR CS CA : Addr} {fa : Str → Addr} {fd : Str → FuncData}
  {f : Addr} {cdv : Value} {A : Around} {outer : List Env} {s : Shared} {H : Hp} {E : XK} {v0 : V} {st l : Addr} {c : Nat}
theorem s32 {F : Addr} {rows : List Rw} {m : Nat} {Z : Addr} {vz : List V} {zs : List Str} {sg : List Sg} {n : Nat} {s0 : Sg} (Lv : LV P w K mg base CR CS CA fa fd) (hg : A.guards = some []) (SM : (base.get? sysModules).isSome = true) (hr : Room 15 (A.deeper (envOfC "law" (defScope sLaw) s.heap.objs.size f cdv))) : Step (XL P w K mg base f cdv A outer s H E) (nth (forBody (bd 3)) 2) (O3 CR F rows m Z vz zs sg n s0 v0 st l c) (K3 CR F rows m Z vz zs sg (n + 1) v0 st l c) := by
  obtain ⟨T, aD, GD, aPo, GPo, aTrue, GTrue, aTe, GTe, aP, GP, aLRnTx, GLRnTx, aWr, GWr, aRd, GRd, aSa, GSa, R, IR, mkR, bRIni, GRIni0, mREq, bREq, GREq, rne, rso, nC⟩ := id Lv
  have GRIni := noX GRIni0
  have hu := hr.units
  have hu0 := Nat.lt_of_le_of_lt (Nat.le_add_right _ 64) hr.units
  have hu1 := Nat.lt_of_le_of_lt (Nat.add_le_add_left (show 1 ≤ 64 by decide) _) hr.units
  refine ⟨_, ps_expr (pe_bm PySem.F.plainAttrs_list PySem.F.slot_list_append PySem.F.type_list_append mt_append (pv 7) (pa_cons (pe_tup (pa_cons (pv 8) (pa_cons (pe_ifExp (pt_val (pv 11)) (pv 10) (pv 9)) pa_nil))) pa_nil)), fun D σ H' hA k => ?_⟩
  obtain ⟨R, u, va, sg2, t, b, x3, x4, x5, x12, x13, x14, x15, x16, rfl, ⟨c1, hc1, S⟩, hc, fd, ts, rs, ne, hn, hu, ha, ht, hb⟩ := hA
  have ln := ts.len
  have li := (List.getElem?_eq_some_iff.mp hn).1
  have mn := List.mem_of_getElem? hn
  obtain ⟨vs, hR, vl, hvs⟩ := id rs.h
  have sl := rs.od.l
  rw [List.length_take] at sl
  have sz : 1000000 ≤ sizeLine := by decide
  have main : ∀ (va' : V) (s' : Sg), s'.1 = s0.1 → Od s0 s' → Dn s' → GoodA s'.2 → AnAt H' va' s'.2 → ∀ q, H' q = none → K3 CR F rows m Z vz zs sg (n + 1) v0 st l c [some v0, some (.ref st), some (.ref F), x3, x4, x5, some (.ref Z), some (.ref R), some (.ref u), some va, some (.str t), some (.bl b), x12, x13, x14, x15, x16] (upd (upd H' q (.tup [.ref u, va'])) R (.lst (vs ++ [.ref q]))) := fun va' s' e1 od dn ga hva q hq => by
    have s1 := same_mk (o := .tup [.ref u, va']) hq
    have hR1 := s1 _ _ hR
    have sa : SiAt (upd H' q (.tup [.ref u, va'])) (.ref q) s' := ⟨q, u, va', rfl, upd_same, by rw [e1]; exact s1 _ _ hu, hva.up s1⟩
    have rs1 := rs.but S (But.same s1)
    exact ⟨R, sg2 ++ [s'], _, _, _, _, _, _, _, _, _, _, _, _, rfl, ⟨c1, by omega, (S.up s1).put ⟨rs.n1, rs.n2⟩⟩, hc, (fd.up S s1).put hR1 rs.nF.symm, ⟨(ts.h.up s1).put hR1 ne.symm, ts.n1, ts.n2, ts.nF, ts.nd, ts.tog, ts.dn, ts.ga, ts.len, by rw [upd_ne ne.symm]; exact s1 _ _ ts.hz⟩, ⟨sis_snoc hR1 rs1.h sa, rs.n1, rs.n2, rs.nF, rs.od.snoc hn od dn ga⟩, ne⟩
  refine ⟨_, rfl, .inl ⟨rfl, _, SqL.of hR⟩, _, rfl, _, rfl, ?_⟩
  cases b with
  | true =>
    obtain ⟨z, hz⟩ := hb rfl
    obtain ⟨k0, a0⟩ := s0
    obtain rfl : a0 = .tx z := hz
    have od := od_dn (ts.dn _ mn) ht
    refine ⟨_, rfl, iteT ⟨_, rfl, by show 2 ≤ sizeLine; decide, fun q hq => ?_⟩⟩
    have s1 := same_mk (o := .tup [.ref u, .str t]) hq
    exact ⟨R, vs, .ref q, rfl, rfl, s1 _ _ hR, by omega, k _ _ (main (.str t) (k0, .tx t) rfl (.inr ⟨k0, z, t, rfl, rfl⟩) od.1 od.2 rfl q hq)⟩
  | false =>
    refine ⟨_, rfl, iteF ⟨_, rfl, by show 2 ≤ sizeLine; decide, fun q hq => ?_⟩⟩
    have s1 := same_mk (o := .tup [.ref u, va]) hq
    exact ⟨R, vs, .ref q, rfl, rfl, s1 _ _ hR, by omega, k _ _ (main va s0 rfl (.inl rfl) (ts.dn _ mn) (ts.ga _ mn) ha q hq)⟩
theorem st3 {F : Addr} {rows : List Rw} {m : Nat}  (Lv : LV P w K mg base CR CS CA fa fd) (hg : A.guards = some []) (SM : (base.get? sysModules).isSome = true) (hr : Room 15 (A.deeper (envOfC "law" (defScope sLaw) s.heap.objs.size f cdv))) : Step (XL P w K mg base f cdv A outer s H E) (bd 3) (K3s CR F rows m v0 st l c) (J4 CR F rows m v0 st l c) := by
  obtain ⟨T, aD, GD, aPo, GPo, aTrue, GTrue, aTe, GTe, aP, GP, aLRnTx, GLRnTx, aWr, GWr, aRd, GRd, aSa, GSa, R, IR, mkR, bRIni, GRIni0, mREq, bREq, GREq, rne, rso, nC⟩ := id Lv
  have GRIni := noX GRIni0
  have hu := hr.units
  have hu0 := Nat.lt_of_le_of_lt (Nat.le_add_right _ 64) hr.units
  have hu1 := Nat.lt_of_le_of_lt (Nat.add_le_add_left (show 1 ≤ 64 by decide) _) hr.units
  refine ⟨_, ps_for PassesOwn.never rfl (pi_list (pv 6)) (pg_tup rfl (pgs_cons (pg_name (i := 8) scLaw.nd rfl (Or.inl rfl)) (pgs_cons (pg_name (i := 9) scLaw.nd rfl (Or.inl rfl)) pgs_nil))) (STP.psW (ss := forBody (nth (forBody (nth (defBody sLaw) 2)) 3))), fun D σ H' hA k => ?_⟩
  obtain ⟨Z, vz, zs, sg, hA⟩ := hA
  have hA0 := hA
  obtain ⟨R, sg2, x3, x4, x5, x8, x9, x10, x11, x12, x13, x14, x15, x16, rfl, _, _, _, ts, _⟩ := hA
  obtain ⟨vs, hZ, vl, hvs⟩ := id ts.h
  have hz0 := ts.hz
  rw [hZ] at hz0
  cases hz0
  have ln := ts.len
  refine ⟨_, rfl, Z, rfl, ⟨_, SqL.of hZ⟩, for_list (K := K) (a := Z) (xs := vz) (fun j σ H => K3 CR F rows m Z vz zs sg j v0 st l c σ H) hA0 (fun j σ H _ y => by obtain ⟨R, sg2, x3, x4, x5, x8, x9, x10, x11, x12, x13, x14, x15, x16, rfl, _, _, _, ts1, _⟩ := y; exact SqL.of ts1.hz) ?_ (fun σ H y => ?_)⟩
  · rintro j v σ1 H1 hx ⟨R, sg2, x3, x4, x5, x8, x9, x10, x11, x12, x13, x14, x15, x16, rfl, hs, hc, fd, ts1, rs1, ne⟩
    have hZ1 := ts1.hz
    have hj : j < sg.length := by
      rw [← vl]
      exact (List.getElem?_eq_some_iff.mp hx).1
    have hri : sg[j]? = some sg[j] := List.getElem?_eq_getElem hj
    obtain ⟨vs1, hZ2, vl1, hvs1⟩ := id ts1.h
    rw [hZ1] at hZ2
    cases hZ2
    obtain ⟨t, u, va, rfl, h1, h2, h3⟩ := hvs1 j v sg[j] hx hri
    refine ⟨t, _, rfl, SqT.of h1, rfl, _, _, rfl, _, _, rfl, rfl, ?_⟩
    refine Steps.wish (steps_cons (s30 Lv hg SM hr (F := F) (rows := rows) (m := m) (Z := Z) (vz := vz) (zs := zs) (sg := sg) (n := j) (s0 := sg[j]) (v0 := v0) (st := st) (l := l) (c := c)) (steps_cons (s31 Lv hg SM hr) (steps_one (s32 Lv hg SM hr)))) ⟨_, u, va, _, _, _, _, _, _, _, _, _, _, _, rfl, hs, hc, fd, ts1, rs1, ne, hri, h2, h3⟩ (fun σ' H2 y => y)
  · obtain ⟨R, sg2, x3, x4, x5, x8, x9, x10, x11, x12, x13, x14, x15, x16, rfl, ⟨c1, hc1, S⟩, hc, fd, ts1, rs1, ne⟩ := y
    have od := rs1.od
    rw [vl, List.take_length] at od
    exact k _ _ ⟨_, _, _, _, _, _, _, _, _, _, _, _, _, _, _, rfl, ⟨c1, by omega, S⟩, hc, fd, ⟨rs1.h, rs1.n1, rs1.n2, rs1.nF, fun y oc => od.gr ts.nd ts.tog (by omega) oc.yl oc.n10, od.dn⟩⟩
end
end R3

set_option maxHeartbeats 3900000
namespace R3
open PySem PySem.Spec PyProof.Rows L2 TL
open C8 (pss_cut tCut pe_gc)
open STP CB XW LE LR RP FI
section
variable {P : Program} {w : World} {K : PySem.W.Frag} {mg : Str → Option Value} {base : Heap} {CR CS CA : Addr} {fa : Str → Addr} {fd : Str → FuncData}
  {f : Addr} {cdv : Value} {A : Around} {outer : List Env} {s : Shared} {H : Hp} {E : XK} {v0 : V} {st l : Addr} {c : Nat}
theorem st4 {F : Addr} {rows : List Rw} {m : Nat}  (Lv : LV P w K mg base CR CS CA fa fd) (hg : A.guards = some []) (SM : (base.get? sysModules).isSome = true) (hr : Room 15 (A.deeper (envOfC "law" (defScope sLaw) s.heap.objs.size f cdv))) : Step (XL P w K mg base f cdv A outer s H E) (bd 4) (J4 CR F rows m v0 st l c) (J5 CR F rows m v0 st l c) := by
  obtain ⟨T, aD, GD, aPo, GPo, aTrue, GTrue, aTe, GTe, aP, GP, aLRnTx, GLRnTx, aWr, GWr, aRd, GRd, aSa, GSa, R, IR, mkR, bRIni, GRIni0, mREq, bREq, GREq, rne, rso, nC⟩ := id Lv
  have GRIni := noX GRIni0
  have hu := hr.units
  have hu0 := Nat.lt_of_le_of_lt (Nat.le_add_right _ 64) hr.units
  have hu1 := Nat.lt_of_le_of_lt (Nat.add_le_add_left (show 1 ≤ 64 by decide) _) hr.units
  refine ⟨_, ps_set (i := 12) scLaw.nd rfl (Or.inl rfl) (pe_call GP (hr.mono (by decide)) rfl aP.m aP.k aP.b .nil pass0 (pa_cons (pv 1) (pa_cons (pe_lst (pa_cons (pe_call GTe (hr.mono (by decide)) rfl aTe.m aTe.k aTe.b .nil pass0 (pa_cons (pv 1) pa_nil)) (pa_cons pe_str (pa_cons pe_str (pa_cons pe_str pa_nil))))) pa_nil))), fun D σ H' hA k => ?_⟩
  obtain ⟨R, sg, x3, x4, x5, x6, x8, x9, x10, x11, x12, x13, x14, x15, x16, rfl, ⟨c1, hc1, S⟩, hc, fd, tg⟩ := hA
  refine ⟨_, rfl, _, rfl, st, l, c1, rfl, S, by omega, fun z H1 hz B1 S1 => ?_⟩
  refine ⟨by show 4 ≤ sizeLine; decide, fun q hq => ?_⟩
  have s2 := same_mk (o := .lst [.str z, .str " : ", .str "(a)", .str "end"]) hq
  have hq1 := upd_same (H := H1) (a := q) (o := .lst [.str z, .str " : ", .str "(a)", .str "end"])
  have nq := S1.ne_new hq
  refine .inl ⟨st, l, c1 + 1, q, [.str z, .str " : ", .str "(a)", .str "end"], rfl, S1.up s2, by omega, hq1, nq.1, nq.2, by show 0 < 4; decide, by show 4 < 1000; decide, fun i x H2 hx B2 S2 => ?_⟩
  have all : ∀ x ∈ [V.str z, .str " : ", .str "(a)", .str "end"], ∃ y, x = .str y ∧ Oc y := by
    intro x hx
    simp only [List.mem_cons, List.not_mem_nil, or_false] at hx
    rcases hx with rfl | rfl | rfl | rfl
    · exact ⟨_, rfl, oc_texts z hz⟩
    · exact ⟨_, rfl, oc_lits.1⟩
    · exact ⟨_, rfl, oc_lits.2.1⟩
    · exact ⟨_, rfl, oc_lits.2.2⟩
  obtain ⟨y, rfl, oc⟩ := all x (List.mem_of_getElem? hx)
  exact k _ _ ⟨R, sg, y, _, _, _, _, _, _, _, _, _, _, _, _, rfl, ⟨c1 + 1 + 1, by omega, S2⟩, hc, ((fd.but S B1).up S1 s2).but (S1.up s2) B2, ((tg.but S B1).up S1 s2).but (S1.up s2) B2, oc⟩
theorem st5 {F : Addr} {rows : List Rw} {m : Nat}  (Lv : LV P w K mg base CR CS CA fa fd) (hg : A.guards = some []) (SM : (base.get? sysModules).isSome = true) (hr : Room 15 (A.deeper (envOfC "law" (defScope sLaw) s.heap.objs.size f cdv))) : Step (XL P w K mg base f cdv A outer s H E) (bd 5) (J5 CR F rows m v0 st l c) (J6 CR F rows m v0 st l c) := by
  obtain ⟨T, aD, GD, aPo, GPo, aTrue, GTrue, aTe, GTe, aP, GP, aLRnTx, GLRnTx, aWr, GWr, aRd, GRd, aSa, GSa, R, IR, mkR, bRIni, GRIni0, mREq, bREq, GREq, rne, rso, nC⟩ := id Lv
  have GRIni := noX GRIni0
  have hu := hr.units
  have hu0 := Nat.lt_of_le_of_lt (Nat.le_add_right _ 64) hr.units
  have hu1 := Nat.lt_of_le_of_lt (Nat.add_le_add_left (show 1 ≤ 64 by decide) _) hr.units
  refine ⟨_, ps_asg (pe_tup (pa_cons (pe_make mkR GRIni (hr.mono (by decide)) rfl R.mg bRIni .nil pass0 (pa_cons (pv 7) (pa_cons (pv 12) pa_nil))) (pa_cons (pe_call GLRnTx (hr.mono (by decide)) rfl aLRnTx.m aLRnTx.k aLRnTx.b .nil pass0 (pa_cons (pv 7) (pa_cons (pv 12) pa_nil))) pa_nil))) (pg_tup rfl (pgs_cons (pg_name (i := 13) scLaw.nd rfl (Or.inr rfl)) (pgs_cons (pg_name (i := 14) scLaw.nd rfl (Or.inl rfl)) pgs_nil))), fun D σ H' hA k => ?_⟩
  obtain ⟨R, sg, y, x3, x4, x5, x6, x8, x9, x10, x11, x13, x14, x15, x16, rfl, ⟨c1, hc1, S⟩, hc, fd, tg, oc⟩ := hA
  have g := tg.gr y oc
  refine ⟨_, rfl, _, rfl, fun o1 dx1 ho1 hdx1 hne1 => ?_⟩
  refine mk_run tg.h g ho1 hdx1 fun H2 s2 rn => ⟨rfl, ?_⟩
  refine ⟨_, rfl, _, rfl, R, y, sg, rfl, tg.h.up s2, g.lk, g.len, g.yl, fun H3 s3 => ?_⟩
  refine ⟨by show 2 ≤ sizeLine; decide, fun q hq => ?_⟩
  have s4 := same_mk (o := .tup [.ref o1, .str (runT sg y)]) hq
  have s24 := (s2.trans s3).trans s4
  refine ⟨q, _, rfl, SqT.of upd_same, rfl, _, _, rfl, _, _, rfl, rfl, k _ _ ⟨R, o1, sg, y, _, _, _, _, _, _, _, _, _, _, rfl, ⟨c1, hc1, S.up s24⟩, hc, fd.up S s24, tg.up S s24, oc, rn.up (s3.trans s4)⟩⟩
theorem st6 {F : Addr} {rows : List Rw} {m : Nat}  (Lv : LV P w K mg base CR CS CA fa fd) (hg : A.guards = some []) (SM : (base.get? sysModules).isSome = true) (hr : Room 15 (A.deeper (envOfC "law" (defScope sLaw) s.heap.objs.size f cdv))) : Step (XL P w K mg base f cdv A outer s H E) (bd 6) (J6 CR F rows m v0 st l c) (J7 CR F rows m v0 st l c) := by
  obtain ⟨T, aD, GD, aPo, GPo, aTrue, GTrue, aTe, GTe, aP, GP, aLRnTx, GLRnTx, aWr, GWr, aRd, GRd, aSa, GSa, R, IR, mkR, bRIni, GRIni0, mREq, bREq, GREq, rne, rso, nC⟩ := id Lv
  have GRIni := noX GRIni0
  have hu := hr.units
  have hu0 := Nat.lt_of_le_of_lt (Nat.le_add_right _ 64) hr.units
  have hu1 := Nat.lt_of_le_of_lt (Nat.add_le_add_left (show 1 ≤ 64 by decide) _) hr.units
  refine ⟨_, ps_set (i := 15) scLaw.nd rfl (Or.inr rfl) (pe_call GWr (hr.mono (by decide)) rfl aWr.m aWr.k aWr.b .nil pass0 (pa_cons (pv 13) pa_nil)), fun D σ H' hA k => ?_⟩
  obtain ⟨R, o, sg, y, x3, x4, x5, x6, x8, x9, x10, x11, x15, x16, rfl, ⟨c1, hc1, S⟩, hc, fd, tg, oc, rn⟩ := hA
  have g := tg.gr y oc
  refine ⟨_, rfl, o, sg, y, rfl, rn, g.len, g.lk, g.yl, g.n10, fun H2 s2 => ?_⟩
  exact k _ _ ⟨R, o, sg, y, _, _, _, _, _, _, _, _, _, rfl, ⟨c1, hc1, S.up s2⟩, hc, fd.up S s2, tg.up S s2, oc, rn.up s2⟩
theorem st7 {F : Addr} {rows : List Rw} {m : Nat}  (Lv : LV P w K mg base CR CS CA fa fd) (hg : A.guards = some []) (SM : (base.get? sysModules).isSome = true) (hr : Room 15 (A.deeper (envOfC "law" (defScope sLaw) s.heap.objs.size f cdv))) : Step (XL P w K mg base f cdv A outer s H E) (bd 7) (J7 CR F rows m v0 st l c) (J7 CR F rows m v0 st l c) := by
  obtain ⟨T, aD, GD, aPo, GPo, aTrue, GTrue, aTe, GTe, aP, GP, aLRnTx, GLRnTx, aWr, GWr, aRd, GRd, aSa, GSa, R, IR, mkR, bRIni, GRIni0, mREq, bREq, GREq, rne, rso, nC⟩ := id Lv
  have GRIni := noX GRIni0
  have hu := hr.units
  have hu0 := Nat.lt_of_le_of_lt (Nat.le_add_right _ 64) hr.units
  have hu1 := Nat.lt_of_le_of_lt (Nat.add_le_add_left (show 1 ≤ 64 by decide) _) hr.units
  refine ⟨_, ps_if (PW.pt (pw_or (pt_not (pt_val (pe_callG GSa hg (hr.mono (by decide)) rfl aSa.m aSa.k aSa.b pass0 (pa_cons (pv 15) (pa_cons (pv 14) pa_nil))))) (pw_or (pt_cmpR (OW.op_neO GREq (hr.mono (by decide)) hu1 bREq pass0 mREq rne rso) (pe_call GRd (hr.mono (by decide)) rfl aRd.m aRd.k aRd.b .nil pass0 (pa_cons (pv 15) pa_nil)) (pv 13) (nomark _)) (pw_or1 (pt_not (pt_val (pe_callG GSa hg (hr.mono (by decide)) rfl aSa.m aSa.k aSa.b pass0 (pa_cons (pe_fld (pe_call GRd (hr.mono (by decide)) rfl aRd.m aRd.k aRd.b .nil pass0 (pa_cons (pv 14) pa_nil)) rfl) (pa_cons (pe_callTy call_tuple_of (by rfl) T.tuple (by decide +kernel) (pa_cons (pv 7) pa_nil)) pa_nil))))))))) (pss_one (ps_ret pe_bl)) (pss_nil), fun D σ H' hA k => ?_⟩
  obtain ⟨R', o, sg, y, x3, x4, x5, x6, x8, x9, x10, x11, x16, rfl, ⟨c1, hc1, S⟩, hc, fd, tg, oc, rn⟩ := hA
  have g := tg.gr y oc
  have siw : ∀ s ∈ sg, SiW s := fun s hs => (g.ok s hs).2
  obtain ⟨dx, t, ho, vs, ht, vl, hvs⟩ := id rn
  refine ⟨_, rfl, _, rfl, .str (runT sg y), .str (runT sg y), .str (runT sg y), rfl, .str _, .str _, run_fine g oc.ch, _, rfl, iteF ?_⟩
  refine ⟨_, rfl, sg, y, rfl, g, fun o2 H2 s2 rn2 => ?_⟩
  obtain ⟨dx2, t2, ho2, _⟩ := id rn2
  refine ⟨_, rfl, o2, o, dx2, dx, _, _, rfl, rfl, ho2, s2 _ _ ho, o2, o, sg, sg, y, y, rfl, rn2, rn.up s2, siw, siw, ?_⟩
  rw [decide_eq_true (show sg = sg ∧ y = y from ⟨rfl, rfl⟩)]
  refine ⟨true, rfl, _, rfl, iteF ?_⟩
  refine ⟨_, rfl, sg, y, rfl, g, fun o3 H3 s3 rn3 => ?_⟩
  have s23 := s2.trans s3
  obtain ⟨dx3, t3, ho3, vs3, ht3, vl3, hvs3⟩ := id rn3
  obtain ⟨ws, hR, wl, hws⟩ := id (tg.h.up s23)
  refine ⟨o3, CR, dx3, _, _, rfl, ho3, R.cl, R.n1, lk_r1 _ _, _, rfl, R', _, rfl, .inl ⟨SqL.of hR, fun tt htt => ?_⟩⟩
  have s4 := same_mk (o := .tup ws) htt
  have s24 := s23.trans s4
  refine ⟨.ref t3, .ref tt, .tuple (sg.map siD), rfl, .tup (s4 _ _ ht3) (sis_dqA vl3 fun i v s a b => (hvs3 i v s a b).up s4), .tup upd_same (sis_dqA wl fun i v s a b => (hws i v s a b).up s4), sis_fineT tg.dn g.len, _, rfl, iteF (k _ _ ⟨R', o, sg, y, _, _, _, _, _, _, _, _, _, rfl, ⟨c1, hc1, S.up s24⟩, hc, fd.up S s24, tg.up S s24, oc, rn.up s24⟩)⟩
theorem st8 {F : Addr} {rows : List Rw} {m : Nat}  (Lv : LV P w K mg base CR CS CA fa fd) (hg : A.guards = some []) (SM : (base.get? sysModules).isSome = true) (hr : Room 15 (A.deeper (envOfC "law" (defScope sLaw) s.heap.objs.size f cdv))) : Step (XL P w K mg base f cdv A outer s H E) (bd 8) (J7 CR F rows m v0 st l c) (J7 CR F rows m v0 st l c) := by
  obtain ⟨T, aD, GD, aPo, GPo, aTrue, GTrue, aTe, GTe, aP, GP, aLRnTx, GLRnTx, aWr, GWr, aRd, GRd, aSa, GSa, R, IR, mkR, bRIni, GRIni0, mREq, bREq, GREq, rne, rso, nC⟩ := id Lv
  have GRIni := noX GRIni0
  have hu := hr.units
  have hu0 := Nat.lt_of_le_of_lt (Nat.le_add_right _ 64) hr.units
  have hu1 := Nat.lt_of_le_of_lt (Nat.add_le_add_left (show 1 ≤ 64 by decide) _) hr.units
  refine ⟨_, ps_if (PW.pt (pw_or (pt_not (pt_val (pe_callG GSa hg (hr.mono (by decide)) rfl aSa.m aSa.k aSa.b pass0 (pa_cons (pe_fld (pe_call GRd (hr.mono (by decide)) rfl aRd.m aRd.k aRd.b .nil pass0 (pa_cons (pv 14) pa_nil)) rfl) (pa_cons (pv 12) pa_nil))))) (pw_or1 (pt_cmpR (OW.op_neO GREq (hr.mono (by decide)) hu1 bREq pass0 mREq rne rso) (pv 13) (pe_make mkR GRIni (hr.mono (by decide)) rfl R.mg bRIni .nil pass0 (pa_cons (pv 7) (pa_cons (pv 12) pa_nil))) (nomark _))))) (pss_one (ps_ret pe_bl)) (pss_nil), fun D σ H' hA k => ?_⟩
  obtain ⟨R', o, sg, y, x3, x4, x5, x6, x8, x9, x10, x11, x16, rfl, ⟨c1, hc1, S⟩, hc, fd, tg, oc, rn⟩ := hA
  have g := tg.gr y oc
  have siw : ∀ s ∈ sg, SiW s := fun s hs => (g.ok s hs).2
  obtain ⟨dx, t, ho, vs, ht, vl, hvs⟩ := id rn
  refine ⟨_, rfl, sg, y, rfl, g, fun o3 H3 s3 rn3 => ?_⟩
  obtain ⟨dx3, t3, ho3, _⟩ := id rn3
  refine ⟨o3, CR, dx3, _, _, rfl, ho3, R.cl, R.n2, lk_r2 _ _, _, rfl, .str y, .str y, .str y, rfl, .str _, .str _, out_fine oc, _, rfl, iteF ?_⟩
  refine ⟨_, rfl, _, rfl, _, rfl, fun o1 dx1 ho1 hdx1 hne1 => ?_⟩
  refine mk_run (tg.h.up s3) g ho1 hdx1 fun H2 s2 rn1 => ⟨rfl, ?_⟩
  have s32 := s3.trans s2
  obtain ⟨dx4, t4, ho4, _⟩ := id rn1
  refine ⟨o, o1, dx, dx4, _, _, rfl, rfl, s32 _ _ ho, ho4, o, o1, sg, sg, y, y, rfl, rn.up s32, rn1, siw, siw, ?_⟩
  rw [decide_eq_true (show sg = sg ∧ y = y from ⟨rfl, rfl⟩)]
  exact ⟨true, rfl, _, rfl, iteF (k _ _ ⟨R', o, sg, y, _, _, _, _, _, _, _, _, _, rfl, ⟨c1, hc1, S.up s32⟩, hc, fd.up S s32, tg.up S s32, oc, rn.up s32⟩)⟩
theorem st9 {F : Addr} {rows : List Rw} {m : Nat} (hm : m ≤ 9) (Lv : LV P w K mg base CR CS CA fa fd) (hg : A.guards = some []) (SM : (base.get? sysModules).isSome = true) (hr : Room 15 (A.deeper (envOfC "law" (defScope sLaw) s.heap.objs.size f cdv))) : Step (XL P w K mg base f cdv A outer s H E) (bd 9) (J7 CR F rows m v0 st l c) (J7 CR F rows m v0 st l c) := by
  obtain ⟨T, aD, GD, aPo, GPo, aTrue, GTrue, aTe, GTe, aP, GP, aLRnTx, GLRnTx, aWr, GWr, aRd, GRd, aSa, GSa, R, IR, mkR, bRIni, GRIni0, mREq, bREq, GREq, rne, rso, nC⟩ := id Lv
  have GRIni := noX GRIni0
  have hu := hr.units
  have hu0 := Nat.lt_of_le_of_lt (Nat.le_add_right _ 64) hr.units
  have hu1 := Nat.lt_of_le_of_lt (Nat.add_le_add_left (show 1 ≤ 64 by decide) _) hr.units
  refine ⟨_, ps_if (pt_val (pe_callB (cr_any rfl) (by rfl) T.any boot_any (pa_cons (pe_lc (own := [("_law_one", 16)]) (g := gName 16) (tt := tYes) rfl scLaw.nd (pi_list (pv 2)) (blkOk_by (own := [("_law_one", 16)]) (N := ["_law_script", "_law_stream", "_law_found", "_law_turn", "_law_pool_here", "_law_w", "_law_sights", "_law_rows", "_law_look_here", "_law_answer", "_law_odd", "_law_is_odd", "_law_outcome", "_law_run", "_law_due", "_law_text_here", "_law_one"]) (sc := defScope sLaw) (by decide +kernel)) (fun _ _ _ _ _ => (pg_name (i := 16) scLaw.nd rfl (Or.inl rfl))) (fun _ _ _ _ _ => pts_nil) (fun _ _ _ _ _ => (by exact (pe_cmpR op_ne (pe_cmpR (eqRK (K0 := K) rfl GREq (hr.mono (by decide)) hu0 bREq pass0 mREq) (pv 16) (pv 13) (nomark _)) (pe_cmpR op_eq (pe_call GWr (hr.mono (by decide)) rfl aWr.m aWr.k aWr.b .nil pass0 (pa_cons (pv 16) pa_nil)) (pv 15) (nomark _)) (nomark _))))) pa_nil))) (pss_one (ps_ret pe_bl)) (pss_nil), fun D σ H' hA k => ?_⟩
  obtain ⟨R', o, sg, y, x3, x4, x5, x6, x8, x9, x10, x11, x16, rfl, ⟨c1, hc1, S⟩, hc, fd, tg, oc, rn⟩ := hA
  have g := tg.gr y oc
  have siw : ∀ s ∈ sg, SiW s := fun s hs => (g.ok s hs).2
  obtain ⟨dx, t, ho, vs, ht, vl, hvs⟩ := id rn
  obtain ⟨us, hF, ul, hus⟩ := id fd.ex
  refine ⟨_, rfl, F, rfl, ⟨_, SqL.of hF⟩, fun D1 hD => ?_⟩
  have sz : (10 : Nat) < 1000000 := by decide
  refine lcW (walk_list (K := K) (a := F) (xs := us)) (List.replicate us.length (.bl false)) (by rw [List.length_replicate]) (by have := fd.len; have := hm; omega) hD (fun H' s' => SqL.of (s' _ _ hF)) ?_ ?_
  · rintro i x z H3 H4 hy s3 ⟨rfl, hx⟩ Q1 k1
    obtain rfl : z = .bl false := List.eq_of_mem_replicate (List.mem_of_getElem? hy)
    have li : i < rows.length := by rw [← ul]; exact (List.getElem?_eq_some_iff.mp hx).1
    have hri : rows[i]? = some rows[i] := List.getElem?_eq_getElem li
    obtain ⟨o2, rfl, rn2⟩ := hus i x rows[i] hx hri
    have gi := fd.gr rows[i] (List.mem_of_getElem? hri)
    have siw2 : ∀ s ∈ rows[i].1, SiW s := fun s hs => (gi.ok s hs).2
    obtain ⟨dx2, t2, ho2, _⟩ := id rn2
    refine ⟨_, rfl, _, rfl, o2, dx2, _, .ref CR, rfl, s3 _ _ ho2, .base (.ins (s3 _ _ ho) R.cl IR.ha IR.hn IR.ht IR.hm), nC, o2, o, rows[i].1, sg, rows[i].2, y, rfl, rn2.up s3, rn.up s3, siw2, siw, ?_⟩
    refine ⟨_, rfl, o2, rows[i].1, rows[i].2, rfl, rn2.up s3, gi.len, gi.lk, gi.yl, gi.n10, fun H5 s5 => ⟨_, rfl, rfl, rfl, ?_⟩⟩
    have eb : decide (rows[i].1 = sg ∧ rows[i].2 = y) = decide (V.str (runT rows[i].1 rows[i].2) = V.str (runT sg y)) := decide_eq_decide.mpr ⟨fun ⟨a, b⟩ => by rw [a, b], fun e => run_inj gi.lk g.lk gi.n10 g.n10 (V.str.inj e)⟩
    rw [eb, decide_eq_true rfl]
    exact k1 _ s5
  · intro H1 s1 hD1
    refine ⟨D1, List.replicate us.length false, rfl, SqL.of (by rw [hD1, List.map_replicate]), ?_⟩
    have anyF : ∀ p : Bool → Bool, p false = false → (List.replicate us.length false).any p = false := fun p hp => by
      rw [List.any_eq_false]
      intro x hx
      rw [List.eq_of_mem_replicate hx, hp]
      decide
    rw [anyF _ rfl]
    exact ⟨_, rfl, iteF (k _ _ ⟨R', o, sg, y, _, _, _, _, _, _, _, _, _, rfl, ⟨c1, hc1, S.up s1⟩, hc, fd.up S s1, tg.up S s1, oc, rn.up s1⟩)⟩
theorem stA {F : Addr} {rows : List Rw} {m : Nat} (hm : m ≤ 9) (Lv : LV P w K mg base CR CS CA fa fd) (hg : A.guards = some []) (SM : (base.get? sysModules).isSome = true) (hr : Room 15 (A.deeper (envOfC "law" (defScope sLaw) s.heap.objs.size f cdv))) : Step (XL P w K mg base f cdv A outer s H E) (bd 10) (J7 CR F rows m v0 st l c) (JE CR F rows m v0 st l c) := by
  obtain ⟨T, aD, GD, aPo, GPo, aTrue, GTrue, aTe, GTe, aP, GP, aLRnTx, GLRnTx, aWr, GWr, aRd, GRd, aSa, GSa, R, IR, mkR, bRIni, GRIni0, mREq, bREq, GREq, rne, rso, nC⟩ := id Lv
  have GRIni := noX GRIni0
  have hu := hr.units
  have hu0 := Nat.lt_of_le_of_lt (Nat.le_add_right _ 64) hr.units
  have hu1 := Nat.lt_of_le_of_lt (Nat.add_le_add_left (show 1 ≤ 64 by decide) _) hr.units
  refine ⟨_, ps_expr (pe_bm PySem.F.plainAttrs_list PySem.F.slot_list_append PySem.F.type_list_append mt_append (pv 2) (pa_cons (pv 13) pa_nil)), fun D σ H' hA k => ?_⟩
  obtain ⟨R', o, sg, y, x3, x4, x5, x6, x8, x9, x10, x11, x16, rfl, ⟨c1, hc1, S⟩, hc, fd, tg, oc, rn⟩ := hA
  have g := tg.gr y oc
  have siw : ∀ s ∈ sg, SiW s := fun s hs => (g.ok s hs).2
  obtain ⟨dx, t, ho, vs, ht, vl, hvs⟩ := id rn
  obtain ⟨us, hF, ul, hus⟩ := id fd.ex
  have fl := fd.len
  refine ⟨_, rfl, .inl ⟨rfl, _, SqL.of hF⟩, _, rfl, F, us, .ref o, rfl, rfl, hF, ?_, ?_⟩
  · exact Nat.lt_of_lt_of_le (show us.length < 11 by omega) (by decide)
  refine k _ _ ⟨sg, y, _, _, _, _, _, _, _, _, _, _, _, _, _, _, rfl, ⟨c1, by omega, S.put ⟨fd.n1, fd.n2⟩⟩, hc, ⟨⟨us ++ [.ref o], upd_same, by rw [List.length_append, List.length_append, ul]; rfl, ?_⟩, fun r hr => ?_, fd.n1, fd.n2, by rw [List.length_append, fl]; rfl⟩⟩
  · intro i v r a b
    by_cases lt : i < us.length
    · rw [List.getElem?_append_left lt] at a
      rw [List.getElem?_append_left (ul ▸ lt)] at b
      obtain ⟨o2, e, q⟩ := hus i v r a b
      exact ⟨o2, e, q.put hF⟩
    · have l1 := (List.getElem?_eq_some_iff.mp a).1
      rw [List.length_append] at l1
      have l2 : ([V.ref o] : List V).length = 1 := rfl
      obtain rfl : i = us.length := by omega
      rw [List.getElem?_append_right (Nat.le_refl _), Nat.sub_self] at a
      rw [ul, List.getElem?_append_right (Nat.le_refl _), Nat.sub_self] at b
      cases a
      cases b
      exact ⟨o, rfl, rn.put hF⟩
  · rcases List.mem_append.mp hr with hr | hr
    · exact fd.gr r hr
    · rw [List.mem_singleton.mp hr]
      exact g
end
end R3

set_option maxHeartbeats 3900000
namespace R3
open PySem PySem.Spec PyProof.Rows L2 TL
open C8 (pss_cut tCut pe_gc)
open STP CB XW LE LR RP FI
theorem run_x : runT [] "x" = "end : \"x\"" ∧ runT [] "" = "end : \"\"" := by decide +kernel
theorem gr_nil (y : Str) (h : y.length ≤ 20) (n : 10 ∉ tl y) : GR [] y := ⟨(fun s hs => by cases hs), (fun s hs => by cases hs), List.nodup_nil, (fun a ha => by cases ha), by decide, h, n⟩
theorem xs_ok : (("x" : Str).length ≤ 20 ∧ 10 ∉ tl ("x" : Str)) ∧ ("" : Str).length ≤ 20 ∧ 10 ∉ tl ("" : Str) := by decide +kernel
theorem sis_nil {H : Hp} {D : Addr} (h : H D = some (.lst [])) : SisL H D [] := ⟨[], h, rfl, fun i v s a => by simp at a⟩
section
variable {P : Program} {w : World} {K : PySem.W.Frag} {mg : Str → Option Value} {base : Heap} {CR CS CA : Addr} {fa : Str → Addr} {fd : Str → FuncData}
  {f : Addr} {cdv : Value} {A : Around} {outer : List Env} {s : Shared} {H : Hp} {E : XK} {v0 : V} {st l : Addr} {c : Nat}
theorem turn {F : Addr} {rows : List Rw} {m : Nat} (hm : m ≤ 9) (Lv : LV P w K mg base CR CS CA fa fd) (hg : A.guards = some []) (SM : (base.get? sysModules).isSome = true) (hr : Room 15 (A.deeper (envOfC "law" (defScope sLaw) s.heap.objs.size f cdv))) : Steps (XL P w K mg base f cdv A outer s H E) (forBody (nth (defBody sLaw) 2)) (J0 CR F rows m v0 st l c) (JE CR F rows m v0 st l c) :=
  steps_cons (st0 Lv hg SM hr) (steps_cons (st1 Lv hg SM hr) (steps_cons (st2 Lv hg SM hr) (steps_cons (st3 Lv hg SM hr) (steps_cons (st4 Lv hg SM hr) (steps_cons (st5 Lv hg SM hr) (steps_cons (st6 Lv hg SM hr) (steps_cons (st7 Lv hg SM hr) (steps_cons (st8 Lv hg SM hr) (steps_cons (st9 hm Lv hg SM hr) (steps_one (stA hm Lv hg SM hr)))))))))))
def spLaw (K : PySem.W.Frag) : Sp := fun vs H Q _ => ∃ (a : Addr) (ns : List Int), vs = [.ref a] ∧ ns.length ≤ 63 ∧ SqL K H a (ns.map V.int) ∧ ∀ H', Q (.bl true) H'
theorem ok_law {f : Addr} {fdl : FuncData} (F : Fun K "law" "law" sLaw f fdl) (VV : LV P w K mg base CR CS CA fa fd) (SM : (base.get? sysModules).isSome = true) : FnG P w K mg base CX0 16 f fdl ["_law_script"] (spLaw K) := by
  refine okG F scLaw (fun vs H Q E h => ?_) (fun cdv A outer s H vs Q E hg hr h => ?_)
  · obtain ⟨a, ns, rfl, _⟩ := h
    rfl
  · have V0 := VV
    obtain ⟨T, aD, GD, aPo, GPo, aTrue, GTrue, aTe, GTe, aP, GP, aLRnTx, GLRnTx, aWr, GWr, aRd, GRd, aSa, GSa, R, IR, mkR, bRIni, GRIni0, mREq, bREq, GREq, rne, rso, nC⟩ := id VV
    have GRIni := noX GRIni0
    have hu := hr.units
    have hu0 := Nat.lt_of_le_of_lt (Nat.le_add_right _ 64) hr.units
    have hu1 := Nat.lt_of_le_of_lt (Nat.add_le_add_left (show 1 ≤ 64 by decide) _) hr.units
    obtain ⟨a, ns, rfl, hl, hS, fin⟩ := h
    refine ⟨_, pss_cut (ps_set (i := 1) scLaw.nd rfl (Or.inl rfl) (pe_lst (pa_cons (pe_callTy call_list_of (by rfl) T.list (by decide +kernel) (pa_cons (pv 0) pa_nil)) (pa_cons pe_int (pa_cons pe_int (pa_cons pe_int pa_nil))))))
      (pss_cut (ps_set (i := 2) scLaw.nd rfl (Or.inl rfl) (pe_lst pa_nil))
      (pss_cut (ps_for PassesOwn.never rfl (pi_range1 rfl T.range (pa_cons pe_int pa_nil)) (pg_name (i := 3) scLaw.nd rfl (Or.inl rfl)) (psW (ss := forBody (nth (defBody sLaw) 2))))
      (pss_one (ps_ret (pe_and (pe_cmpR op_eq (pe_call GWr (hr.mono (by decide)) rfl aWr.m aWr.k aWr.b .nil pass0 (pa_cons (pe_make mkR GRIni (hr.mono (by decide)) rfl R.mg bRIni .nil pass0 (pa_cons (pe_lst pa_nil) (pa_cons pe_str pa_nil))) pa_nil)) pe_str (nomark _)) (pe_one (pe_cmpR (OW.op_eqO GREq (hr.mono (by decide)) hu0 bREq pass0 mREq) (pe_call GRd (hr.mono (by decide)) rfl aRd.m aRd.k aRd.b .nil pass0 (pa_cons pe_str pa_nil)) (pe_make mkR GRIni (hr.mono (by decide)) rfl R.mg bRIni .nil pass0 (pa_cons (pe_lst pa_nil) (pa_cons pe_str pa_nil))) (nomark _)))))))), ?_⟩
    refine ⟨fun σ H' => ∃ st l, σ = [some (.ref a), some (.ref st), none, none, none, none, none, none, none, none, none, none, none, none, none, none, none] ∧ Strm H' st l 0,
      ⟨_, rfl, a, _, rfl, .inl hS, fun l hl0 => ⟨by show 4 ≤ sizeLine; decide, fun st hst => ⟨st, l, rfl, ?_⟩⟩⟩, ?_⟩
    · have e : upd (upd H l (.lst (ns.map V.int))) st (.lst [.ref l, .int 0, .int 0, .int 0]) l = some (.lst (ns.map V.int)) := same_mk hst _ _ upd_same
      exact ⟨ns, 0, 0, ⟨upd_same, e⟩, hl, by decide, by decide, by decide⟩
    rintro _ H0 ⟨st, l, rfl, S0⟩
    refine ⟨fun σ H' => ∃ F, σ = [some (.ref a), some (.ref st), some (.ref F), none, none, none, none, none, none, none, none, none, none, none, none, none, none] ∧ Strm H' st l 0 ∧ FD CR st l F [] 0 H', ⟨by show 0 ≤ sizeLine; decide, fun F hF => ⟨F, rfl, S0.up (same_mk hF), ⟨[], upd_same, rfl, fun i v r e => by simp at e⟩, (fun r hr => by cases hr), (S0.ne_new hF).1, (S0.ne_new hF).2, rfl⟩⟩, ?_⟩
    rintro _ H0 ⟨F, rfl, S0, fd0⟩
    refine ⟨fun _ _ => True, ?_, ?_⟩
    · refine ⟨10, rfl, by decide, by decide, for_range (lo := 0) (n := 10) (fun i σ H' => ∃ x3 x4 x5 x6 x7 x8 x9 x10 x11 x12 x13 x14 x15 x16 rows c, σ = [some (.ref a), some (.ref st), some (.ref F), x3, x4, x5, x6, x7, x8, x9, x10, x11, x12, x13, x14, x15, x16] ∧ Strm H' st l c ∧ c ≤ 330 * i ∧ FD CR st l F rows i H')
        ⟨none, none, none, none, none, none, none, none, none, none, none, none, none, none, [], 0, rfl, S0, Nat.le_refl _, fd0⟩ ?_ (fun _ _ _ => trivial)⟩
      rintro i σ H1 hi ⟨x3, x4, x5, x6, x7, x8, x9, x10, x11, x12, x13, x14, x15, x16, rows, c, rfl, S1, hc1, fd⟩
      refine Steps.wish (turn (F := F) (rows := rows) (m := i) (by omega) V0 hg SM hr (v0 := .ref a) (st := st) (l := l) (c := c)) ⟨_, _, _, _, _, _, _, _, _, _, _, _, _, _, rfl, S1, by omega, fd⟩ ?_
      rintro σ' H' ⟨sg, y, y3, y4, y5, y6, y7, y8, y9, y10, y11, y12, y13, y14, y15, y16, rfl, ⟨c', hc', S'⟩, _, fd'⟩
      exact ⟨y3, y4, y5, y6, y7, y8, y9, y10, y11, y12, y13, y14, y15, y16, _, c', rfl, S', by omega, fd'⟩
    · rintro σ H1 _
      refine ⟨by show 0 ≤ sizeLine; decide, fun E0 hE0 => fun o1 dx1 ho1 hdx1 hne1 => ?_⟩
      have g1 := gr_nil "x" xs_ok.1.1 xs_ok.1.2
      have g2 := gr_nil "" xs_ok.2.1 xs_ok.2.2
      refine mk_run (sis_nil upd_same) g1 ho1 hdx1 fun H2 s2 rn => ⟨rfl, ?_⟩
      refine ⟨o1, [], "x", rfl, rn, g1.len, g1.lk, g1.yl, g1.n10, fun H3 s3 => ⟨rfl, ?_⟩⟩
      rw [run_x.1, eq_strT]
      refine ⟨_, rfl, iteT ?_⟩
      refine ⟨[], "", by rw [run_x.2]; rfl, g2, fun o2 H4 s4 rn2 => ?_⟩
      refine ⟨by show 0 ≤ sizeLine; decide, fun E1 hE1 => fun o3 dx3 ho3 hdx3 hne3 => ?_⟩
      have s5 := same_mk (o := .lst []) hE1
      refine mk_run (sis_nil upd_same) g2 ho3 hdx3 fun H6 s6 rn3 => ⟨rfl, ?_⟩
      have rn4 := (rn2.up s5).up s6
      obtain ⟨da, ta, hoa, _⟩ := id rn4
      obtain ⟨db, tb, hob, _⟩ := id rn3
      refine ⟨o2, da, _, .ref CR, rfl, hoa, .base (.ins hob R.cl IR.ha IR.hn IR.ht IR.hm), nC, o2, o3, [], [], "", "", rfl, rn4, rn3, (fun s hs => by cases hs), (fun s hs => by cases hs), ?_⟩
      rw [decide_eq_true (show ([] : List Sg) = [] ∧ ("" : Str) = "" from ⟨rfl, rfl⟩)]
      exact fin _
end
end R3

set_option maxHeartbeats 0
namespace R3
open PySem PySem.Spec PyProof.Rows L2 EG RP
theorem fun_of {K : PySem.W.Frag} {x q : Str} {st : Stmt} {f : Addr} {fd : FuncData} (F : FunD K x q (defArgs st) (defBody st) (defScope st) [] [] f fd) : Fun K x q st f fd := by
  obtain ⟨oc, od, dV, kV, doc, pm, an, cdv, ct, osl, rfl, lk, hcd, hD, hK⟩ := F.ex
  rcases hD with ⟨_, rfl⟩ | ⟨e, _⟩
  · exact ⟨⟨oc, od, kV, doc, pm, an, cdv, ct, osl, rfl, lk, hcd⟩, F.kp⟩
  · exact absurd rfl e
section
variable {P : Program} {w : World} {K : PySem.W.Frag} {h : Heap} {mg : Str → Option Value} {f : Addr}
theorem whole (X : K.In h) (G : h.Ns mainGlobals mg) (hfa : mg ("law" : Str) = some (.ref f)) (c : He.SaysX faL fnL [] tfL exB w h K) :
    ∃ fd : FuncData, (∀ (s : Shared) (u : Value), BindsTo s fd ⟨[u], []⟩ [("_law_script", u)]) ∧ ∀ base : Heap, K.In base → base.Ns mainGlobals mg → (base.get? sysModules).isSome = true → FnG P w K mg base CX0 16 f fd ["_law_script"] (spLaw K) := by
  have D := c.t.d
  have ex := c.more
  have gl : ∀ x ∈ gloL, mg x = some (.ref (He.ga K x)) := fun x hx => He.glo_ok X G (D.facts (f := .glo x) (List.mem_append_left _ (List.mem_map.mpr ⟨x, hx, rfl⟩)))
  have fr : ∀ x ∈ freeL, mg x = none := fun x hx => He.free_ok X G (D.facts (f := .free x) (List.mem_append_right _ (List.mem_append_left _ (List.mem_map.mpr ⟨x, hx, rfl⟩))))
  have co : ∀ x ∈ conL, x.ok K = true := fun x hx => D.facts (List.mem_append_right _ (List.mem_append_right _ hx))
  have e := hfa.symm.trans (gl "law" (by decide +kernel))
  cases e
  obtain ⟨d0, U0⟩ := D.def_ 0 (d := dG "is_name" 11) rfl
  have F0 : Fun K "is_name" "is_name" (top 11) (He.ga K "is_name") d0 := fun_of U0
  have b0 : L2.Binds K d0 ["thing"] [] := F0.binds fun _ _ _ _ _ _ us hl => match us, hl with | [_], _ => rfl
  have a0 : At K mg "is_name" (He.ga K "is_name") d0 ["thing"] := ⟨gl _ (by decide +kernel), F0.kp, b0⟩
  obtain ⟨d1, U1⟩ := D.def_ 1 (d := dG "is_path" 12) rfl
  have F1 : Fun K "is_path" "is_path" (top 12) (He.ga K "is_path") d1 := fun_of U1
  have b1 : L2.Binds K d1 ["thing"] [] := F1.binds fun _ _ _ _ _ _ us hl => match us, hl with | [_], _ => rfl
  have a1 : At K mg "is_path" (He.ga K "is_path") d1 ["thing"] := ⟨gl _ (by decide +kernel), F1.kp, b1⟩
  obtain ⟨d2, U2⟩ := D.def_ 2 (d := dG "is_place" 13) rfl
  have F2 : Fun K "is_place" "is_place" (top 13) (He.ga K "is_place") d2 := fun_of U2
  have b2 : L2.Binds K d2 ["thing"] [] := F2.binds fun _ _ _ _ _ _ us hl => match us, hl with | [_], _ => rfl
  have a2 : At K mg "is_place" (He.ga K "is_place") d2 ["thing"] := ⟨gl _ (by decide +kernel), F2.kp, b2⟩
  obtain ⟨d3, U3⟩ := D.def_ 3 (d := dG "beginning" 14) rfl
  have F3 : Fun K "beginning" "beginning" (top 14) (He.ga K "beginning") d3 := fun_of U3
  have b3 : L2.Binds K d3 ["place"] [] := F3.binds fun _ _ _ _ _ _ us hl => match us, hl with | [_], _ => rfl
  have a3 : At K mg "beginning" (He.ga K "beginning") d3 ["place"] := ⟨gl _ (by decide +kernel), F3.kp, b3⟩
  obtain ⟨d4, U4⟩ := D.def_ 4 (d := dG "is_beneath" 15) rfl
  have F4 : Fun K "is_beneath" "is_beneath" (top 15) (He.ga K "is_beneath") d4 := fun_of U4
  have b4 : L2.Binds K d4 ["path", "place"] [] := F4.binds fun _ _ _ _ _ _ us hl => match us, hl with | [_, _], _ => rfl
  have a4 : At K mg "is_beneath" (He.ga K "is_beneath") d4 ["path", "place"] := ⟨gl _ (by decide +kernel), F4.kp, b4⟩
  obtain ⟨d5, U5⟩ := D.def_ 5 (d := dG "is_at_or_beneath" 16) rfl
  have F5 : Fun K "is_at_or_beneath" "is_at_or_beneath" (top 16) (He.ga K "is_at_or_beneath") d5 := fun_of U5
  have b5 : L2.Binds K d5 ["path", "place"] [] := F5.binds fun _ _ _ _ _ _ us hl => match us, hl with | [_, _], _ => rfl
  have a5 : At K mg "is_at_or_beneath" (He.ga K "is_at_or_beneath") d5 ["path", "place"] := ⟨gl _ (by decide +kernel), F5.kp, b5⟩
  obtain ⟨d6, U6⟩ := D.def_ 6 (d := dG "rest_in" 17) rfl
  have F6 : Fun K "rest_in" "rest_in" (top 17) (He.ga K "rest_in") d6 := fun_of U6
  have b6 : L2.Binds K d6 ["path", "place"] [] := F6.binds fun _ _ _ _ _ _ us hl => match us, hl with | [_, _], _ => rfl
  have a6 : At K mg "rest_in" (He.ga K "rest_in") d6 ["path", "place"] := ⟨gl _ (by decide +kernel), F6.kp, b6⟩
  obtain ⟨d7, U7⟩ := D.def_ 7 (d := dG "is_row" 19) rfl
  have F7 : Fun K "is_row" "is_row" (top 19) (He.ga K "is_row") d7 := fun_of U7
  have b7 : L2.Binds K d7 ["thing", "size"] [] := F7.binds fun _ _ _ _ _ _ us hl => match us, hl with | [_, _], _ => rfl
  have a7 : At K mg "is_row" (He.ga K "is_row") d7 ["thing", "size"] := ⟨gl _ (by decide +kernel), F7.kp, b7⟩
  obtain ⟨d8, U8⟩ := D.def_ 8 (d := dG "as_look" 20) rfl
  have F8 : Fun K "as_look" "as_look" (top 20) (He.ga K "as_look") d8 := fun_of U8
  have b8 : L2.Binds K d8 ["thing"] [] := F8.binds fun _ _ _ _ _ _ us hl => match us, hl with | [_], _ => rfl
  have a8 : At K mg "as_look" (He.ga K "as_look") d8 ["thing"] := ⟨gl _ (by decide +kernel), F8.kp, b8⟩
  obtain ⟨d9, U9⟩ := D.def_ 9 (d := dG "can_look" 21) rfl
  have F9 : Fun K "can_look" "can_look" (top 21) (He.ga K "can_look") d9 := fun_of U9
  have b9 : L2.Binds K d9 ["word", "where"] [] := F9.binds fun _ _ _ _ _ _ us hl => match us, hl with | [_, _], _ => rfl
  have a9 : At K mg "can_look" (He.ga K "can_look") d9 ["word", "where"] := ⟨gl _ (by decide +kernel), F9.kp, b9⟩
  obtain ⟨d10, U10⟩ := D.def_ 10 (d := dG "can_show" 22) rfl
  have F10 : Fun K "can_show" "can_show" (top 22) (He.ga K "can_show") d10 := fun_of U10
  have b10 : L2.Binds K d10 ["look", "answer"] [] := F10.binds fun _ _ _ _ _ _ us hl => match us, hl with | [_, _], _ => rfl
  have a10 : At K mg "can_show" (He.ga K "can_show") d10 ["look", "answer"] := ⟨gl _ (by decide +kernel), F10.kp, b10⟩
  obtain ⟨d11, U11⟩ := D.def_ 11 (d := dG "is_listing" 23) rfl
  have F11 : Fun K "is_listing" "is_listing" (top 23) (He.ga K "is_listing") d11 := fun_of U11
  have b11 : L2.Binds K d11 ["thing"] [] := F11.binds fun _ _ _ _ _ _ us hl => match us, hl with | [_], _ => rfl
  have a11 : At K mg "is_listing" (He.ga K "is_listing") d11 ["thing"] := ⟨gl _ (by decide +kernel), F11.kp, b11⟩
  obtain ⟨d12, U12⟩ := D.def_ 12 (d := dG "is_entry" 24) rfl
  have F12 : Fun K "is_entry" "is_entry" (top 24) (He.ga K "is_entry") d12 := fun_of U12
  have b12 : L2.Binds K d12 ["thing"] [] := F12.binds fun _ _ _ _ _ _ us hl => match us, hl with | [_], _ => rfl
  have a12 : At K mg "is_entry" (He.ga K "is_entry") d12 ["thing"] := ⟨gl _ (by decide +kernel), F12.kp, b12⟩
  obtain ⟨d13, U13⟩ := D.def_ 13 (d := dG "as_sight" 25) rfl
  have F13 : Fun K "as_sight" "as_sight" (top 25) (He.ga K "as_sight") d13 := fun_of U13
  have b13 : L2.Binds K d13 ["thing"] [] := F13.binds fun _ _ _ _ _ _ us hl => match us, hl with | [_], _ => rfl
  have a13 : At K mg "as_sight" (He.ga K "as_sight") d13 ["thing"] := ⟨gl _ (by decide +kernel), F13.kp, b13⟩
  obtain ⟨d14, U14⟩ := D.def_ 14 (d := dG "follows_from" 28) rfl
  have F14 : Fun K "follows_from" "follows_from" (top 28) (He.ga K "follows_from") d14 := fun_of U14
  have b14 : L2.Binds K d14 ["one", "other"] [] := F14.binds fun _ _ _ _ _ _ us hl => match us, hl with | [_, _], _ => rfl
  have a14 : At K mg "follows_from" (He.ga K "follows_from") d14 ["one", "other"] := ⟨gl _ (by decide +kernel), F14.kp, b14⟩
  obtain ⟨d15, U15⟩ := D.def_ 15 (d := dG "lost_by_file" 29) rfl
  have F15 : Fun K "lost_by_file" "lost_by_file" (top 29) (He.ga K "lost_by_file") d15 := fun_of U15
  have b15 : L2.Binds K d15 ["file_path", "lost"] [] := F15.binds fun _ _ _ _ _ _ us hl => match us, hl with | [_, _], _ => rfl
  have a15 : At K mg "lost_by_file" (He.ga K "lost_by_file") d15 ["file_path", "lost"] := ⟨gl _ (by decide +kernel), F15.kp, b15⟩
  obtain ⟨d16, U16⟩ := D.def_ 16 (d := dG "lost_by_names" 30) rfl
  have F16 : Fun K "lost_by_names" "lost_by_names" (top 30) (He.ga K "lost_by_names") d16 := fun_of U16
  have b16 : L2.Binds K d16 ["place", "names", "lost"] [] := F16.binds fun _ _ _ _ _ _ us hl => match us, hl with | [_, _, _], _ => rfl
  have a16 : At K mg "lost_by_names" (He.ga K "lost_by_names") d16 ["place", "names", "lost"] := ⟨gl _ (by decide +kernel), F16.kp, b16⟩
  obtain ⟨d17, U17⟩ := D.def_ 17 (d := dG "bar_each_other" 31) rfl
  have F17 : Fun K "bar_each_other" "bar_each_other" (top 31) (He.ga K "bar_each_other") d17 := fun_of U17
  have b17 : L2.Binds K d17 ["one", "other"] [] := F17.binds fun _ _ _ _ _ _ us hl => match us, hl with | [_, _], _ => rfl
  have a17 : At K mg "bar_each_other" (He.ga K "bar_each_other") d17 ["one", "other"] := ⟨gl _ (by decide +kernel), F17.kp, b17⟩
  obtain ⟨d18, U18⟩ := D.def_ 18 (d := dG "denies_some" 32) rfl
  have F18 : Fun K "denies_some" "denies_some" (top 32) (He.ga K "denies_some") d18 := fun_of U18
  have b18 : L2.Binds K d18 ["sight", "others"] [] := F18.binds fun _ _ _ _ _ _ us hl => match us, hl with | [_, _], _ => rfl
  have a18 : At K mg "denies_some" (He.ga K "denies_some") d18 ["sight", "others"] := ⟨gl _ (by decide +kernel), F18.kp, b18⟩
  obtain ⟨d19, U19⟩ := D.def_ 19 (d := dG "contraries" 33) rfl
  have F19 : Fun K "contraries" "contraries" (top 33) (He.ga K "contraries") d19 := fun_of U19
  have b19 : L2.Binds K d19 ["sight"] [] := F19.binds fun _ _ _ _ _ _ us hl => match us, hl with | [_], _ => rfl
  have a19 : At K mg "contraries" (He.ga K "contraries") d19 ["sight"] := ⟨gl _ (by decide +kernel), F19.kp, b19⟩
  obtain ⟨d20, U20⟩ := D.def_ 20 (d := dG "contrary_of_entry" 34) rfl
  have F20 : Fun K "contrary_of_entry" "contrary_of_entry" (top 34) (He.ga K "contrary_of_entry") d20 := fun_of U20
  have b20 : L2.Binds K d20 ["place", "entry"] [] := F20.binds fun _ _ _ _ _ _ us hl => match us, hl with | [_, _], _ => rfl
  have a20 : At K mg "contrary_of_entry" (He.ga K "contrary_of_entry") d20 ["place", "entry"] := ⟨gl _ (by decide +kernel), F20.kp, b20⟩
  obtain ⟨d21, U21⟩ := D.def_ 21 (d := dG "first_apart" 35) rfl
  have F21 : Fun K "first_apart" "first_apart" (top 35) (He.ga K "first_apart") d21 := fun_of U21
  have b21 : L2.Binds K d21 ["sights"] [] := F21.binds fun _ _ _ _ _ _ us hl => match us, hl with | [_], _ => rfl
  have a21 : At K mg "first_apart" (He.ga K "first_apart") d21 ["sights"] := ⟨gl _ (by decide +kernel), F21.kp, b21⟩
  obtain ⟨d22, U22⟩ := D.def_ 22 (d := dG "check_together" 37) rfl
  have F22 : Fun K "check_together" "check_together" (top 37) (He.ga K "check_together") d22 := fun_of U22
  have b22 : L2.Binds K d22 ["plain"] [] := F22.binds fun _ _ _ _ _ _ us hl => match us, hl with | [_], _ => rfl
  have a22 : At K mg "check_together" (He.ga K "check_together") d22 ["plain"] := ⟨gl _ (by decide +kernel), F22.kp, b22⟩
  obtain ⟨d23, U23⟩ := D.def_ 23 (d := dG "sights_of_run" 40) rfl
  have F23 : Fun K "sights_of_run" "sights_of_run" (top 40) (He.ga K "sights_of_run") d23 := fun_of U23
  have b23 : L2.Binds K d23 ["things"] [] := F23.binds fun _ _ _ _ _ _ us hl => match us, hl with | [_], _ => rfl
  have a23 : At K mg "sights_of_run" (He.ga K "sights_of_run") d23 ["things"] := ⟨gl _ (by decide +kernel), F23.kp, b23⟩
  obtain ⟨d24, U24⟩ := D.def_ 24 (d := dG "write_run" 45) rfl
  have F24 : Fun K "write_run" "write_run" (top 45) (He.ga K "write_run") d24 := fun_of U24
  have b24 : L2.Binds K d24 ["run"] [] := F24.binds fun _ _ _ _ _ _ us hl => match us, hl with | [_], _ => rfl
  have a24 : At K mg "write_run" (He.ga K "write_run") d24 ["run"] := ⟨gl _ (by decide +kernel), F24.kp, b24⟩
  obtain ⟨d25, U25⟩ := D.def_ 25 (d := dG "read_run" 46) rfl
  have F25 : Fun K "read_run" "read_run" (top 46) (He.ga K "read_run") d25 := fun_of U25
  have b25 : L2.Binds K d25 ["text"] [] := F25.binds fun _ _ _ _ _ _ us hl => match us, hl with | [_], _ => rfl
  have a25 : At K mg "read_run" (He.ga K "read_run") d25 ["text"] := ⟨gl _ (by decide +kernel), F25.kp, b25⟩
  obtain ⟨d26, U26⟩ := D.def_ 26 (d := dG "look_text" 47) rfl
  have F26 : Fun K "look_text" "look_text" (top 47) (He.ga K "look_text") d26 := fun_of U26
  have b26 : L2.Binds K d26 ["look"] [] := F26.binds fun _ _ _ _ _ _ us hl => match us, hl with | [_], _ => rfl
  have a26 : At K mg "look_text" (He.ga K "look_text") d26 ["look"] := ⟨gl _ (by decide +kernel), F26.kp, b26⟩
  obtain ⟨d27, U27⟩ := D.def_ 27 (d := dG "answer_text" 48) rfl
  have F27 : Fun K "answer_text" "answer_text" (top 48) (He.ga K "answer_text") d27 := fun_of U27
  have b27 : L2.Binds K d27 ["answer"] [] := F27.binds fun _ _ _ _ _ _ us hl => match us, hl with | [_], _ => rfl
  have a27 : At K mg "answer_text" (He.ga K "answer_text") d27 ["answer"] := ⟨gl _ (by decide +kernel), F27.kp, b27⟩
  obtain ⟨d28, U28⟩ := D.def_ 28 (d := dG "sight_in" 49) rfl
  have F28 : Fun K "sight_in" "sight_in" (top 49) (He.ga K "sight_in") d28 := fun_of U28
  have b28 : L2.Binds K d28 ["line"] [] := F28.binds fun _ _ _ _ _ _ us hl => match us, hl with | [_], _ => rfl
  have a28 : At K mg "sight_in" (He.ga K "sight_in") d28 ["line"] := ⟨gl _ (by decide +kernel), F28.kp, b28⟩
  obtain ⟨d29, U29⟩ := D.def_ 29 (d := dG "outcome_in" 50) rfl
  have F29 : Fun K "outcome_in" "outcome_in" (top 50) (He.ga K "outcome_in") d29 := fun_of U29
  have b29 : L2.Binds K d29 ["line"] [] := F29.binds fun _ _ _ _ _ _ us hl => match us, hl with | [_], _ => rfl
  have a29 : At K mg "outcome_in" (He.ga K "outcome_in") d29 ["line"] := ⟨gl _ (by decide +kernel), F29.kp, b29⟩
  obtain ⟨d30, U30⟩ := D.def_ 30 (d := dG "look_in" 51) rfl
  have F30 : Fun K "look_in" "look_in" (top 51) (He.ga K "look_in") d30 := fun_of U30
  have b30 : L2.Binds K d30 ["head"] [] := F30.binds fun _ _ _ _ _ _ us hl => match us, hl with | [_], _ => rfl
  have a30 : At K mg "look_in" (He.ga K "look_in") d30 ["head"] := ⟨gl _ (by decide +kernel), F30.kp, b30⟩
  obtain ⟨d31, U31⟩ := D.def_ 31 (d := dG "answers_in" 52) rfl
  have F31 : Fun K "answers_in" "answers_in" (top 52) (He.ga K "answers_in") d31 := fun_of U31
  have b31 : L2.Binds K d31 ["shown"] [] := F31.binds fun _ _ _ _ _ _ us hl => match us, hl with | [_], _ => rfl
  have a31 : At K mg "answers_in" (He.ga K "answers_in") d31 ["shown"] := ⟨gl _ (by decide +kernel), F31.kp, b31⟩
  obtain ⟨d32, U32⟩ := D.def_ 32 (d := dG "is_between" 53) rfl
  have F32 : Fun K "is_between" "is_between" (top 53) (He.ga K "is_between") d32 := fun_of U32
  have b32 : L2.Binds K d32 ["text", "first", "last"] [] := F32.binds fun _ _ _ _ _ _ us hl => match us, hl with | [_, _, _], _ => rfl
  have a32 : At K mg "is_between" (He.ga K "is_between") d32 ["text", "first", "last"] := ⟨gl _ (by decide +kernel), F32.kp, b32⟩
  obtain ⟨d33, U33⟩ := D.def_ 33 (d := dG "_law_draw" 55) rfl
  have F33 : Fun K "_law_draw" "_law_draw" (top 55) (He.ga K "_law_draw") d33 := fun_of U33
  have b33 : L2.Binds K d33 ["_law_stream", "_law_many"] [] := F33.binds fun _ _ _ _ _ _ us hl => match us, hl with | [_, _], _ => rfl
  have a33 : At K mg "_law_draw" (He.ga K "_law_draw") d33 ["_law_stream", "_law_many"] := ⟨gl _ (by decide +kernel), F33.kp, b33⟩
  obtain ⟨d34, U34⟩ := D.def_ 34 (d := dG "_law_pick" 56) rfl
  have F34 : Fun K "_law_pick" "_law_pick" (top 56) (He.ga K "_law_pick") d34 := fun_of U34
  have b34 : L2.Binds K d34 ["_law_stream", "_law_things"] [] := F34.binds fun _ _ _ _ _ _ us hl => match us, hl with | [_, _], _ => rfl
  have a34 : At K mg "_law_pick" (He.ga K "_law_pick") d34 ["_law_stream", "_law_things"] := ⟨gl _ (by decide +kernel), F34.kp, b34⟩
  obtain ⟨d35, U35⟩ := D.def_ 35 (d := dG "_law_mixed" 57) rfl
  have F35 : Fun K "_law_mixed" "_law_mixed" (top 57) (He.ga K "_law_mixed") d35 := fun_of U35
  have b35 : L2.Binds K d35 ["_law_stream", "_law_things"] [] := F35.binds fun _ _ _ _ _ _ us hl => match us, hl with | [_, _], _ => rfl
  have a35 : At K mg "_law_mixed" (He.ga K "_law_mixed") d35 ["_law_stream", "_law_things"] := ⟨gl _ (by decide +kernel), F35.kp, b35⟩
  obtain ⟨d36, U36⟩ := D.def_ 36 (d := dG "_law_same" 58) rfl
  have F36 : Fun K "_law_same" "_law_same" (top 58) (He.ga K "_law_same") d36 := fun_of U36
  have b36 : L2.Binds K d36 ["_law_found", "_law_due"] [] := F36.binds fun _ _ _ _ _ _ us hl => match us, hl with | [_, _], _ => rfl
  have a36 : At K mg "_law_same" (He.ga K "_law_same") d36 ["_law_found", "_law_due"] := ⟨gl _ (by decide +kernel), F36.kp, b36⟩
  obtain ⟨d37, U37⟩ := D.def_ 37 (d := dG "_law_fresh" 59) rfl
  have F37 : Fun K "_law_fresh" "_law_fresh" (top 59) (He.ga K "_law_fresh") d37 := fun_of U37
  have b37 : L2.Binds K d37 ["_law_stream", "_law_taken"] [] := F37.binds fun _ _ _ _ _ _ us hl => match us, hl with | [_, _], _ => rfl
  have a37 : At K mg "_law_fresh" (He.ga K "_law_fresh") d37 ["_law_stream", "_law_taken"] := ⟨gl _ (by decide +kernel), F37.kp, b37⟩
  obtain ⟨d38, U38⟩ := D.def_ 38 (d := dG "_law_pool" 60) rfl
  have F38 : Fun K "_law_pool" "_law_pool" (top 60) (He.ga K "_law_pool") d38 := fun_of U38
  have b38 : L2.Binds K d38 ["_law_stream", "_law_many"] [] := F38.binds fun _ _ _ _ _ _ us hl => match us, hl with | [_, _], _ => rfl
  have a38 : At K mg "_law_pool" (He.ga K "_law_pool") d38 ["_law_stream", "_law_many"] := ⟨gl _ (by decide +kernel), F38.kp, b38⟩
  obtain ⟨d39, U39⟩ := D.def_ 39 (d := dG "_law_path" 61) rfl
  have F39 : Fun K "_law_path" "_law_path" (top 61) (He.ga K "_law_path") d39 := fun_of U39
  have b39 : L2.Binds K d39 ["_law_stream", "_law_pool_here", "_law_most"] [] := F39.binds fun _ _ _ _ _ _ us hl => match us, hl with | [_, _, _], _ => rfl
  have a39 : At K mg "_law_path" (He.ga K "_law_path") d39 ["_law_stream", "_law_pool_here", "_law_most"] := ⟨gl _ (by decide +kernel), F39.kp, b39⟩
  obtain ⟨d40, U40⟩ := D.def_ 40 (d := dG "_law_beneath" 62) rfl
  have F40 : Fun K "_law_beneath" "_law_beneath" (top 62) (He.ga K "_law_beneath") d40 := fun_of U40
  have b40 : L2.Binds K d40 ["_law_path_here", "_law_other"] [] := F40.binds fun _ _ _ _ _ _ us hl => match us, hl with | [_, _], _ => rfl
  have a40 : At K mg "_law_beneath" (He.ga K "_law_beneath") d40 ["_law_path_here", "_law_other"] := ⟨gl _ (by decide +kernel), F40.kp, b40⟩
  obtain ⟨d41, U41⟩ := D.def_ 41 (d := dG "_law_has_room" 63) rfl
  have F41 : Fun K "_law_has_room" "_law_has_room" (top 63) (He.ga K "_law_has_room") d41 := fun_of U41
  have b41 : L2.Binds K d41 ["_law_files_here", "_law_path_here"] [] := F41.binds fun _ _ _ _ _ _ us hl => match us, hl with | [_, _], _ => rfl
  have a41 : At K mg "_law_has_room" (He.ga K "_law_has_room") d41 ["_law_files_here", "_law_path_here"] := ⟨gl _ (by decide +kernel), F41.kp, b41⟩
  obtain ⟨d42, U42⟩ := D.def_ 42 (d := dG "_law_text" 64) rfl
  have F42 : Fun K "_law_text" "_law_text" (top 64) (He.ga K "_law_text") d42 := fun_of U42
  have b42 : L2.Binds K d42 ["_law_stream"] [] := F42.binds fun _ _ _ _ _ _ us hl => match us, hl with | [_], _ => rfl
  have a42 : At K mg "_law_text" (He.ga K "_law_text") d42 ["_law_stream"] := ⟨gl _ (by decide +kernel), F42.kp, b42⟩
  obtain ⟨d43, U43⟩ := D.def_ 43 (d := dG "_law_files" 65) rfl
  have F43 : Fun K "_law_files" "_law_files" (top 65) (He.ga K "_law_files") d43 := fun_of U43
  have b43 : L2.Binds K d43 ["_law_stream", "_law_pool_here", "_law_most"] [] := F43.binds fun _ _ _ _ _ _ us hl => match us, hl with | [_, _, _], _ => rfl
  have a43 : At K mg "_law_files" (He.ga K "_law_files") d43 ["_law_stream", "_law_pool_here", "_law_most"] := ⟨gl _ (by decide +kernel), F43.kp, b43⟩
  obtain ⟨d44, U44⟩ := D.def_ 44 (d := dG "_law_world" 66) rfl
  have F44 : Fun K "_law_world" "_law_world" (top 66) (He.ga K "_law_world") d44 := fun_of U44
  have b44 : L2.Binds K d44 ["_law_stream", "_law_pool_here", "_law_most"] [] := F44.binds fun _ _ _ _ _ _ us hl => match us, hl with | [_, _, _], _ => rfl
  have a44 : At K mg "_law_world" (He.ga K "_law_world") d44 ["_law_stream", "_law_pool_here", "_law_most"] := ⟨gl _ (by decide +kernel), F44.kp, b44⟩
  obtain ⟨d45, U45⟩ := D.def_ 45 (d := dG "_law_names_in" 67) rfl
  have F45 : Fun K "_law_names_in" "_law_names_in" (top 67) (He.ga K "_law_names_in") d45 := fun_of U45
  have b45 : L2.Binds K d45 ["_law_files_here", "_law_folder"] [] := F45.binds fun _ _ _ _ _ _ us hl => match us, hl with | [_, _], _ => rfl
  have a45 : At K mg "_law_names_in" (He.ga K "_law_names_in") d45 ["_law_files_here", "_law_folder"] := ⟨gl _ (by decide +kernel), F45.kp, b45⟩
  obtain ⟨d46, U46⟩ := D.def_ 46 (d := dG "_law_shows" 68) rfl
  have F46 : Fun K "_law_shows" "_law_shows" (top 68) (He.ga K "_law_shows") d46 := fun_of U46
  have b46 : L2.Binds K d46 ["_law_w", "_law_look_here"] [] := F46.binds fun _ _ _ _ _ _ us hl => match us, hl with | [_, _], _ => rfl
  have a46 : At K mg "_law_shows" (He.ga K "_law_shows") d46 ["_law_w", "_law_look_here"] := ⟨gl _ (by decide +kernel), F46.kp, b46⟩
  obtain ⟨d47, U47⟩ := D.def_ 47 (d := dG "_law_look" 69) rfl
  have F47 : Fun K "_law_look" "_law_look" (top 69) (He.ga K "_law_look") d47 := fun_of U47
  have b47 : L2.Binds K d47 ["_law_stream", "_law_pool_here"] [] := F47.binds fun _ _ _ _ _ _ us hl => match us, hl with | [_, _], _ => rfl
  have a47 : At K mg "_law_look" (He.ga K "_law_look") d47 ["_law_stream", "_law_pool_here"] := ⟨gl _ (by decide +kernel), F47.kp, b47⟩
  obtain ⟨d48, U48⟩ := D.def_ 48 (d := dG "_law_looks" 70) rfl
  have F48 : Fun K "_law_looks" "_law_looks" (top 70) (He.ga K "_law_looks") d48 := fun_of U48
  have b48 : L2.Binds K d48 ["_law_stream", "_law_pool_here", "_law_many"] [] := F48.binds fun _ _ _ _ _ _ us hl => match us, hl with | [_, _, _], _ => rfl
  have a48 : At K mg "_law_looks" (He.ga K "_law_looks") d48 ["_law_stream", "_law_pool_here", "_law_many"] := ⟨gl _ (by decide +kernel), F48.kp, b48⟩
  obtain ⟨d49, U49⟩ := D.def_ 49 (d := dG "_law_saw" 71) rfl
  have F49 : Fun K "_law_saw" "_law_saw" (top 71) (He.ga K "_law_saw") d49 := fun_of U49
  have b49 : L2.Binds K d49 ["_law_w", "_law_looks_here"] [] := F49.binds fun _ _ _ _ _ _ us hl => match us, hl with | [_, _], _ => rfl
  have a49 : At K mg "_law_saw" (He.ga K "_law_saw") d49 ["_law_w", "_law_looks_here"] := ⟨gl _ (by decide +kernel), F49.kp, b49⟩
  obtain ⟨d50, U50⟩ := D.def_ 50 (d := dG "_law_true_sights" 72) rfl
  have F50 : Fun K "_law_true_sights" "_law_true_sights" (top 72) (He.ga K "_law_true_sights") d50 := fun_of U50
  have b50 : L2.Binds K d50 ["_law_stream", "_law_pool_here", "_law_many"] [] := F50.binds fun _ _ _ _ _ _ us hl => match us, hl with | [_, _, _], _ => rfl
  have a50 : At K mg "_law_true_sights" (He.ga K "_law_true_sights") d50 ["_law_stream", "_law_pool_here", "_law_many"] := ⟨gl _ (by decide +kernel), F50.kp, b50⟩
  obtain ⟨d51, U51⟩ := D.def_ 51 (d := dG "_law_answer_text" 73) rfl
  have F51 : Fun K "_law_answer_text" "_law_answer_text" (top 73) (He.ga K "_law_answer_text") d51 := fun_of U51
  have b51 : L2.Binds K d51 ["_law_answer"] [] := F51.binds fun _ _ _ _ _ _ us hl => match us, hl with | [_], _ => rfl
  have a51 : At K mg "_law_answer_text" (He.ga K "_law_answer_text") d51 ["_law_answer"] := ⟨gl _ (by decide +kernel), F51.kp, b51⟩
  obtain ⟨d52, U52⟩ := D.def_ 52 (d := dG "_law_run_text" 74) rfl
  have F52 : Fun K "_law_run_text" "_law_run_text" (top 74) (He.ga K "_law_run_text") d52 := fun_of U52
  have b52 : L2.Binds K d52 ["_law_sights", "_law_outcome"] [] := F52.binds fun _ _ _ _ _ _ us hl => match us, hl with | [_, _], _ => rfl
  have a52 : At K mg "_law_run_text" (He.ga K "_law_run_text") d52 ["_law_sights", "_law_outcome"] := ⟨gl _ (by decide +kernel), F52.kp, b52⟩
  obtain ⟨d53, U53⟩ := D.def_ 53 (d := dG "law" 75) rfl
  have F53 : Fun K "law" "law" (top 75) (He.ga K "law") d53 := fun_of U53
  obtain ⟨d54, U54⟩ := D.def_ 54 (d := dI "BadSight" "__init__" "BadSight.__init__" 3 0 []) rfl
  have F54 : Fun K "__init__" "BadSight.__init__" (inClass (top 3) 0) (He.ma K (He.ga K "BadSight") "__init__") d54 := fun_of U54
  have b54 : L2.Binds K d54 ["self", "index"] [] := F54.binds fun _ _ _ _ _ _ us hl => match us, hl with | [_, _], _ => rfl
  obtain ⟨d55, U55⟩ := D.def_ 55 (d := dI "Apart" "__init__" "Apart.__init__" 4 0 []) rfl
  have F55 : Fun K "__init__" "Apart.__init__" (inClass (top 4) 0) (He.ma K (He.ga K "Apart") "__init__") d55 := fun_of U55
  have b55 : L2.Binds K d55 ["self", "first", "second"] [] := F55.binds fun _ _ _ _ _ _ us hl => match us, hl with | [_, _, _], _ => rfl
  obtain ⟨d56, U56⟩ := D.def_ 56 (d := dI "Run" "__init__" "Run.__init__" 39 0 []) rfl
  have F56 : Fun K "__init__" "Run.__init__" (inClass (top 39) 0) (He.ma K (He.ga K "Run") "__init__") d56 := fun_of U56
  have b56 : L2.Binds K d56 ["self", "sights", "outcome"] [] := F56.binds fun _ _ _ _ _ _ us hl => match us, hl with | [_, _, _], _ => rfl
  obtain ⟨d57, U57⟩ := D.def_ 57 (d := dI "Run" "__eq__" "Run.__eq__" 39 4 []) rfl
  have F57 : Fun K "__eq__" "Run.__eq__" (inClass (top 39) 4) (He.ma K (He.ga K "Run") "__eq__") d57 := fun_of U57
  have b57 : L2.Binds K d57 ["self", "other"] [] := F57.binds fun _ _ _ _ _ _ us hl => match us, hl with | [_, _], _ => rfl
  have bL : ∀ (s : Shared) (u : Value), BindsTo s d53 ⟨[u], []⟩ [("_law_script", u)] := by
    obtain ⟨oc, od, kV, doc, pm, an, cdv, ct, osl, rfl, lk, hcd⟩ := F53.ex
    exact fun s u => .of_eq rfl
  refine ⟨d53, bL, fun base KB GB SM => ?_⟩
  have T : TB mg := ⟨(fr _ (by decide +kernel)), (fr _ (by decide +kernel)), (fr _ (by decide +kernel)), (fr _ (by decide +kernel)), (fr _ (by decide +kernel)), (fr _ (by decide +kernel)), (fr _ (by decide +kernel)), (fr _ (by decide +kernel)), (fr _ (by decide +kernel)), (fr _ (by decide +kernel)), (fr _ (by decide +kernel)), (fr _ (by decide +kernel))⟩
  have T0 : TPk mg := ⟨T, He.str_ok X G (co _ (List.mem_cons_self ..)), He.str_ok X G (co _ (List.mem_cons_of_mem _ (List.mem_cons_self ..))), He.str_ok X G (co _ (List.mem_cons_of_mem _ (List.mem_cons_of_mem _ (List.mem_cons_self ..)))), He.int_ok X G (co _ (List.mem_cons_of_mem _ (List.mem_cons_of_mem _ (List.mem_cons_of_mem _ (List.mem_cons_self ..)))))⟩
  obtain ⟨xBS, ex⟩ := He.ba ex
  obtain ⟨xA, ex⟩ := He.ba ex
  obtain ⟨xA2, ex⟩ := He.ba ex
  obtain ⟨xR, ex⟩ := He.ba ex
  obtain ⟨xRf, ex⟩ := He.ba ex
  have xTL := ex
  have cR := HB.clsB_ok xR
  have fR := HB.firB_ok xRf
  have hTL := HB.twoB_ok xTL
  have R0 : RCl K mg (He.ga K "Run") := ⟨(gl _ (by decide +kernel)), He.cls_ok (co _ (List.mem_cons_of_mem _ (List.mem_cons_of_mem _ (List.mem_cons_of_mem _ (List.mem_cons_of_mem _ (List.mem_cons_of_mem _ (List.mem_cons_of_mem _ (List.mem_cons_self ..)))))))), He.noat_ok (co _ (List.mem_cons_of_mem _ (List.mem_cons_of_mem _ (List.mem_cons_of_mem _ (List.mem_cons_of_mem _ (List.mem_cons_of_mem _ (List.mem_cons_of_mem _ (List.mem_cons_of_mem _ (List.mem_cons_self ..))))))))), He.noat_ok (co _ (List.mem_cons_of_mem _ (List.mem_cons_of_mem _ (List.mem_cons_of_mem _ (List.mem_cons_of_mem _ (List.mem_cons_of_mem _ (List.mem_cons_of_mem _ (List.mem_cons_of_mem _ (List.mem_cons_of_mem _ (List.mem_cons_self ..))))))))))⟩
  have IR0 : ClIs K (He.ga K "Run") := ⟨cR.ha, cR.hn, cR.ht, cR.hm, cR.kC⟩
  have TX0 : TX mg := ⟨He.str_ok X G (co _ (List.mem_cons_of_mem _ (List.mem_cons_of_mem _ (List.mem_cons_of_mem _ (List.mem_cons_of_mem _ (List.mem_cons_of_mem _ (List.mem_cons_of_mem _ (List.mem_cons_of_mem _ (List.mem_cons_of_mem _ (List.mem_cons_of_mem _ (List.mem_cons_self ..))))))))))), He.str_ok X G (co _ (List.mem_cons_of_mem _ (List.mem_cons_of_mem _ (List.mem_cons_of_mem _ (List.mem_cons_of_mem _ (List.mem_cons_of_mem _ (List.mem_cons_of_mem _ (List.mem_cons_of_mem _ (List.mem_cons_of_mem _ (List.mem_cons_of_mem _ (List.mem_cons_of_mem _ (List.mem_cons_self ..)))))))))))), He.str_ok X G (co _ (List.mem_cons_of_mem _ (List.mem_cons_of_mem _ (List.mem_cons_of_mem _ (List.mem_cons_of_mem _ (List.mem_cons_of_mem _ (List.mem_cons_of_mem _ (List.mem_cons_of_mem _ (List.mem_cons_of_mem _ (List.mem_cons_of_mem _ (List.mem_cons_of_mem _ (List.mem_cons_of_mem _ (List.mem_cons_self ..)))))))))))))⟩
  have BS : BSig K mg (He.ga K "BadSight") (He.ma K (He.ga K "BadSight") "__init__") := HB.ecl_of xBS (gl _ (by decide +kernel))
  have BA : BApart K mg (He.ga K "Apart") (He.ma K (He.ga K "Apart") "__init__") := HB.ecl2_of xA xA2 (gl _ (by decide +kernel))
  have G1__law_draw := ok_draw (P := P) (w := w) (base := base) (mg := mg) F33 ⟨(fr _ (by decide +kernel))⟩
  have G4__law_pick := ok_pick (P := P) (w := w) (base := base) (mg := mg) F34 ⟨T.int, T.len, T.range, T.list, a33.m, a33.k, a33.b⟩ G1__law_draw
  have G3__law_fresh := ok_fresh (P := P) (w := w) (base := base) (mg := mg) F37 T a33 a34 G1__law_draw G4__law_pick
  have G2__law_pool := ok_pool (P := P) (w := w) (base := base) (mg := mg) F38 T a37 G3__law_fresh
  have G8__law_path := ok_path (P := P) (w := w) (base := base) (mg := mg) F39 T a33 a34 G1__law_draw G4__law_pick
  have G10__law_beneath := ok_beneath (P := P) (w := w) (base := base) (mg := mg) F40 T
  have G9__law_has_room := ok_room (P := P) (w := w) (base := base) (mg := mg) F41 T a40 G10__law_beneath
  have G11__law_text := ok_text (P := P) (w := w) (base := base) (mg := mg) F42 a33 G1__law_draw
  have G7__law_files := ok_files (P := P) (w := w) (base := base) (mg := mg) F43 T a33 G1__law_draw a39 G8__law_path a41 G9__law_has_room a42 G11__law_text
  have G6__law_world := ok_world (P := P) (w := w) (base := base) (mg := mg) F44 T a33 G1__law_draw a43 G7__law_files a42 G11__law_text
  have G13__law_look := ok_look (P := P) (w := w) (base := base) (mg := mg) F47 T a33 a34 a39 G1__law_draw G4__law_pick G8__law_path
  have G12__law_looks := ok_looks (P := P) (w := w) (base := base) (mg := mg) F48 T a47 G13__law_look
  have G14__law_mixed := ok_mixedG (P := P) (w := w) (base := base) (mg := mg) F35 T a33 G1__law_draw
  have G17__law_names_in := ok_nin (P := P) (w := w) (base := base) (mg := mg) F45 T a40 G10__law_beneath
  have G16__law_shows := ok_shows (P := P) (w := w) (base := base) (mg := mg) F46 T a45 G17__law_names_in
  have G15__law_saw := ok_saw (P := P) (w := w) (base := base) (mg := mg) F49 T a46 G16__law_shows
  have G5__law_true_sights := ok_true (P := P) (w := w) (base := base) (mg := mg) F50 T a44 G6__law_world a48 G12__law_looks a35 G14__law_mixed a49 G15__law_saw
  have G19__law_answer_text := ok_lantx (P := P) (w := w) (base := base) (mg := mg) F51 T
  have G18__law_run_text := ok_lrntx (P := P) (w := w) (base := base) (mg := mg) F52 T a51 G19__law_answer_text
  have G21_look_text := ok_lktx (P := P) (w := w) (base := base) (mg := mg) F26 T0
  have G22_answer_text := ok_antx (P := P) (w := w) (base := base) (mg := mg) F27 T TX0
  have G20_write_run := ok_wr (P := P) (w := w) (base := base) (mg := mg) F24 TX0 R0 a26 G21_look_text a27 G22_answer_text
  have G28_is_row := ok_row (P := P) (w := w) (base := base) (mg := mg) F7 T
  have G31_is_name := ok_isName (P := P) (w := w) (base := base) (mg := mg) F0 T0
  have G32_is_path := ok_isPath (P := P) (w := w) (base := base) (mg := mg) F1 T0 a0 G31_is_name
  have G33_is_place := ok_isPlace (P := P) (w := w) (base := base) (mg := mg) F2 T0 a1 G32_is_path
  have G30_can_look := ok_canLook (P := P) (w := w) (base := base) (mg := mg) F9 T0 a0 a1 a2 G31_is_name G32_is_path G33_is_place
  have G29_as_look := ok_asLook (P := P) (w := w) (base := base) (mg := mg) F8 T a7 a9 G28_is_row G30_can_look
  have G36_is_entry := ok_isEntry (P := P) (w := w) (base := base) (mg := mg) F12 T0 a0 G31_is_name
  have G35_is_listing := ok_isListing (P := P) (w := w) (base := base) (mg := mg) F11 T0 a12 G36_is_entry
  have G34_can_show := ok_canShow (P := P) (w := w) (base := base) (mg := mg) F10 T0 a11 G35_is_listing
  have G27_as_sight := ok_asSight (P := P) (w := w) (base := base) (mg := mg) F13 T a7 a8 a10 G28_is_row G29_as_look G34_can_show
  have G39_is_row := ok_rowO (P := P) (w := w) (base := base) (mg := mg) F7 T
  have G38_is_row : FnOk P w K mg base CX0 1 (He.ga K "is_row") d7 ["thing", "size"] spRow2 := FnOk_or G28_is_row G39_is_row
  have G43_is_name := ok_isNameO (P := P) (w := w) (base := base) (mg := mg) F0 T0
  have G44_is_path := ok_isPathO (P := P) (w := w) (base := base) (mg := mg) F1 T0 a0 G31_is_name
  have G45_is_place := ok_isPlaceO (P := P) (w := w) (base := base) (mg := mg) F2 T0 a1 G44_is_path
  have G42_can_look := ok_canLookO (P := P) (w := w) (base := base) (mg := mg) F9 T0 a0 a1 a2 G31_is_name G43_is_name G44_is_path G45_is_place
  have G41_as_look := ok_asLookO (P := P) (w := w) (base := base) (mg := mg) F8 T a7 a9 G28_is_row G39_is_row G42_can_look
  have G40_as_look : FnOk P w K mg base CX0 5 (He.ga K "as_look") d8 ["thing"] spAsLook2 := FnOk_or G29_as_look G41_as_look
  have G49_is_entry := ok_isEntryG (P := P) (w := w) (base := base) (mg := mg) F12 T0 a0 G31_is_name
  have G48_is_listing := ok_isListingO (P := P) (w := w) (base := base) (mg := mg) F11 T0 a12 G49_is_entry
  have G47_is_listing : FnOk P w K mg base CX0 3 (He.ga K "is_listing") d11 ["thing"] spIsListing2 := FnOk_or G35_is_listing G48_is_listing
  have G46_can_show := ok_canShowO (P := P) (w := w) (base := base) (mg := mg) F10 T0 a11 G47_is_listing
  have G37_as_sight := ok_asSightO (P := P) (w := w) (base := base) (mg := mg) F13 T a7 a8 a10 G38_is_row G40_as_look G46_can_show
  have G26_as_sight : FnOk P w K mg base CX0 6 (He.ga K "as_sight") d13 ["thing"] spAsSight2 := FnOk_or G27_as_sight G37_as_sight
  have G50_BadSight___init__ := ok_sini (P := P) (w := w) (base := base) (mg := mg) F54 BS
  have G25_sights_of_run := ok_sor (P := P) (w := w) (base := base) (mg := mg) F23 T a13 G26_as_sight BS b54 G50_BadSight___init__
  have G59_beginning := ok_beg (P := P) (w := w) (base := base) (mg := mg) F3 T0
  have G58_is_beneath := ok_ben (P := P) (w := w) (base := base) (mg := mg) F4 a3 G59_beginning
  have G57_is_at_or_beneath := ok_at (P := P) (w := w) (base := base) (mg := mg) F5 a4 G58_is_beneath
  have G56_lost_by_file := ok_lostF (P := P) (w := w) (base := base) (mg := mg) F15 a5 a4 G57_is_at_or_beneath G58_is_beneath
  have G61_rest_in := ok_rest (P := P) (w := w) (base := base) (mg := mg) F6 T0 a3 G59_beginning
  have G60_lost_by_names := ok_lostN (P := P) (w := w) (base := base) (mg := mg) F16 T0 a5 a4 a6 G57_is_at_or_beneath G58_is_beneath G61_rest_in
  have G55_follows_from := ok_follows (P := P) (w := w) (base := base) (mg := mg) F14 (gl "TREE_LOOKS" (by decide +kernel)) hTL a15 a16 a4 G56_lost_by_file G60_lost_by_names G58_is_beneath
  have G54_denies_some := ok_denies (P := P) (w := w) (base := base) (mg := mg) F18 T a14 G55_follows_from
  have G63_contrary_of_entry := ok_contrE (P := P) (w := w) (base := base) (mg := mg) F20 T0 a3 G59_beginning
  have G62_contraries := ok_contr (P := P) (w := w) (base := base) (mg := mg) F19 (gl "TREE_LOOKS" (by decide +kernel)) hTL a20 G63_contrary_of_entry
  have G53_bar_each_other := ok_barE (P := P) (w := w) (base := base) (mg := mg) F17 a18 a19 G54_denies_some G62_contraries
  have G52_first_apart := ok_first (P := P) (w := w) (base := base) (mg := mg) F21 T a17 G53_bar_each_other
  have G64_Apart___init__ := ok_aini (P := P) (w := w) (base := base) (mg := mg) F55 BA
  have G51_check_together := ok_tog (P := P) (w := w) (base := base) (mg := mg) F22 T a21 G52_first_apart BA b55 G64_Apart___init__
  have G24_Run___init__ := ok_rini (P := P) (w := w) (base := base) (mg := mg) F56 T R0 a23 G25_sights_of_run a22 G51_check_together
  have G67_is_between := ok_btw (P := P) (w := w) (base := base) (mg := mg) F32 T
  have G66_answers_in := ok_ansin (P := P) (w := w) (base := base) (mg := mg) F31 T TX0 a32 G67_is_between
  have G68_look_in := ok_lkin (P := P) (w := w) (base := base) (mg := mg) F30 T0 a8 G29_as_look
  have G65_sight_in := ok_sgin (P := P) (w := w) (base := base) (mg := mg) F28 T TX0 a31 G66_answers_in a30 G68_look_in a13 G26_as_sight
  have G69_outcome_in := ok_ouin (P := P) (w := w) (base := base) (mg := mg) F29 T TX0 a31 G66_answers_in
  have G23_read_run := ok_rd (P := P) (w := w) (base := base) (mg := mg) F25 T R0 (He.mkr_ok (co _ (List.mem_cons_of_mem _ (List.mem_cons_of_mem _ (List.mem_cons_of_mem _ (List.mem_cons_of_mem _ (List.mem_cons_self ..))))))) b56 G24_Run___init__ a28 G65_sight_in a29 G69_outcome_in
  have G70__law_same := ok_same (P := P) (w := w) (base := base) (mg := mg) F36 (fr _ (by decide +kernel)) SM
  have G71_Run___eq__ := ok_req (P := P) (w := w) (base := base) (mg := mg) F57 T R0 IR0
  let fa : Str → Addr := fun m => if m = "D" then He.ga K "_law_draw" else if m = "LRnTx" then He.ga K "_law_run_text" else if m = "P" then He.ga K "_law_pick" else if m = "Po" then He.ga K "_law_pool" else if m = "REq" then He.ma K (He.ga K "Run") "__eq__" else if m = "RIni" then He.ma K (He.ga K "Run") "__init__" else if m = "Rd" then He.ga K "read_run" else if m = "Sa" then He.ga K "_law_same" else if m = "Te" then He.ga K "_law_text" else if m = "True" then He.ga K "_law_true_sights" else He.ga K "write_run"
  let fdd : Str → FuncData := fun m => if m = "D" then d33 else if m = "LRnTx" then d52 else if m = "P" then d34 else if m = "Po" then d38 else if m = "REq" then d57 else if m = "RIni" then d56 else if m = "Rd" then d25 else if m = "Sa" then d36 else if m = "Te" then d42 else if m = "True" then d50 else d24
  have V0 : LV P w K mg base (He.ga K "Run") (He.ga K "BadSight") (He.ga K "Apart") fa fdd :=
    { T := T, aD := a33, GD := G1__law_draw, aPo := a38, GPo := G2__law_pool, aTrue := a50, GTrue := G5__law_true_sights, aTe := a42, GTe := G11__law_text, aP := a34, GP := G4__law_pick, aLRnTx := a52, GLRnTx := G18__law_run_text, aWr := a24, GWr := G20_write_run, aRd := a25, GRd := G23_read_run, aSa := a36, GSa := G70__law_same, R := R0, IR := IR0, mkR := (He.mkr_ok (co _ (List.mem_cons_of_mem _ (List.mem_cons_of_mem _ (List.mem_cons_of_mem _ (List.mem_cons_of_mem _ (List.mem_cons_self ..))))))), bRIni := b56, GRIni0 := G24_Run___init__, mREq := (He.meth_ok (co _ (List.mem_cons_of_mem _ (List.mem_cons_of_mem _ (List.mem_cons_of_mem _ (List.mem_cons_of_mem _ (List.mem_cons_of_mem _ (List.mem_cons_self ..)))))))), bREq := b57, GREq := G71_Run___eq__, rne := cR.ne, rso := cR.so, nC := fR.nC }
  exact ok_law F53 V0 SM
end
end R3

set_option maxHeartbeats 0
open PySem PySem.W PySem.Calls PyProof.Rows
theorem PySem.Challenge.cw_trueagain_k30_run_texts_holds : PySem.Challenge.rw_trueagain_k30_run_texts.Holds := by
  w_on; o_law
  refine HandSHeadRun.head_any (r := R3.RL) (q := view R3.RL.prog [75]) (H := R3.hkL) (ob := R3.obL) (M := 20000) (loose := R3.looseL) (d := HandSHeadRun.topDef R3.RL.prog 75) (kwd := []) R3.obL_eq
    (by kernel_rfl) (fun s => by kernel_rfl) R3.runL (by kernel_rfl) (by kernel_rfl) (by kernel_rfl) (by rfl) (by first | assumption | decide +kernel) (by decide +kernel) ⟨rfl, rfl, rfl, rfl, rfl, by decide +kernel⟩ ?hw ?hc
  case hw => w_witness2
  case hc =>
    refine EG.walkG (l := PySem.Challenge.rw_trueagain_k30_run_texts) (n := 63) (k := 16) (x := "_law_script") rfl (by decide) (by kernel_rfl) ⟨rfl, by decide, by decide⟩ ?F
    intro w mg fa h Y GG hmg0
    obtain ⟨⟨K, KX, c⟩, sys⟩ := Y
    have hmg : mg ("law" : PySem.Str) = some (.ref fa) := by
      have e : (HandSHeadRun.topDef R3.RL.prog 75).name = ("law" : PySem.Str) := by kernel_rfl
      rw [← e]
      exact hmg0
    obtain ⟨fd, hb, hF⟩ := R3.whole (P := PySem.Challenge.rw_trueagain_k30_run_texts.prog) (w := w) KX GG hmg c
    have no : ∀ p : PySem.Addr × PySem.Addr, p ∉ ([] : List (PySem.Addr × PySem.Addr)) := fun p hp => by cases hp
    exact ⟨K, [], fd, R3.spLaw K, KX, fun p hp => absurd hp (no p), fun p hp => absurd hp (no p), fun p hp => absurd hp (no p), sys, hb, fun H a ns hl _ _ hS => ⟨a, ns, rfl, hl, hS, fun _ => rfl⟩, fun base b1 b2 _ b4 => hF base b1 b2 b4⟩
